import PyProof.Rows.All
import Wide.All
import OpenK.AllK
import Wide.FinOn
import HandS.ForMost
import HandS.IsInst
import HandS.SortInts
import HandS.DictComp
import HandS.Rev
import HandS.Strs
import HandS.SetFor
import HandS.Wide
import HandS.TupAny
import HandS.Evl
import KE.GoesEnum
import HandS.Walk
import HandS.Style
import HandS.Zip
import HandS.Zip0
import HandS.WordsDict
import HandS.Dict
import HandS.StrMore
import HandS.SetKeys
import HandS.Text
import HandS.ExcInit
import HandS.ExcOwn
import HandS.WordsExc
import HandS.TryOnly
import HandS.Small
import HandS.Codes
import PyProof.AutoSeq1
import HandS.Lambda
import HandS.TryMany
import HandS.EndOwn
import KE.KNest
import HandS.More
import HandS.ExcIs
import HandS.TupMul
import PyProof.StrOps2
import HandS.ListEq
import HandS.DictEq
import HandS.DeepEq
import HandS.Comp
import PyProof.Rows.ListMulArg
import PyProof.ReprRoads
import HandS.ListItems
import PyProof.DictUpdate
import HandS.ExcField
import PyProof.Rows.ReprOcc
import HandS.Nested
import KE.KeyNested
import KE.DataCmp
import KE.SortData
import KE.KDictList
import HandS.Conv
import PySem.Challenge.RW_wholeways_k35_checks_refused
set_option Elab.async false
set_option linter.all false
set_option maxRecDepth 100000
set_option maxHeartbeats 4000000
namespace Vw
open PySem PySem.Spec PyProof.Rows L2 RT

/-! ### operators of more than one kind -/
section
variable {X : Cx}
def rOr (r r' : R2) : R2 := fun x y H Q => r x y H Q ∨ r' x y H Q
theorem oOr {f : Value → Value → Sem Value} {r r' : R2} (a : OpR X f r) (b : OpR X f r') : OpR X f (rOr r r') := by
  intro pins s σ H x y v u Q I rx ry q
  cases q with
  | inl q => exact a pins s σ H x y v u Q I rx ry q
  | inr q => exact b pins s σ H x y v u Q I rx ry q
def cOr (r r' : List V → Hp → VK → Prop) : List V → Hp → VK → Prop := fun x H Q => r x H Q ∨ r' x H Q
theorem kOr {f : Value} {r r' : List V → Hp → VK → Prop} (a : CallR X f r) (b : CallR X f r') : CallR X f (cOr r r') := by
  intro pins s σ H xs us Q I rx q
  cases q with
  | inl q => exact a pins s σ H xs us Q I rx q
  | inr q => exact b pins s σ H xs us Q I rx q
abbrev rIAdd : R2 := rI0 fun i j => .int (i + j)
abbrev rSAdd' : R2 := fun x y H Q => ∃ i j, x = .str i ∧ y = .str j ∧ i.length + j.length ≤ sizeLine ∧ Q (.str (i ++ j)) H
theorem oAdd : OpR X (binaryOp .Add) (rOr rIAdd (rOr rCat rSAdd')) := oOr op_add (oOr op_cat op_add_str)
abbrev rIMul : R2 := rI CMul fun i j => .int (i * j)
theorem oMul : OpR X (binaryOp .Mult) (rOr rIMul rRep) := oOr op_mul op_rep
theorem oLt : OpR X (compareOp .Lt) (rI0 fun i j => .bl (decide (i < j))) := op_lt
variable {K : PySem.W.Frag}
theorem oEq (hu : X.A.units + 64 < cLine) (e : X.K = K := by rfl) : OpR X (compareOp .Eq) (rOr rEq (rEqD K)) := by cases e; exact oOr op_eq (op_eqD hu)
theorem oNe (hu : X.A.units + 64 < cLine) (e : X.K = K := by rfl) : OpR X (compareOp .NotEq) (rOr rNe (rNeD K)) := by cases e; exact oOr op_ne (op_neD hu)
theorem oIn (e : X.K = K := by rfl) : OpR X (compareOp .In) (rIn K false) := by cases e; exact op_in_seq
theorem oNotIn (e : X.K = K := by rfl) : OpR X (compareOp .NotIn) (rIn K true) := by cases e; exact op_notIn_seq
abbrev rIxLT (K : PySem.W.Frag) : R2 := fun x y H Q => rIxL K x y H Q ∨ rIxT K x y H Q
theorem ixLT (e : X.K = K := by rfl) : IxR X (rIxLT K) := by cases e; exact IxR.or ix_list ix_tup
def rLen' (K : PySem.W.Frag) : List V → Hp → VK → Prop := fun xs H Q => ∃ x n, xs = [x] ∧ LenV K x H n ∧ Q (.int n) H
theorem cLen (e : X.K = K := by rfl) : CallR X (.builtin "len") (rLen' K) := by cases e; exact call_len
theorem cIsi (e : X.K = K := by rfl) : CallR X (.builtin "isinstance") (rIsi K) := by cases e; exact call_isi
theorem cIsiT (e : X.K = K := by rfl) : CallR X (.builtin "isinstance") (rIsiT K) := by cases e; exact call_isiT
def rIsN0 : R2 := fun x y H Q => y = .non ∧ Q (.bl (decide (x = .non))) H
def rNoN0 : R2 := fun x y H Q => y = .non ∧ Q (.bl (!decide (x = .non))) H
theorem oIsN : OpR X (compareOp .Is) rIsN0 := op_isN
theorem oNotN : OpR X (compareOp .IsNot) rNoN0 := op_notN
theorem cAll (hc : X.calm = true) (e : X.K = K := by rfl) : CallR X (.builtin "all") (rAll K) := by cases e; exact cr_all hc
theorem cAny (hc : X.calm = true) (e : X.K = K := by rfl) : CallR X (.builtin "any") (rAny K) := by cases e; exact cr_any hc
theorem cSortI (e : X.K = K := by rfl) : CallR X (.builtin "sorted") (rSortedI K) := by cases e; exact cr_sortedI
def rListOf (K : PySem.W.Frag) : List V → Hp → VK → Prop := fun xs H Q => ∃ p ys, xs = [.ref p] ∧ (SqL K H p ys ∨ SqT K H p ys) ∧ ∀ l, H l = none → Q (.ref l) (upd H l (.lst ys))
theorem cListOf (e : X.K = K := by rfl) : CallR X (.type "list") (rListOf K) := by cases e; exact call_list_of
def rTupOf (K : PySem.W.Frag) : List V → Hp → VK → Prop := fun xs H Q => ∃ p ys, xs = [.ref p] ∧ ((SqL K H p ys ∧ ∀ l, H l = none → Q (.ref l) (upd H l (.tup ys))) ∨ (SqT K H p ys ∧ Q (.ref p) H))
theorem cTupOf (e : X.K = K := by rfl) : CallR X (.type "tuple") (rTupOf K) := by cases e; exact call_tuple_of
def rInt1 : List V → Hp → VK → Prop := fun xs H Q => (∃ i, xs = [.int i] ∧ Q (.int i) H) ∨ ∃ k, xs = [.bl k] ∧ Q (.int (if k then 1 else 0)) H
theorem cInt : CallR X (.type "int") rInt1 := call_int1
def rAbs : List V → Hp → VK → Prop := fun xs H Q => ∃ i, xs = [.int i] ∧ Q (.int (if i < 0 then -i else i)) H
theorem cAbs : CallR X (.builtin "abs") rAbs := call_abs
def rMin2 : List V → Hp → VK → Prop := fun xs H Q => ∃ i j, xs = [.int i, .int j] ∧ Q (.int (if j < i then j else i)) H
theorem cMin2 (hc : X.calm = true) : CallR X (.builtin "min") rMin2 := call_min2 hc
def rMax2 : List V → Hp → VK → Prop := fun xs H Q => ∃ i j, xs = [.int i, .int j] ∧ Q (.int (if j > i then j else i)) H
theorem cMax2 (hc : X.calm = true) : CallR X (.builtin "max") rMax2 := call_max2 hc
theorem slL (e : X.K = K := by rfl) : SlR X (rSlL K) := by cases e; exact sl_list
theorem piL {tg l : Expr} {tl : TE} (hl : PE X l tl) (e : X.K = K := by rfl) : PI X tg l (iList K tl) := by cases e; exact pi_list hl
theorem piT {tg l : Expr} {tl : TE} (hl : PE X l tl) (e : X.K = K := by rfl) : PI X tg l (iTup K tl) := by cases e; exact pi_tup hl
theorem piEnum {ex : Expr} {ta : TA} {p pos tpos : Pos} {elts : List Expr} {kk : Nat} (hg : Gl X "enumerate") (hm : X.mg "enumerate" = none) (ha : PA X [ex] ta) (e : X.K = K := by rfl) (hs : starEach [ex] X.env = [(false, eval ex X.env)] := by rfl) :
    PI X (.Tuple elts kk tpos) (.Call (.Name "enumerate" p) [ex] [] pos) (iEnum K ta) := by cases e; exact pi_enum hg hm ha hs
theorem piRev {tg ex : Expr} {te : TE} {p pos : Pos} (hg : Gl X "reversed") (hm : X.mg "reversed" = none) (he : PE X ex te) (e : X.K = K := by rfl) (hs : starEach [ex] X.env = (false, eval ex X.env) :: starEach [] X.env := by rfl) :
    PI X tg (.Call (.Name "reversed" p) [ex] [] pos) (iRevA K te) := by cases e; exact pi_revA hg hm he hs
theorem pgTup {es : List Expr} {k : Nat} {t : TGs} {n : Nat} {p : Pos} (h : PG X (.Tuple es k p) (gTup X.K n t)) (e : X.K = K := by rfl) : PG X (.Tuple es k p) (gTup K n t) := by cases e; exact h
theorem peApp {o ex : Expr} {to te : TE} {apos cpos : Pos} (h : PE X (.Call (.Attribute o "append" apos) [ex] [] cpos) (tBM X.K "list" rAppend to (tCons te tNil))) (e : X.K = K := by rfl) :
    PE X (.Call (.Attribute o "append" apos) [ex] [] cpos) (tBM K "list" rAppend to (tCons te tNil)) := by cases e; exact h
def tTruE (K : PySem.W.Frag) (ta : TE) : TT := fun σ H Q => ta σ H fun x H' => ∃ k, TruV K x H' k ∧ Q k H'
theorem ptTruth {a : Expr} {ta : TE} (ha : PE X a ta) (he : ∀ whole, isTrue a X.env whole = (do let v ← whole; standAt a.pos; holding [v] (truthy v))) (e : X.K = K := by rfl) : PT X a (tTruE K ta) := by cases e; exact pt_truth ha he
end

/-! ### heaps -/
theorem Same.new {H : Hp} {p : Addr} {o : HO} (h : H p = none) : Same H (upd H p o) := fun b x e => by
  rw [upd_ne (ne_of_none e h)]; exact e
theorem at_ {H H' : Hp} {a : Addr} {o : HO} (s : Same H H') (h : H a = some o) : H' a = some o := s a o h
theorem rd_ {H H' : Hp} {a : Addr} {o : HO} (s : Same H H') (h : Rd H a o) : Rd H' a o := by
  cases h with
  | inl h => exact .inl (s _ _ h)
  | inr h => exact .inr (h.elim fun u q => ⟨u, s _ _ q⟩)
section
variable {K : PySem.W.Frag} {H H' : Hp} {a p : Addr} {xs : List V} {o : HO}
theorem sl_ (s : Same H H') (h : SqL K H a xs) : SqL K H' a xs := h.elim (fun q => .inl (rd_ s q)) .inr
theorem st_ (s : Same H H') (h : SqT K H a xs) : SqT K H' a xs := h.elim (fun q => .inl (rd_ s q)) .inr
theorem slO (h : H a = some (.lst xs)) : SqL K H a xs := .inl (.inl h)
theorem stO (h : H a = some (.tup xs)) : SqT K H a xs := .inl (.inl h)
theorem ne_new (h : H a = some o) (n : H p = none) : a ≠ p := ne_of_none h n
theorem free_ (s : Same H H') (n : H' p = none) : H p = none := s.free n
end
theorem lt_size {n : Nat} (h : n < 100000) : n < sizeLine := Nat.lt_of_lt_of_le h (by decide)
theorem le_size {n : Nat} (h : n < 100000) : n ≤ sizeLine := Nat.le_of_lt (lt_size h)
/-- a new object, wherever -/
def NewQ (o : HO) (H : Hp) (Q : VK) : Prop := ∀ p, H p = none → Q (.ref p) (upd H p o)
/-- all but one object is as it was -/
def Oth (hd : Addr) (H H' : Hp) : Prop := ∀ b o, b ≠ hd → H b = some o → H' b = some o
theorem oth_sl {K : PySem.W.Frag} {hd a : Addr} {H H' : Hp} {xs : List V} (o : Oth hd H H') (n : a ≠ hd) (s : SqL K H a xs) : SqL K H' a xs := by
  rcases s with (s | ⟨u, s⟩) | s
  · exact .inl (.inl (o _ _ n s))
  · exact .inl (.inr ⟨u, o _ _ n s⟩)
  · exact .inr s
theorem oth_st {K : PySem.W.Frag} {hd a : Addr} {H H' : Hp} {xs ys : List V} (o : Oth hd H H') (n : H hd = some (.lst ys)) (s : SqT K H a xs) : SqT K H' a xs := by
  rcases s with (s | ⟨u, s⟩) | s
  · exact .inl (.inl (o _ _ (fun z => by rw [z, n] at s; cases s) s))
  · exact .inl (.inr ⟨u, o _ _ (fun z => by rw [z, n] at s; cases s) s⟩)
  · exact .inr s
theorem Oth.trans {hd : Addr} {H H1 H2 : Hp} (a : Oth hd H H1) (b : Oth hd H1 H2) : Oth hd H H2 := fun c o n h => b c o n (a c o n h)
theorem Same.oth {hd : Addr} {H H' : Hp} (s : Same H H') : Oth hd H H' := fun c o _ h => s c o h

/-! ### one step of a reading -/
section
variable {K : PySem.W.Frag} {σ : L2.St} {H : Hp} {Q : VK} {QB : Bool → Hp → Prop} {QA : List V → Hp → Prop} {D : Ends} {ta tb te : TE} {t u : TS} {c d : TT} {i : Nat} {v : V} {b : Bool}
theorem s_seq (h : t { D with nx := u D } σ H) : tSeq t u D σ H := h
theorem s_cut (M : L2.St → Hp → Prop) (h : t { D with nx := M } σ H) (k : ∀ σ' H', M σ' H' → u D σ' H') : Evl.tCut t u D σ H := ⟨M, h, k⟩
theorem s_next (h : D.nx σ H) : tNext D σ H := h
theorem s_brk (h : D.bk σ H) : tBreak D σ H := h
theorem s_cont (h : D.ct σ H) : tCont D σ H := h
theorem s_set (h : te σ H fun x H1 => D.nx (σ.set i (some x)) H1) : tAsg te (gName i) D σ H := h
theorem s_asg {g : TG} (h : te σ H fun x H1 => g x σ H1 D.nx) : tAsg te g D σ H := h
theorem s_ret (h : te σ H D.rt) : tRet te D σ H := h
theorem s_retN (h : D.rt .non H) : tRetN D σ H := h
theorem s_drop (h : te σ H fun _ H1 => D.nx σ H1) : tDrop te D σ H := h
theorem s_if (h : c σ H fun b H1 => if b = true then t D σ H1 else u D σ H1) : tIfS c t u D σ H := h
theorem s_aug {ti : TIp} {x : V} (e : σ[i]? = some (some x)) (h : te σ H fun y H1 => ti x y H1 fun z H2 => D.nx (σ.set i (some z)) H2) : tAug i te ti D σ H := ⟨x, e, h⟩
theorem s_ipI {f : Int → Int → Int} {a b : Int} (h : Q (.int (f a b)) H) : ipI f (.int a) (.int b) H Q := ⟨a, b, rfl, rfl, h⟩
theorem e_var (h : σ[i]? = some (some v)) (q : Q v H) : tVar i σ H Q := ⟨v, h, q⟩
theorem e_c (q : Q v H) : tC v σ H Q := q
theorem e_op {r : R2} (h : ta σ H fun x H1 => tb σ H1 fun y H2 => r x y H2 Q) : tOp r ta tb σ H Q := h
theorem e_un {r : V → Hp → VK → Prop} (h : ta σ H fun x H1 => r x H1 Q) : tUn r ta σ H Q := h
theorem e_neg {a : Int} (h : Q (.int (-a)) H) : rU (fun i => V.int (-i)) (.int a) H Q := ⟨a, rfl, h⟩
theorem e_test (h : te σ H fun x H1 => ∃ k, x = .bl k ∧ QB k H1) : tTest te σ H QB := h
theorem e_tB (h : te σ H fun x H1 => ∃ k, x = .bl k ∧ QB k H1) : tB te σ H QB := h
theorem e_bl (q : QB b H) : ∃ k, V.bl b = .bl k ∧ QB k H := ⟨b, rfl, q⟩
theorem e_and (h : c σ H fun b H1 => if b = true then d σ H1 QB else QB false H1) : tAnd c d σ H QB := h
theorem e_or (h : c σ H fun b H1 => if b = true then QB true H1 else d σ H1 QB) : tOr c d σ H QB := h
theorem e_not (h : c σ H fun b H1 => QB (!b) H1) : tNot c σ H QB := h
theorem e_andV (h : ta σ H fun x H1 => ∃ k, x = .bl k ∧ if k = true then tb σ H1 Q else Q (.bl false) H1) : tAndV ta tb σ H Q := h
theorem e_orV (h : ta σ H fun x H1 => ∃ k, x = .bl k ∧ if k = true then Q (.bl true) H1 else tb σ H1 Q) : tOrV ta tb σ H Q := h
theorem e_notV (h : ta σ H fun x H1 => ∃ k, x = .bl k ∧ Q (.bl (!k)) H1) : tNotV ta σ H Q := h
theorem e_kV {P : Bool → Prop} (q : P b) : ∃ k, V.bl b = .bl k ∧ P k := ⟨b, rfl, q⟩
theorem e_ife (h : c σ H fun b H1 => if b = true then ta σ H1 Q else tb σ H1 Q) : tIf c ta tb σ H Q := h
theorem e_nil (q : QA [] H) : tNil σ H QA := q
theorem e_cons {tr : TA} (h : ta σ H fun x H1 => tr σ H1 fun xs H2 => QA (x :: xs) H2) : tCons ta tr σ H QA := h
theorem e_cb {r : List V → Hp → VK → Prop} {tt : TA} (h : tt σ H fun vs H1 => r vs H1 Q) : tCB r tt σ H Q := h
theorem e_call {sp : Sp} {dvs : List V} {E : XK} {tt : TA} (h : tt σ H fun vs H1 => sp (vs ++ dvs) H1 Q E) : tCall sp dvs E tt σ H Q := h
theorem e_chain {r r' : R2} {tc : TE} (h : ta σ H fun x H1 => tb σ H1 fun y H2 => r x y H2 fun z H3 => ∃ k, z = .bl k ∧ if k = true then tc σ H3 fun w H4 => r' y w H4 Q else Q (.bl false) H3) : tChain r r' ta tb tc σ H Q := h
theorem o_l {r r' : R2} {x y : V} (h : r x y H Q) : rOr r r' x y H Q := .inl h
theorem o_r {r r' : R2} {x y : V} (h : r' x y H Q) : rOr r r' x y H Q := .inr h
theorem o_I0 {g : Int → Int → V} {a b : Int} (h : Q (g a b) H) : rI0 g (.int a) (.int b) H Q := ⟨a, b, rfl, rfl, h⟩
theorem o_addI {r' : R2} {a b : Int} (h : Q (.int (a + b)) H) : rOr rIAdd r' (.int a) (.int b) H Q := .inl ⟨a, b, rfl, rfl, h⟩
theorem o_mod {a b : Int} (hb : 0 < b) (h : Q (.int (a % b)) H) : rI (fun _ j => 0 < j) (fun i j => V.int (i % j)) (.int a) (.int b) H Q := ⟨a, b, rfl, rfl, hb, h⟩
theorem o_modL {a b : Int} (hb : 0 < b) (h : ∀ r, 0 ≤ r → r < b → Q (.int r) H) : rI (fun _ j => 0 < j) (fun i j => V.int (i % j)) (.int a) (.int b) H Q := o_mod hb (h _ (Int.emod_nonneg _ (by omega)) (Int.emod_lt_of_pos _ hb))
theorem o_mulR {r' : R2} {a b : Int} (hb : -(2 ^ 64) < b ∧ b < 2 ^ 64) (h : Q (.int (a * b)) H) : rOr rIMul r' (.int a) (.int b) H Q := .inl ⟨a, b, rfl, rfl, .inr hb, h⟩
theorem o_mulL {r' : R2} {a b : Int} (ha : -(2 ^ 64) < a ∧ a < 2 ^ 64) (h : Q (.int (a * b)) H) : rOr rIMul r' (.int a) (.int b) H Q := .inl ⟨a, b, rfl, rfl, .inl ha, h⟩
theorem o_divW {a b : Int} (n : Nat) (hb : 0 < b) (h1 : b < 2 ^ n) (h2 : 0 < n) (h3 : n ≤ 9000) (h : Q (.int (a / b)) H) : rI CDivW (fun i j => V.int (i / j)) (.int a) (.int b) H Q := ⟨a, b, rfl, rfl, wide_div (b := n) hb (by
  have e : ((2 ^ n : Nat) : Int) = (2 : Int) ^ n := by rw [Int.natCast_pow]; rfl
  have : (b.natAbs : Int) = b := by omega
  have h4 : ((b.natAbs : Nat) : Int) < ((2 ^ n : Nat) : Int) := by rw [this, e]; exact h1
  exact Int.ofNat_lt.mp h4) h2 h3, h⟩
theorem o_div {a b : Int} (hb : 0 < b) (h1 : b < 2 ^ 100) (h : Q (.int (a / b)) H) : rI CDivW (fun i j => V.int (i / j)) (.int a) (.int b) H Q := o_divW 100 hb h1 (by decide) (by decide) h
theorem o_pow {a b : Int} (n : Nat) (e : b = (n : Nat)) (h0 : n ≤ 1000000) (h1 : a.natAbs < 2 ^ 64) (h : Q (.int (a ^ n)) H) : rI CPow (fun i j => V.int (i ^ j.toNat)) (.int a) (.int b) H Q := ⟨a, b, rfl, rfl, ⟨by omega, by omega, h1⟩, by
  have e2 : b.toNat = n := by omega
  show Q (.int (a ^ b.toNat)) H
  rw [e2]; exact h⟩
theorem o_pow1 (h : Q (.int 10) H) : rI CPow (fun i j => V.int (i ^ j.toNat)) (.int 10) (.int 1) H Q := o_pow 1 rfl (by decide) (by decide) (by rw [(by decide : (10 : Int) ^ 1 = 10)]; exact h)
theorem o_pow2 (h : Q (.int 100) H) : rI CPow (fun i j => V.int (i ^ j.toNat)) (.int 10) (.int 2) H Q := o_pow 2 rfl (by decide) (by decide) (by rw [(by decide : (10 : Int) ^ 2 = 100)]; exact h)
theorem o_pow3 (h : Q (.int 1000) H) : rI CPow (fun i j => V.int (i ^ j.toNat)) (.int 10) (.int 3) H Q := o_pow 3 rfl (by decide) (by decide) (by rw [(by decide : (10 : Int) ^ 3 = 1000)]; exact h)
theorem o_pow4 (h : Q (.int 10000) H) : rI CPow (fun i j => V.int (i ^ j.toNat)) (.int 10) (.int 4) H Q := o_pow 4 rfl (by decide) (by decide) (by rw [(by decide : (10 : Int) ^ 4 = 10000)]; exact h)
theorem o_pow5 (h : Q (.int 100000) H) : rI CPow (fun i j => V.int (i ^ j.toNat)) (.int 10) (.int 5) H Q := o_pow 5 rfl (by decide) (by decide) (by rw [(by decide : (10 : Int) ^ 5 = 100000)]; exact h)
theorem o_pow6 (h : Q (.int 1000000) H) : rI CPow (fun i j => V.int (i ^ j.toNat)) (.int 10) (.int 6) H Q := o_pow 6 rfl (by decide) (by decide) (by rw [(by decide : (10 : Int) ^ 6 = 1000000)]; exact h)
theorem o_pow9 (h : Q (.int 1000000000) H) : rI CPow (fun i j => V.int (i ^ j.toNat)) (.int 10) (.int 9) H Q := o_pow 9 rfl (by decide) (by decide) (by rw [(by decide : (10 : Int) ^ 9 = 1000000000)]; exact h)
theorem o_pow10 (h : Q (.int 10000000000) H) : rI CPow (fun i j => V.int (i ^ j.toNat)) (.int 10) (.int 10) H Q := o_pow 10 rfl (by decide) (by decide) (by rw [(by decide : (10 : Int) ^ 10 = 10000000000)]; exact h)
theorem o_pow12 (h : Q (.int 1000000000000) H) : rI CPow (fun i j => V.int (i ^ j.toNat)) (.int 10) (.int 12) H Q := o_pow 12 rfl (by decide) (by decide) (by rw [(by decide : (10 : Int) ^ 12 = 1000000000000)]; exact h)
theorem o_pow15 (h : Q (.int 1000000000000000) H) : rI CPow (fun i j => V.int (i ^ j.toNat)) (.int 10) (.int 15) H Q := o_pow 15 rfl (by decide) (by decide) (by rw [(by decide : (10 : Int) ^ 15 = 1000000000000000)]; exact h)
theorem o_pow16 (h : Q (.int 10000000000000000) H) : rI CPow (fun i j => V.int (i ^ j.toNat)) (.int 10) (.int 16) H Q := o_pow 16 rfl (by decide) (by decide) (by rw [(by decide : (10 : Int) ^ 16 = 10000000000000000)]; exact h)
theorem o_pow17 (h : Q (.int 100000000000000000) H) : rI CPow (fun i j => V.int (i ^ j.toNat)) (.int 10) (.int 17) H Q := o_pow 17 rfl (by decide) (by decide) (by rw [(by decide : (10 : Int) ^ 17 = 100000000000000000)]; exact h)
theorem o_pow18 (h : Q (.int 1000000000000000000) H) : rI CPow (fun i j => V.int (i ^ j.toNat)) (.int 10) (.int 18) H Q := o_pow 18 rfl (by decide) (by decide) (by rw [(by decide : (10 : Int) ^ 18 = 1000000000000000000)]; exact h)
theorem o_pow19 (h : Q (.int 10000000000000000000) H) : rI CPow (fun i j => V.int (i ^ j.toNat)) (.int 10) (.int 19) H Q := o_pow 19 rfl (by decide) (by decide) (by rw [(by decide : (10 : Int) ^ 19 = 10000000000000000000)]; exact h)
theorem o_pow20 (h : Q (.int 100000000000000000000) H) : rI CPow (fun i j => V.int (i ^ j.toNat)) (.int 10) (.int 20) H Q := o_pow 20 rfl (by decide) (by decide) (by rw [(by decide : (10 : Int) ^ 20 = 100000000000000000000)]; exact h)
theorem o_pow30 (h : Q (.int 1000000000000000000000000000000) H) : rI CPow (fun i j => V.int (i ^ j.toNat)) (.int 10) (.int 30) H Q := o_pow 30 rfl (by decide) (by decide) (by rw [(by decide : (10 : Int) ^ 30 = 1000000000000000000000000000000)]; exact h)
theorem o_pow31 (h : Q (.int 10000000000000000000000000000000) H) : rI CPow (fun i j => V.int (i ^ j.toNat)) (.int 10) (.int 31) H Q := o_pow 31 rfl (by decide) (by decide) (by rw [(by decide : (10 : Int) ^ 31 = 10000000000000000000000000000000)]; exact h)
theorem set_ {p : Addr} {xs : List V} {k : Int} {j : Nat} {R : Hp → Prop} (h : H p = some (.lst xs)) (e : ixN xs.length k = some j) (q : ∀ H2, Oth p H H2 → H2 p = some (.lst (xs.set j v)) → R H2) : rSetL (.ref p) (.int k) v H R :=
  ⟨p, xs, k, j, rfl, rfl, h, e, q _ (fun b o n z => by rw [upd_ne n]; exact z) upd_same⟩
theorem g_sub {to ti : TE} {tset : TSet} {R : L2.St → Hp → Prop} (h : to σ H fun o H1 => ti σ H1 fun i H2 => tset o i v H2 fun H3 => R σ H3) : gSub to ti tset v σ H R := h
theorem o_eqS {r' : R2} {x y : V} (s : scal x y = true) (h : Q (.bl (decide (x = y))) H) : rOr rEq r' x y H Q := .inl ⟨s, h⟩
theorem o_eqI {r' : R2} {a b : Int} (h : Q (.bl (decide (a = b))) H) : rOr rEq r' (.int a) (.int b) H Q := .inl ⟨rfl, by
  have e : decide (V.int a = V.int b) = decide (a = b) := by
    by_cases q : a = b
    · rw [decide_eq_true q, q]; exact decide_eq_true rfl
    · rw [decide_eq_false q]; exact decide_eq_false fun z => q (V.int.inj z)
  rw [e]; exact h⟩
theorem o_neI {r' : R2} {a b : Int} (h : Q (.bl (decide (a ≠ b))) H) : rOr rNe r' (.int a) (.int b) H Q := .inl ⟨rfl, by
  have e : (!decide (V.int a = V.int b)) = decide (a ≠ b) := by
    by_cases q : a = b
    · rw [decide_eq_false (show ¬ a ≠ b from fun z => z q), q, decide_eq_true rfl] <;> rfl
    · rw [decide_eq_true (show a ≠ b from q), decide_eq_false fun z => q (V.int.inj z)] <;> rfl
  rw [e]; exact h⟩
theorem o_ixL {p : Addr} {xs : List V} {a : Int} (s : SqL K H p xs) (e : atI xs a = some v) (q : Q v H) : rIxLT K (.ref p) (.int a) H Q := .inl ⟨p, xs, a, v, rfl, rfl, s, e, q⟩
theorem o_ixT {p : Addr} {xs : List V} {a : Int} (s : SqT K H p xs) (e : atI xs a = some v) (q : Q v H) : rIxLT K (.ref p) (.int a) H Q := .inr ⟨p, xs, a, v, rfl, rfl, s, e, q⟩
theorem o_ixA {p : Addr} {xs : List V} {a : Int} (s : H p = some (.lst xs)) (e : atI xs a = some v) (q : Q v H) : rIxLT K (.ref p) (.int a) H Q := o_ixL (slO s) e q
theorem o_ixU {p : Addr} {xs : List V} {a : Int} (s : H p = some (.tup xs)) (e : atI xs a = some v) (q : Q v H) : rIxLT K (.ref p) (.int a) H Q := o_ixT (stO s) e q
theorem ixN_in {n : Nat} {z : Int} {j : Nat} (e : z = (j : Nat)) (h : j < n) : ixN n z = some j := by
  unfold ixN
  rw [if_pos (by omega), if_pos (by omega)]
  congr 1; omega
theorem atI_in {α : Type} {xs : List α} {z : Int} {j : Nat} {x : α} (e : z = (j : Nat)) (h : xs[j]? = some x) : atI xs z = some x := by
  have hj : j < xs.length := (List.getElem?_eq_some_iff.mp h).1
  unfold atI
  rw [ixN_in e hj]
  exact h
theorem e_lenL {p : Addr} {xs : List V} (s : SqL K H p xs) (q : Q (.int (xs.length : Nat)) H) : rLen' K [.ref p] H Q := ⟨_, xs.length, rfl, .inl ⟨xs, s, rfl⟩, q⟩
theorem e_lenM {α : Type} {f : α → V} {p : Addr} {xs : List α} (s : SqL K H p (xs.map f)) (q : Q (.int (xs.length : Nat)) H) : rLen' K [.ref p] H Q := e_lenL s (by rw [List.length_map]; exact q)
theorem e_lenN {α : Type} {f : α → V} {p : Addr} {xs : List α} (s : SqT K H p (xs.map f)) (q : Q (.int (xs.length : Nat)) H) : rLen' K [.ref p] H Q := ⟨_, xs.length, rfl, .inr ⟨_, s, by rw [List.length_map]⟩, q⟩
theorem e_lenT {p : Addr} {xs : List V} (s : SqT K H p xs) (q : Q (.int (xs.length : Nat)) H) : rLen' K [.ref p] H Q := ⟨_, xs.length, rfl, .inr ⟨xs, s, rfl⟩, q⟩
theorem i_t {A B : Prop} (hb : b = true) (q : A) : if b = true then A else B := by rw [if_pos hb]; exact q
theorem i_f {A B : Prop} (hb : b = false) (q : B) : if b = true then A else B := by rw [hb]; exact iteF q
theorem i_nt {A B : Prop} (q : B) : if (!true) = true then A else B := q
theorem i_nf {A B : Prop} (q : A) : if (!false) = true then A else B := q
theorem i_dt {p A B : Prop} [Decidable p] (hp : p) (q : A) : if decide p = true then A else B := i_t (decide_eq_true hp) q
theorem i_df {p A B : Prop} [Decidable p] (hp : ¬ p) (q : B) : if decide p = true then A else B := i_f (decide_eq_false hp) q
theorem i_ndt {p A B : Prop} [Decidable p] (hp : ¬ p) (q : A) : if (!decide p) = true then A else B := i_t (by rw [decide_eq_false hp]; rfl) q
theorem i_ndf {p A B : Prop} [Decidable p] (hp : p) (q : B) : if (!decide p) = true then A else B := i_f (by rw [decide_eq_true hp]; rfl) q
theorem i_d {p A B : Prop} [Decidable p] (h1 : p → A) (h2 : ¬ p → B) : if decide p = true then A else B := by
  by_cases hp : p
  · exact i_dt hp (h1 hp)
  · exact i_df hp (h2 hp)
/-- a new list, a new tuple -/
theorem e_lst {tt : TA} (h : tt σ H fun xs H1 => xs.length ≤ sizeLine ∧ NewQ (.lst xs) H1 Q) : tLst tt σ H Q := h
theorem e_tup {tt : TA} (h : tt σ H fun xs H1 => xs.length ≤ sizeLine ∧ NewQ (.tup xs) H1 Q) : tTup tt σ H Q := h
theorem n_new {n : Nat} {o : HO} (hl : n ≤ sizeLine) (h : ∀ p H2, H p = none → Same H H2 → H2 p = some o → Q (.ref p) H2) : n ≤ sizeLine ∧ NewQ o H Q := ⟨hl, fun p hp => h p _ hp (Same.new hp) upd_same⟩
theorem n_new0 {o : HO} (h : ∀ p H2, H p = none → Same H H2 → H2 p = some o → Q (.ref p) H2) : NewQ o H Q := fun p hp => h p _ hp (Same.new hp) upd_same
theorem c_listL {p : Addr} {xs : List V} (s : SqL K H p xs) (q : NewQ (.lst xs) H Q) : rListOf K [.ref p] H Q := ⟨p, xs, rfl, .inl s, q⟩
theorem c_listT {p : Addr} {xs : List V} (s : SqT K H p xs) (q : NewQ (.lst xs) H Q) : rListOf K [.ref p] H Q := ⟨p, xs, rfl, .inr s, q⟩
theorem c_tupL {p : Addr} {xs : List V} (s : SqL K H p xs) (q : NewQ (.tup xs) H Q) : rTupOf K [.ref p] H Q := ⟨p, xs, rfl, .inl ⟨s, q⟩⟩
theorem c_tupT {p : Addr} {xs : List V} (s : SqT K H p xs) (q : Q (.ref p) H) : rTupOf K [.ref p] H Q := ⟨p, xs, rfl, .inr ⟨s, q⟩⟩
theorem isi_ {x : V} {t n : String} {b : Bool} (ty : TyX K H x (.type t)) (e : kitB t n = some b) (q : Q (.bl b) H) : rIsi K [x, .ty n] H Q := ⟨x, .ty n, .type t, .type n, b, rfl, .ty n, ty, kit_ty e, q⟩
theorem isi_int {a : Int} {n : String} (b : Bool) (e : kitB "int" n = some b) (q : Q (.bl b) H) : rIsi K [.int a, .ty n] H Q := isi_ (.base (.int a)) e q
theorem isi_non {n : String} (b : Bool) (e : kitB "NoneType" n = some b) (q : Q (.bl b) H) : rIsi K [.non, .ty n] H Q := isi_ (.base .non) e q
theorem isi_str {z : Str} {n : String} (b : Bool) (e : kitB "str" n = some b) (q : Q (.bl b) H) : rIsi K [.str z, .ty n] H Q := isi_ (.base (.str z)) e q
theorem isi_bl {z : Bool} {n : String} (b : Bool) (e : kitB "bool" n = some b) (q : Q (.bl b) H) : rIsi K [.bl z, .ty n] H Q := isi_ (.base (.bl z)) e q
theorem isi_tup {a : Addr} {xs : List V} {n : String} (b : Bool) (h : H a = some (.tup xs)) (e : kitB "tuple" n = some b) (q : Q (.bl b) H) : rIsi K [.ref a, .ty n] H Q := isi_ (.base (.tup h)) e q
theorem isi_lst {a : Addr} {xs : List V} {n : String} (b : Bool) (h : H a = some (.lst xs)) (e : kitB "list" n = some b) (q : Q (.bl b) H) : rIsi K [.ref a, .ty n] H Q := isi_ (.base (.lst h)) e q
theorem t_bl {PB : Bool → Prop} (q : PB b) : ∃ k, TruV K (.bl b) H k ∧ PB k := ⟨b, rfl, q⟩
theorem t_non {PB : Bool → Prop} (q : PB false) : ∃ k, TruV K .non H k ∧ PB k := ⟨false, rfl, q⟩
theorem t_int {PB : Bool → Prop} {a : Int} (q : PB (decide (a ≠ 0))) : ∃ k, TruV K (.int a) H k ∧ PB k := ⟨_, rfl, by
  have e : (a != 0) = decide (a ≠ 0) := by
    by_cases h : a = 0
    · subst h; rfl
    · rw [decide_eq_true h]; simpa using h
  rw [e]; exact q⟩
theorem t_lst {PB : Bool → Prop} {p : Addr} {xs : List V} (s : SqL K H p xs) (q : PB (!xs.isEmpty)) : ∃ k, TruV K (.ref p) H k ∧ PB k := ⟨_, .inl ⟨xs, s, rfl⟩, q⟩
theorem t_tup {PB : Bool → Prop} {p : Addr} {xs : List V} (s : SqT K H p xs) (q : PB (!xs.isEmpty)) : ∃ k, TruV K (.ref p) H k ∧ PB k := ⟨_, .inr (.inl ⟨xs, s, rfl⟩), q⟩
theorem isN_non (q : Q (.bl true) H) : rIsN0 .non .non H Q := ⟨rfl, q⟩
theorem isN_int {a : Int} (q : Q (.bl false) H) : rIsN0 (.int a) .non H Q := ⟨rfl, q⟩
theorem isN_ref {a : Addr} (q : Q (.bl false) H) : rIsN0 (.ref a) .non H Q := ⟨rfl, q⟩
theorem isN_str {a : Str} (q : Q (.bl false) H) : rIsN0 (.str a) .non H Q := ⟨rfl, q⟩
theorem isN_bl {a : Bool} (q : Q (.bl false) H) : rIsN0 (.bl a) .non H Q := ⟨rfl, q⟩
theorem noN_non (q : Q (.bl false) H) : rNoN0 .non .non H Q := ⟨rfl, q⟩
theorem noN_int {a : Int} (q : Q (.bl true) H) : rNoN0 (.int a) .non H Q := ⟨rfl, q⟩
theorem noN_ref {a : Addr} (q : Q (.bl true) H) : rNoN0 (.ref a) .non H Q := ⟨rfl, q⟩
theorem noN_str {a : Str} (q : Q (.bl true) H) : rNoN0 (.str a) .non H Q := ⟨rfl, q⟩
theorem noN_bl {a : Bool} (q : Q (.bl true) H) : rNoN0 (.bl a) .non H Q := ⟨rfl, q⟩
theorem tyx_st {a : Addr} {xs : List V} (s : SqT K H a xs) : TyX K H (.ref a) (.type "tuple") := by
  rcases s with (s | ⟨o, s⟩) | ⟨o, its, n, hk, hc, _⟩
  · exact .base (.tup s)
  · exact .fTuple s
  · exact .kTuple hk hc
theorem tyx_sl {a : Addr} {xs : List V} (s : SqL K H a xs) : TyX K H (.ref a) (.type "list") := by
  rcases s with (s | ⟨o, s⟩) | ⟨o, its, n, hk, hc, _⟩
  · exact .base (.lst s)
  · exact .base (.frz s)
  · exact .kList hk hc
theorem isi_t {a : Addr} {xs : List V} {n : String} (b : Bool) (s : SqT K H a xs) (e : kitB "tuple" n = some b) (q : Q (.bl b) H) : rIsi K [.ref a, .ty n] H Q := isi_ (tyx_st s) e q
theorem isi_l {a : Addr} {xs : List V} {n : String} (b : Bool) (s : SqL K H a xs) (e : kitB "list" n = some b) (q : Q (.bl b) H) : rIsi K [.ref a, .ty n] H Q := isi_ (tyx_sl s) e q
theorem e_allB {p : Addr} {bs : List Bool} (s : H p = some (.lst (bs.map V.bl))) (q : Q (.bl (bs.all id)) H) : rAll K [.ref p] H Q := ⟨p, bs, rfl, slO s, q⟩
theorem c_int {a : Int} (q : Q (.int a) H) : rInt1 [V.int a] H Q := .inl ⟨a, rfl, q⟩
theorem c_abs {a : Int} (q : Q (.int (if a < 0 then -a else a)) H) : rAbs [V.int a] H Q := ⟨a, rfl, q⟩
theorem c_min2 {a b : Int} (q : Q (.int (if b < a then b else a)) H) : rMin2 [V.int a, V.int b] H Q := ⟨a, b, rfl, q⟩
theorem c_max2 {a b : Int} (q : Q (.int (if b > a then b else a)) H) : rMax2 [V.int a, V.int b] H Q := ⟨a, b, rfl, q⟩
theorem e_tru (h : te σ H fun x H1 => ∃ k, TruV K x H1 k ∧ QB k H1) : tTruE K te σ H QB := h
theorem e_app {to : TE} (h : to σ H fun x H1 => ∃ l xs, x = .ref l ∧ SqL K H1 l xs ∧ te σ H1 fun y H2 => ∃ ys, H2 l = some (.lst ys) ∧ ys.length < sizeLine ∧ Q .non (upd H2 l (.lst (ys ++ [y])))) (mono : ∀ (H : Hp) (R R' : V → Hp → Prop), (∀ x H1, R x H1 → R' x H1) → to σ H R → to σ H R') (mono2 : ∀ (H : Hp) (R R' : V → Hp → Prop), (∀ x H1, R x H1 → R' x H1) → te σ H R → te σ H R') :
    tBM K "list" rAppend to (tCons te tNil) σ H Q := by
  refine mono H _ _ (fun x H1 q => ?_) h
  obtain ⟨l, xs, rfl, s, q⟩ := q
  refine ⟨.inl ⟨rfl, xs, s⟩, ?_⟩
  exact mono2 H1 _ _ (fun y H2 ⟨ys, h1, h2, h3⟩ => ⟨l, ys, y, rfl, rfl, h1, h2, h3⟩) q
end
/-- a def of the text as it stands, a constant of the text -/
structure DefAt (K : PySem.W.Frag) (mg : Str → Option Value) (x qual : Str) (st : Stmt) (ps : List Str) where
  f : Addr
  fd : FuncData
  F : Fun K x qual st f fd
  b : Binds K fd ps []
  g : mg x = some (.ref f)
structure CAt (mg : Str → Option Value) (x : Str) (v : V) where
  u : Value
  h : mg x = some u
  r : RelV v u
def defAt_mk {K : PySem.W.Frag} {mg : Str → Option Value} {h : Heap} {x qual : Str} {st : Stmt} {ps : List Str} {f : Addr} {od an : Option Addr} {sl : Array (Option Value)} {oc kV dc pm cd ct : Value} (X : K.In h) (G : h.Ns mainGlobals mg)
    (a : PySem.W.nsIn K mainGlobals x = some (some (.ref f))) (l : K.lookup f = some ⟨oc, od, .func (PySem.W.fnOf x qual (defArgs st) (defBody st) (defScope st) .none kV dc pm an cd ct), sl⟩) (c : PySem.W.codeIn K cd qual = true) (k : PySem.W.keepIn K (.ref f) = true)
    (b : ∀ (kV doc pm : Value) (an : Option Addr) (cdv ct : Value) (us : List Value), us.length = ps.length → bindArgs (PySem.W.fnOf x qual (defArgs st) (defBody st) (defScope st) .none kV doc pm an cdv ct) ⟨us, []⟩ = pure (ps.zip us)) : DefAt K mg x qual st ps :=
  ⟨f, _, fun_mk l c k, (fun_mk (st := st) l c k).binds b, PySem.W.mg_of X G a⟩
def cAt_mk {K : PySem.W.Frag} {mg : Str → Option Value} {h : Heap} {x : Str} {u : Value} {v : V} (X : K.In h) (G : h.Ns mainGlobals mg) (a : PySem.W.nsIn K mainGlobals x = some (some u)) (r : RelV v u) : CAt mg x v := ⟨u, PySem.W.mg_of X G a, r⟩
end Vw

set_option Elab.async false
set_option linter.all false
set_option maxRecDepth 100000
set_option maxHeartbeats 4000000
namespace Vw
open PySem PySem.Spec PyProof.Rows L2
/-! ### enumerate of a tuple -/
abbrev ti0 (t : Addr) : Obj := { cls := .type "tuple_iterator", data := .fields #[.ref t, .int 0 0] }
abbrev en0 (i : Addr) : Obj := { cls := .type "enumerate", data := .fields #[.none, .bool false, .ref i, rawInt 0, .none, .none] }
theorem new_enumT (t : Addr) (items : Array Value) :
    Meets (Builtin.«enumerate.__new__» ⟨[.type "enumerate", .ref t], []⟩) (fun _ R s => s.heap.IsTuple t items ∧
      R (.ok (.ret (.ref (s.heap.push (ti0 t)).objs.size))) { s with heap := (s.heap.push (ti0 t)).push (en0 s.heap.objs.size) }) :=
  .of_wp fun prog w A R s h => by
    obtain ⟨hp, g, d, tk, os⟩ := s
    obtain ⟨hL, h⟩ := h
    have hsub := sub_enumerate
    have hL2 := hL
    obtain ⟨⟨oc, od, odt, osl⟩, hl, hc, n, hd⟩ := hL2
    simp only at hc hd
    subst hc hd
    have hL : Heap.IsTuple (Shared.heap ⟨hp, g, d, tk, os⟩) t items := hL
    wp_walk using wpAny_loadPart' hl
    refine wpAny_stack_any fun st => wpAny_pure ?_
    split
    · rename_i c _ _ _ _ _
      cases (c == Value.type "enumerate")
      · wp_walk using wpAny_loadPart' hl, wpAny_pyIter_tuple hL
        exact ⟨_, rfl, h⟩
      · wp_walk using wpAny_loadPart' hl, wpAny_pyIter_tuple hL
        exact ⟨_, rfl, h⟩
    · wp_walk using wpAny_loadPart' hl, wpAny_pyIter_tuple hL
      exact ⟨_, rfl, h⟩
theorem call_enumT {prog : Program} {w : World} {A : Around} {E : Value → Shared → Prop} {s : Shared} {t : Addr} {items : Array Value} {Q : Value → Shared → Prop} (hL : s.heap.IsTuple t items)
    (h : ∀ h', IsEnum h' (s.heap.objs.size + 1) s.heap.objs.size 0 .none → h'.IsTupleIter s.heap.objs.size t 0 →
      (∀ b o, s.heap.get? b = some o → h'.get? b = some o) → Q (.ref (s.heap.objs.size + 1)) { s with heap := h' }) :
    wpAny (model prog w) A (call (.type "enumerate") [.ref t]) Q E s := by
  refine callType_new F.called_enumerate (by decide) (F.typeCall_enumerate_1 _) (F.newCall_enumerate_1 _) (fun obj => F.args_object_init_2 obj _) F.entry_enumerate_new (new_enumT t items) ⟨hL, ?_⟩
  have hz : (s.heap.push (ti0 t)).objs.size = s.heap.objs.size + 1 := Heap.size_push ..
  show _ ∧ _
  rw [hz]
  have he : IsEnum ((s.heap.push (ti0 t)).push (en0 s.heap.objs.size)) (s.heap.objs.size + 1) s.heap.objs.size 0 .none := by
    have q := Heap.get?_push_size (s.heap.push (ti0 t)) (o := en0 s.heap.objs.size) rfl
    rw [hz] at q; exact q
  exact ⟨⟨_, he, rfl⟩, h _ he ⟨_, Heap.get?_push_of_some _ (Heap.get?_push_size _ rfl), rfl, rfl⟩ fun b o x => Heap.get?_push_of_some _ (Heap.get?_push_of_some _ x)⟩
/-- the tuple at a, each item in a new pair -/
def ItEt (K : PySem.W.Frag) (a : Addr) : It :=
  ⟨fun i H => ∃ (xs : List V) (x : V), SqT K H a xs ∧ xs[i]? = some x, fun i H v H' => ∃ T x, v = .ref T ∧ H T = none ∧ H' = upd H T (.tup [.int (i : Nat), x]) ∧ ∀ xs, SqT K H a xs → xs[i]? = some x, fun i H => ∃ xs : List V, SqT K H a xs ∧ xs.length ≤ i⟩
theorem turn_enumT {P : Program} {w : World} {K : PySem.W.Frag} {elts : List Expr} {kk : Nat} {tpos : Pos} (a e it : Addr) :
    Turn P w K (.Tuple elts kk tpos) (ItEt K a) [e, it] e (fun i h => (∃ old, IsEnum h e it ((i : Nat) : Int) old) ∧ h.IsTupleIter it a i ∧ e ≠ it) where
  mem := List.mem_cons_self
  obj := fun i h st b hb => by
    obtain ⟨⟨old, he⟩, ⟨o, ho, hc, hd⟩, _⟩ := st
    rcases List.mem_cons.mp hb with z | z
    · rw [z]; exact ⟨_, he, fun v q => nomatch q⟩
    · rw [List.mem_singleton.mp z]; exact ⟨o, ho, fun v q => by rw [hd] at q; cases q⟩
  keep := fun i h h' ⟨⟨old, he⟩, hi, hne⟩ k => ⟨⟨old, k e List.mem_cons_self _ he⟩, hi.at fun o q => k it (List.mem_cons_of_mem _ List.mem_cons_self) o q, hne⟩
  item := by
    intro X hP hw hK hc i pins s σ H E I hf st hg
    subst hP hw hK
    obtain ⟨⟨old, he⟩, hit, hne⟩ := st
    obtain ⟨xs, x, hq, hx⟩ := hg
    obtain ⟨its, rv, p, hz⟩ := I.tuple hq
    obtain ⟨u, hu, ru⟩ := rv.get hx
    have pt : s.heap.IsTuple a its.toArray := p
    have hel : e < s.heap.objs.size := Heap.lt_size he
    have hil : it < s.heap.objs.size := by obtain ⟨_, q, _⟩ := hit; exact Heap.lt_size q
    have hai : a ≠ it := fun z => by
      obtain ⟨o1, g1, c1, _⟩ := pt
      obtain ⟨o2, g2, c2, _⟩ := hit
      rw [z, g2] at g1
      cases g1
      rw [c2] at c1
      exact absurd c1 (by decide)
    have hae : a ≠ e := fun z => by
      obtain ⟨o1, g1, c1, _⟩ := pt
      rw [z, show s.heap.get? e = _ from he] at g1
      cases g1
      have c2 : Value.type "enumerate" = Value.type "tuple" := c1
      exact absurd c2 (by decide)
    have hlt : i < its.toArray.size := by
      have := (List.getElem?_eq_some_iff.mp hu).1
      simpa using this
    refine wpAny_pyNext_enum_itemD (Draws.tuple (by rw [Around.in1_handled]; exact I.ok.hd hc) it a hai its.toArray) he ⟨hit, pt⟩ hlt hne (by simp [hne, Ne.symm hae]) fun y h' tk hy ho hst' hT hsz hk => ?_
    have ey : y = u := by
      have q : its.toArray[i]? = some u := by simpa using hu
      rw [q] at hy
      exact (Option.some.inj hy).symm
    subst ey
    refine ⟨_, rfl, wpAny_letOwnedTupleGo_enum (s := { s with heap := h', toks := tk + 1 }) ho fun h'' he' sb => ?_⟩
    have hT2 := (sb.2 _ (Nat.ne_of_gt hel)).trans hT
    have new : ObjOk X.prog X.w (upd H s.heap.objs.size (.tup [.int (i : Nat), x])) h'' s.heap.objs.size (.tup [.int (i : Nat), x]) := ⟨by show 2 ≤ sizeLine; decide, [.int i tk, y], .cons ⟨_, rfl⟩ (.cons ru .nil), ⟨_, hT2, rfl, _, rfl⟩⟩
    have I1 : Inv X pins σ (upd H s.heap.objs.size (.tup [.int (i : Nat), x])) { s with heap := h'', toks := tk + 1 } :=
      I.turnedNew (ch := [e, it]) (fun b ob hb q => (sb.2 b (fun z => hb (by simp [z]))).trans (hk b ob (fun z => hb (by simp [z])) (fun z => hb (by simp [z])) q)) hf (Nat.le_refl _) new
    refine ⟨.ref s.heap.objs.size, _, I1, rfl, ⟨_, x, rfl, I.hok.fresh (Nat.le_refl _), rfl, fun ys hy => ?_⟩, ⟨⟨y, ?_⟩, hst'.1.at fun o q => (sb.2 it (Ne.symm hne)).trans q, hne⟩, fun b hb => ?_⟩
    · rw [I.tuple_inj hy hq]; exact hx
    · rw [show ((i + 1 : Nat) : Int) = (i : Int) + 1 by omega]; exact he'
    · have hb' : b < s.heap.objs.size := by
        rcases List.mem_cons.mp hb with z | z
        · rw [z]; exact hel
        · rw [List.mem_singleton.mp z]; exact hil
      rw [upd_ne (Nat.ne_of_lt hb')]; exact (hf b hb).1
  done := by
    intro X hP hw hK hc i pins s σ H E I hf st hg
    subst hP hw hK
    obtain ⟨⟨old, he⟩, hit, hne⟩ := st
    obtain ⟨xs, hq, hx⟩ := hg
    obtain ⟨its, rv, p, hz⟩ := I.tuple hq
    obtain ⟨f0, f1, f2, f3, f4, f5⟩ := hf it (List.mem_cons_of_mem _ List.mem_cons_self)
    have pt : s.heap.IsTuple a its.toArray := p
    have hai : a ≠ it := fun z => by
      obtain ⟨o1, g1, c1, _⟩ := pt
      obtain ⟨o2, g2, c2, _⟩ := hit
      rw [z, g2] at g1
      cases g1
      rw [c2] at c1
      exact absurd c1 (by decide)
    have hl := rv.length
    have D : Draws X.prog X.w X.A.in1 it [it, a] i (fun _ _ => False) (fun j h => j = i ∧ h.IsTupleIter it a i ∧ h.IsTuple a its.toArray) := by
      refine ⟨fun j h st => let ⟨o, ho, _⟩ := st.2.1; ⟨o, ho⟩, fun j h h' st k => ⟨st.1, st.2.1.at fun o q => k it (by simp) o q, st.2.2.at fun o q => k a (by simp) o q⟩, fun j s Q E hj st _ => absurd st.1 (Nat.ne_of_lt hj), fun s Q E st hE => ?_⟩
      exact wpAny_nextOf_tuple_end (by rw [Around.in1_handled]; exact I.ok.hd hc) st.2.1 st.2.2 (by simp; omega) hE
    exact wpAny_pyNext_enum_endD D he ⟨rfl, hit, pt⟩ fun h' eb => ⟨rfl, I.turned (t' := s.toks) (fun b o hb q => eb b o hb q) f0 f1 f3 f4 f5⟩
  self := fun A i s Q E ⟨⟨_, he⟩, _⟩ h => wpAny_pyIter_enum he h
def iEnumT (K : PySem.W.Frag) (ta : TA) : TI := fun σ H R => ta σ H fun vs H1 => ∃ a xs, vs = [.ref a] ∧ ((SqL K H1 a xs ∧ R (Ite K a) H1) ∨ (SqT K H1 a xs ∧ R (ItEt K a) H1))
theorem piEnumT {K : PySem.W.Frag} {X : Cx} {e : Expr} {ta : TA} {p pos tpos : Pos} {elts : List Expr} {kk : Nat} (hg : Gl X "enumerate") (hm : X.mg "enumerate" = none) (ha : PA X [e] ta) (eK : X.K = K := by rfl) (hs : starEach [e] X.env = [(false, eval e X.env)] := by rfl) :
    PI X (.Tuple elts kk tpos) (.Call (.Name "enumerate" p) [e] [] pos) (iEnumT K ta) := by
  cases eK
  refine ⟨fun pins s σ H R I h => Call_ (ld_blt I hg hm boot_enumerate (PyProof.Rows.callWith_type1 (thn (ha.run pos pins s σ H _ I h) fun us s1 ⟨vs, H1, I1, r1, q1⟩ => ?_) hs rfl))⟩
  obtain ⟨a, xs, rfl, q⟩ := q1
  rw [Vals.ref1 r1]
  have up : ∀ b ∈ [s1.heap.objs.size + 1, s1.heap.objs.size], s1.heap.objs.size ≤ b := fun b hb => by
    rcases List.mem_cons.mp hb with z | z
    · rw [z]; exact Nat.le_add_right _ _
    · rw [List.mem_singleton.mp z]; exact Nat.le_refl _
  rcases q with ⟨hq, q⟩ | ⟨hq, q⟩
  · obtain ⟨its, rv, p', hz⟩ := I1.list hq
    refine call_enumerate_list p'.isList fun h' he hit hsz hk => wpAny_pyIter_enum he ?_
    exact ⟨s1.heap.objs.size + 1, [s1.heap.objs.size + 1, s1.heap.objs.size], _, _, H1, rfl, I1.kept (t' := s1.toks) hk, turn_enum a (s1.heap.objs.size + 1) s1.heap.objs.size, ⟨⟨.none, he⟩, hit, Nat.succ_ne_self _⟩, fun b hb => I1.fpOk (up b hb) (I1.hok.fresh (up b hb)), q⟩
  · obtain ⟨its, rv, p', hz⟩ := I1.tuple hq
    refine call_enumT (show s1.heap.IsTuple a its.toArray from p') fun h' he hit hk => wpAny_pyIter_enum he ?_
    exact ⟨s1.heap.objs.size + 1, [s1.heap.objs.size + 1, s1.heap.objs.size], _, _, H1, rfl, I1.kept (t' := s1.toks) hk, turn_enumT a (s1.heap.objs.size + 1) s1.heap.objs.size, ⟨⟨.none, he⟩, hit, Nat.succ_ne_self _⟩, fun b hb => I1.fpOk (up b hb) (I1.hok.fresh (up b hb)), q⟩
end Vw

set_option Elab.async false
set_option linter.all false
set_option maxRecDepth 100000
set_option maxHeartbeats 4000000
namespace Vw
open PySem PySem.Spec PyProof.Rows L2 RT
/-! ### loops -/
def FQ (J : It) (g : TG) (tb : TS) (D : Ends) (σ : L2.St) (H : Hp) : Prop := ∃ W : Nat → Nat → L2.St → Hp → Prop, (∃ m, W 0 m σ H) ∧ ∀ i m σ H, W i m σ H →
  (J.stop i H ∧ D.nx σ H) ∨ (J.go i H ∧ ∃ N : L2.St → Hp → Prop, (∀ σ' H', N σ' H' → ∃ m', m' < m ∧ W (i + 1) m' σ' H') ∧ ∀ x H', J.yld i H x H' → g x σ H' fun σ2 H2 => tb { D with nx := N, ct := N, bk := D.nx } σ2 H2)
def LQ (J : It) (g : TG) (tt : TT) (te : TE) (vs : List Nat) (σ : L2.St) (H1 : Hp) (Q : VK) : Prop := ∀ D, H1 D = none → ∃ W : Nat → Nat → Hp → Prop, (∃ m, W 0 m (upd H1 D (.lst []))) ∧ ∀ i m H, W i m H →
  (J.stop i H ∧ Q (.ref D) H) ∨ (J.go i H ∧ ∃ Nx : Hp → Prop, (∀ H', Nx H' → ∃ m', m' < m ∧ W (i + 1) m' H') ∧ ∀ x H', J.yld i H x H' → g x (wipe σ vs) H' fun σ2 H2 => wipe σ2 vs = wipe σ vs ∧ tt σ2 H2 fun b H3 =>
    if b = true then te σ2 H3 fun y H4 => ∃ acc, H4 D = some (.lst acc) ∧ acc.length < sizeLine ∧ Nx (upd H4 D (.lst (acc ++ [y]))) else Nx H3)
section
variable {K : PySem.W.Frag} {σ : L2.St} {H H1 : Hp} {Q : VK} {D : Ends} {ta tb te : TE} {t u : TS} {wi : TI} {g : TG} {tt : TT} {vs : List Nat} {R : It → Hp → Prop} {j : Nat} {xs : List V} {a : Addr}
theorem s_for (h : wi σ H fun J H1 => FQ J g t D σ H1) : tFor wi g t D σ H := h
theorem e_lc (h : wi σ H fun J H1 => LQ J g tt te vs σ H1 Q) : tLc wi g tt te vs σ H Q := h
def RgQ (R : It → Hp → Prop) (vs : List V) (H1 : Hp) : Prop := ∃ j : Int, vs = [.int j] ∧ -(2 ^ 62) ≤ j ∧ j < 2 ^ 62 ∧ R (Itr 0 j.toNat) H1
theorem i_rng1 {ta : TA} (h : ta σ H fun vs H1 => RgQ R vs H1) : iRng1 ta σ H R := h
theorem i_rng {i : Int} (n : Nat) (e : i.toNat = n) (h1 : -100000 ≤ i) (h2 : i ≤ 100000) (h : R (Itr 0 n) H) : RgQ R [.int i] H := ⟨i, rfl, by omega, by omega, by rw [e]; exact h⟩
def LsQ (K : PySem.W.Frag) (R : It → Hp → Prop) (x : V) (H1 : Hp) : Prop := ∃ a, x = .ref a ∧ (∃ xs, SqL K H1 a xs) ∧ R (Itl K a) H1
theorem i_lst0 {tl : TE} (h : tl σ H fun x H1 => LsQ K R x H1) : iList K tl σ H R := h
theorem i_lst (s : SqL K H a xs) (h : R (Itl K a) H) : LsQ K R (.ref a) H := ⟨a, rfl, ⟨xs, s⟩, h⟩
def TpQ (K : PySem.W.Frag) (R : It → Hp → Prop) (x : V) (H1 : Hp) : Prop := ∃ a, x = .ref a ∧ (∃ xs, SqT K H1 a xs) ∧ R (Itt K a) H1
theorem i_tup0 {tl : TE} (h : tl σ H fun x H1 => TpQ K R x H1) : iTup K tl σ H R := h
theorem i_tup (s : SqT K H a xs) (h : R (Itt K a) H) : TpQ K R (.ref a) H := ⟨a, rfl, ⟨xs, s⟩, h⟩
/-- a loop over anything that is walked -/
theorem l_it {J : It} {n : Nat} {G : Hp → Prop} {Y : Nat → Hp → V → Hp → Prop} (W : Walk J n G Y) (Pv : Nat → L2.St → Hp → Prop) (h0 : Pv 0 σ H) (hG : ∀ i σ H, i ≤ n → Pv i σ H → G H) (hd : ∀ σ H, Pv n σ H → D.nx σ H)
    (hs : ∀ i x σ H H', i < n → Pv i σ H → Y i H x H' → g x σ H' fun σ2 H2 => t { D with nx := Pv (i + 1), ct := Pv (i + 1), bk := D.nx } σ2 H2) : FQ J g t D σ H := for_it W Pv h0 hG hs hd
theorem l_rng {n : Nat} (Pv : Nat → L2.St → Hp → Prop) (h0 : Pv 0 σ H) (hd : ∀ σ H, Pv n σ H → D.nx σ H)
    (hs : ∀ (i : Nat) σ H, i < n → Pv i σ H → t { D with nx := Pv (i + 1), ct := Pv (i + 1), bk := D.nx } (σ.set j (some (.int (i : Int)))) H) : FQ (Itr 0 n) (gName j) t D σ H :=
  l_it walk_range Pv h0 (fun _ _ _ _ _ => trivial) hd fun i x σ H H' hi p y => by
    obtain ⟨rfl, rfl⟩ := y
    have e : (0 : Int) + (i : Int) = (i : Int) := Int.zero_add _
    show t _ (σ.set j (some (.int ((0 : Int) + (i : Int))))) _
    rw [e]; exact hs i σ _ hi p
theorem l_lst (Pv : Nat → L2.St → Hp → Prop) (h0 : Pv 0 σ H) (hl : ∀ i σ H, i ≤ xs.length → Pv i σ H → SqL K H a xs) (hd : ∀ σ H, Pv xs.length σ H → D.nx σ H)
    (hs : ∀ i x σ H, xs[i]? = some x → Pv i σ H → t { D with nx := Pv (i + 1), ct := Pv (i + 1), bk := D.nx } (σ.set j (some x)) H) : FQ (Itl K a) (gName j) t D σ H :=
  l_it walk_list Pv h0 hl hd fun i x σ H H' hi p y => by
    obtain ⟨rfl, e⟩ := y
    exact hs i x σ _ e p
theorem l_tup (Pv : Nat → L2.St → Hp → Prop) (h0 : Pv 0 σ H) (hl : ∀ i σ H, i ≤ xs.length → Pv i σ H → SqT K H a xs) (hd : ∀ σ H, Pv xs.length σ H → D.nx σ H)
    (hs : ∀ i x σ H, xs[i]? = some x → Pv i σ H → t { D with nx := Pv (i + 1), ct := Pv (i + 1), bk := D.nx } (σ.set j (some x)) H) : FQ (Itt K a) (gName j) t D σ H :=
  l_it walk_tup Pv h0 hl hd fun i x σ H H' hi p y => by
    obtain ⟨rfl, e⟩ := y
    exact hs i x σ _ e p
/-- the target (x, y) at a new pair -/
theorem g_pair {i1 i2 : Nat} {T : Addr} {x y : V} {R : L2.St → Hp → Prop} (h : H T = some (.tup [x, y])) (q : R ((σ.set i1 (some x)).set i2 (some y)) H) : gTup K 2 (gCons (gName i1) (gCons (gName i2) gNil)) (.ref T) σ H R :=
  ⟨T, [x, y], rfl, stO h, rfl, x, [y], rfl, y, [], rfl, rfl, q⟩
theorem g_pairS {i1 i2 : Nat} {T : Addr} {x y : V} {R : L2.St → Hp → Prop} (h : SqT K H T [x, y]) (q : R ((σ.set i1 (some x)).set i2 (some y)) H) : gTup K 2 (gCons (gName i1) (gCons (gName i2) gNil)) (.ref T) σ H R :=
  ⟨T, [x, y], rfl, h, rfl, x, [y], rfl, y, [], rfl, rfl, q⟩
theorem putK_le {c : List (Key × V)} {k : Key} {x : V} : (putK c k x).length ≤ c.length + 1 := by
  unfold putK
  split <;> simp
theorem walk_enumT : Walk (ItEt K a) xs.length (fun H => SqT K H a xs) (YPair (fun i => some (.int (i : Nat))) (fun i => xs[i]?)) := by
  refine ⟨fun i _ hi q => ⟨xs, xs[i], q, by simp [hi]⟩, fun _ q => ⟨xs, q, Nat.le_refl _⟩, fun i H v H' _ q y => ?_⟩
  obtain ⟨T, x, h1, h2, h3, h4⟩ := y
  exact ⟨T, .int (i : Nat), x, h1, h2, h3, rfl, h4 xs q⟩
def SqX (K : PySem.W.Frag) (H : Hp) (a : Addr) (xs : List V) : Prop := SqL K H a xs ∨ SqT K H a xs
theorem sx_ {H H' : Hp} {a : Addr} {xs : List V} (s : Same H H') (h : SqX K H a xs) : SqX K H' a xs := h.elim (fun h => .inl (sl_ s h)) fun h => .inr (st_ s h)
def EnQ (K : PySem.W.Frag) (R : It → Hp → Prop) (vs : List V) (H1 : Hp) : Prop := ∃ a xs, vs = [.ref a] ∧ ((SqL K H1 a xs ∧ R (Ite K a) H1) ∨ (SqT K H1 a xs ∧ R (ItEt K a) H1))
theorem i_enum0 {ta : TA} (h : ta σ H fun vs H1 => EnQ K R vs H1) : iEnumT K ta σ H R := h
theorem i_enumX {H0 : Hp} (s : SqX K H0 a xs) (ss : Same H0 H) (h : ∀ J G, (∀ H', Same H0 H' → G H') → Walk J xs.length G (YPair (fun i => some (.int (i : Nat))) (fun i => xs[i]?)) → R J H) : EnQ K R [.ref a] H :=
  ⟨a, xs, rfl, s.elim (fun s => .inl ⟨sl_ ss s, h _ _ (fun H' q => sl_ q s) walk_enum⟩) fun s => .inr ⟨st_ ss s, h _ _ (fun H' q => st_ q s) walk_enumT⟩⟩
def RvQ (K : PySem.W.Frag) (R : It → Hp → Prop) (v : V) (H1 : Hp) : Prop := ∃ (a : Addr) (xs : List V), v = .ref a ∧ ((SqL K H1 a xs ∧ R (Itv K a xs.length) H1) ∨ (SqT K H1 a xs ∧ R (ItvT K a xs.length) H1))
theorem walk_revT : Walk (ItvT K a xs.length) xs.length (fun H => SqT K H a xs) (fun i H x H' => H' = H ∧ xs[xs.length - 1 - i]? = some x) :=
  ⟨fun i _ hi q => ⟨hi, xs, xs[xs.length - 1 - i]'(by omega), q, by simp [show xs.length - 1 - i < xs.length by omega]⟩, fun _ _ => Nat.le_refl _, fun _ _ _ _ _ q y => ⟨y.1, y.2 xs q⟩⟩
theorem i_revX {H0 : Hp} (s : SqX K H0 a xs) (ss : Same H0 H) (h : ∀ J G, (∀ H', Same H0 H' → G H') → Walk J xs.length G (fun i H x H' => H' = H ∧ xs[xs.length - 1 - i]? = some x) → R J H) : RvQ K R (.ref a) H :=
  ⟨a, xs, rfl, s.elim (fun s => .inl ⟨sl_ ss s, h _ _ (fun H' q => sl_ q s) walk_rev⟩) fun s => .inr ⟨st_ ss s, h _ _ (fun H' q => st_ q s) walk_revT⟩⟩
theorem i_rev0 {te : TE} (h : te σ H fun v H1 => RvQ K R v H1) : iRevA K te σ H R := h
/-- a comprehension: Pv tells of the turn, of what is made so far, of the heap, in which the list itself stands at D -/
theorem c_it {J : It} {n : Nat} {G : Hp → Prop} {Y : Nat → Hp → V → Hp → Prop} (W : Walk J n G Y) (Pv : Nat → List V → Hp → Prop) (h0 : ∀ D, H1 D = none → Pv 0 [] (upd H1 D (.lst []))) (hG : ∀ i acc H, i ≤ n → Pv i acc H → G H)
    (hd : ∀ acc D H, H1 D = none → H D = some (.lst acc) → Pv n acc H → Q (.ref D) H)
    (hs : ∀ (i : Nat) x acc H H' D, i < n → H1 D = none → H D = some (.lst acc) → Pv i acc H → Y i H x H' → g x (wipe σ vs) H' fun σ2 H2 => wipe σ2 vs = wipe σ vs ∧ tt σ2 H2 fun b H3 =>
      if b = true then te σ2 H3 fun y H4 => ∃ acc, H4 D = some (.lst acc) ∧ acc.length < sizeLine ∧ ∃ acc2, (upd H4 D (.lst (acc ++ [y]))) D = some (.lst acc2) ∧ Pv (i + 1) acc2 (upd H4 D (.lst (acc ++ [y]))) else ∃ acc2, H3 D = some (.lst acc2) ∧ Pv (i + 1) acc2 H3) : LQ J g tt te vs σ H1 Q := fun D hD =>
  lc_it W (fun i H => ∃ acc, H D = some (.lst acc) ∧ Pv i acc H) ⟨[], upd_same, h0 D hD⟩ (fun i H hi p => hG i _ H hi p.choose_spec.2) (fun i x H H' hi p y => by
    obtain ⟨acc, hp, p⟩ := p
    exact hs i x acc H H' D hi hD hp p y) (fun H p => by
    obtain ⟨acc, hp, p⟩ := p
    exact hd acc D H hD hp p)
theorem got_ {Dl : Addr} {acc : List V} {y : V} {P : List V → Hp → Prop} (h : H Dl = some (.lst acc)) (hl : acc.length < 100000) (p : P (acc ++ [y]) (upd H Dl (.lst (acc ++ [y])))) :
    ∃ acc, H Dl = some (.lst acc) ∧ acc.length < sizeLine ∧ ∃ acc2, (upd H Dl (.lst (acc ++ [y]))) Dl = some (.lst acc2) ∧ P acc2 (upd H Dl (.lst (acc ++ [y]))) :=
  ⟨acc, h, Nat.lt_of_lt_of_le hl (by decide), _, upd_same, p⟩
theorem upd_free {H0 : Hp} {Dl : Addr} {o : HO} (s : Same H0 H) (n : H0 Dl = none) : Same H0 (upd H Dl o) := fun b u e => by rw [upd_ne (ne_of_none e n)]; exact s b u e
theorem c_rng {n : Nat} (Pv : Nat → List V → Hp → Prop) (h0 : ∀ D, H1 D = none → Pv 0 [] (upd H1 D (.lst []))) (hd : ∀ acc D H, H1 D = none → H D = some (.lst acc) → Pv n acc H → Q (.ref D) H) (hw : ∀ x, wipe ((wipe σ vs).set j x) vs = wipe σ vs)
    (hs : ∀ (i : Nat) acc H D, i < n → H1 D = none → H D = some (.lst acc) → Pv i acc H → tt ((wipe σ vs).set j (some (.int (i : Int)))) H fun b H3 =>
      if b = true then te ((wipe σ vs).set j (some (.int (i : Int)))) H3 fun y H4 => ∃ acc, H4 D = some (.lst acc) ∧ acc.length < sizeLine ∧ ∃ acc2, (upd H4 D (.lst (acc ++ [y]))) D = some (.lst acc2) ∧ Pv (i + 1) acc2 (upd H4 D (.lst (acc ++ [y]))) else ∃ acc2, H3 D = some (.lst acc2) ∧ Pv (i + 1) acc2 H3) :
    LQ (Itr 0 n) (gName j) tt te vs σ H1 Q := c_it walk_range Pv h0 (fun _ _ _ _ _ => trivial) hd fun i x acc H H' D hi hD hp p y => by
  obtain ⟨rfl, rfl⟩ := y
  have e : (0 : Int) + (i : Int) = (i : Int) := Int.zero_add _
  refine ⟨hw _, ?_⟩
  dsimp only
  rw [e]; exact hs i acc _ D hi hD hp p
theorem c_lst (Pv : Nat → List V → Hp → Prop) (h0 : ∀ D, H1 D = none → Pv 0 [] (upd H1 D (.lst []))) (hl : ∀ i acc H, i ≤ xs.length → Pv i acc H → SqL K H a xs) (hd : ∀ acc D H, H1 D = none → H D = some (.lst acc) → Pv xs.length acc H → Q (.ref D) H) (hw : ∀ x, wipe ((wipe σ vs).set j x) vs = wipe σ vs)
    (hs : ∀ (i : Nat) x acc H D, xs[i]? = some x → H1 D = none → H D = some (.lst acc) → Pv i acc H → tt ((wipe σ vs).set j (some x)) H fun b H3 =>
      if b = true then te ((wipe σ vs).set j (some x)) H3 fun y H4 => ∃ acc, H4 D = some (.lst acc) ∧ acc.length < sizeLine ∧ ∃ acc2, (upd H4 D (.lst (acc ++ [y]))) D = some (.lst acc2) ∧ Pv (i + 1) acc2 (upd H4 D (.lst (acc ++ [y]))) else ∃ acc2, H3 D = some (.lst acc2) ∧ Pv (i + 1) acc2 H3) :
    LQ (Itl K a) (gName j) tt te vs σ H1 Q := c_it walk_list Pv h0 hl hd fun i x acc H H' D hi hD hp p y => by
  obtain ⟨rfl, e⟩ := y
  exact ⟨hw _, hs i x acc _ D e hD hp p⟩
theorem c_tup (Pv : Nat → List V → Hp → Prop) (h0 : ∀ D, H1 D = none → Pv 0 [] (upd H1 D (.lst []))) (hl : ∀ i acc H, i ≤ xs.length → Pv i acc H → SqT K H a xs) (hd : ∀ acc D H, H1 D = none → H D = some (.lst acc) → Pv xs.length acc H → Q (.ref D) H) (hw : ∀ x, wipe ((wipe σ vs).set j x) vs = wipe σ vs)
    (hs : ∀ (i : Nat) x acc H D, xs[i]? = some x → H1 D = none → H D = some (.lst acc) → Pv i acc H → tt ((wipe σ vs).set j (some x)) H fun b H3 =>
      if b = true then te ((wipe σ vs).set j (some x)) H3 fun y H4 => ∃ acc, H4 D = some (.lst acc) ∧ acc.length < sizeLine ∧ ∃ acc2, (upd H4 D (.lst (acc ++ [y]))) D = some (.lst acc2) ∧ Pv (i + 1) acc2 (upd H4 D (.lst (acc ++ [y]))) else ∃ acc2, H3 D = some (.lst acc2) ∧ Pv (i + 1) acc2 H3) :
    LQ (Itt K a) (gName j) tt te vs σ H1 Q := c_it walk_tup Pv h0 hl hd fun i x acc H H' D hi hD hp p y => by
  obtain ⟨rfl, e⟩ := y
  exact ⟨hw _, hs i x acc _ D e hD hp p⟩
theorem e_yes {R : Bool → Hp → Prop} (q : R true H) : tYes σ H R := q
/-- a dict comprehension over a list -/
def DQ (J : It) (g : TG) (tt : TT) (tk tv : TE) (vs : List Nat) (σ : L2.St) (H1 : Hp) (Q : VK) : Prop := ∀ D, H1 D = none → ∃ W : Nat → Nat → Hp → Prop, (∃ m, W 0 m (upd H1 D (.dK []))) ∧ ∀ i m H, W i m H →
  (J.stop i H ∧ Q (.ref D) H) ∨ (J.go i H ∧ ∃ Nx : Hp → Prop, (∀ H', Nx H' → ∃ m', m' < m ∧ W (i + 1) m' H') ∧ ∀ x H', J.yld i H x H' → g x (wipe σ vs) H' fun σ2 H2 => wipe σ2 vs = wipe σ vs ∧ tt σ2 H2 fun b H3 =>
    if b = true then tk σ2 H3 fun y H4 => tv σ2 H4 fun z H5 => ∃ kvs k, y = kV k ∧ H5 D = some (.dK kvs) ∧ kvs.length < sizeLine ∧ Nx (upd H5 D (.dK (putK kvs k z))) else Nx H3)
theorem e_dc {tk tv : TE} (h : wi σ H fun J H1 => DQ J g tt tk tv vs σ H1 Q) : tDc wi g tt tk tv vs σ H Q := h
theorem d_it {J : It} {n : Nat} {G : Hp → Prop} {Y : Nat → Hp → V → Hp → Prop} {tk tv : TE} (W : Walk J n G Y) (Pv : Nat → List (Key × V) → Hp → Prop) (h0 : ∀ D, H1 D = none → Pv 0 [] (upd H1 D (.dK []))) (hG : ∀ i acc H, i ≤ n → Pv i acc H → G H)
    (hd : ∀ acc D H, H1 D = none → H D = some (.dK acc) → Pv n acc H → Q (.ref D) H)
    (hs : ∀ (i : Nat) x acc H H' D, i < n → H1 D = none → H D = some (.dK acc) → Pv i acc H → Y i H x H' → g x (wipe σ vs) H' fun σ2 H2 => wipe σ2 vs = wipe σ vs ∧ tt σ2 H2 fun b H3 =>
      if b = true then tk σ2 H3 fun y H4 => tv σ2 H4 fun z H5 => ∃ kvs k, y = kV k ∧ H5 D = some (.dK kvs) ∧ kvs.length < sizeLine ∧ ∃ acc2, (upd H5 D (.dK (putK kvs k z))) D = some (.dK acc2) ∧ Pv (i + 1) acc2 (upd H5 D (.dK (putK kvs k z))) else ∃ acc2, H3 D = some (.dK acc2) ∧ Pv (i + 1) acc2 H3) : DQ J g tt tk tv vs σ H1 Q := fun D hD => by
  refine ⟨fun i m H => m = n - i ∧ i ≤ n ∧ ∃ acc, H D = some (.dK acc) ∧ Pv i acc H, ⟨n, rfl, Nat.zero_le _, [], upd_same, h0 D hD⟩, ?_⟩
  rintro i m H ⟨rfl, hi, acc, hp, p⟩
  have q := hG i acc H hi p
  by_cases hlt : i < n
  · exact .inr ⟨W.goes i H hlt q, fun H => ∃ acc, H D = some (.dK acc) ∧ Pv (i + 1) acc H, fun H' p' => ⟨n - (i + 1), by omega, rfl, hlt, p'⟩, fun x H' y => hs i x acc H H' D hlt hD hp p (W.yields i H x H' hlt q y)⟩
  · have e : i = n := by omega
    subst e
    exact .inl ⟨W.stops H q, hd acc D H hD hp p⟩
theorem dgot_ {Dl : Addr} {acc : List (Key × V)} {z : V} {k : Key} {P : List (Key × V) → Hp → Prop} (h : H Dl = some (.dK acc)) (hl : acc.length < 100000) (p : P (putK acc k z) (upd H Dl (.dK (putK acc k z)))) :
    ∃ kvs k', kV k = kV k' ∧ H Dl = some (.dK kvs) ∧ kvs.length < sizeLine ∧ ∃ acc2, (upd H Dl (.dK (putK kvs k' z))) Dl = some (.dK acc2) ∧ P acc2 (upd H Dl (.dK (putK kvs k' z))) :=
  ⟨acc, k, rfl, h, Nat.lt_of_lt_of_le hl (by decide), _, upd_same, p⟩
theorem atI_map {ns : List Int} {z : Int} (i : Nat) (e : z = (i : Nat)) (h : i < ns.length) : atI (ns.map V.int) z = some (.int (ns.getD i 0)) := atI_in e (by
  rw [List.getElem?_map, List.getElem?_eq_getElem h, List.getD_eq_getElem?_getD, List.getElem?_eq_getElem h]; rfl)
theorem atI_neg {α : Type} {xs : List α} {x : α} (h0 : 0 < xs.length) (h : xs[xs.length - 1]? = some x) : atI xs (-1) = some x := by
  have e : ixN xs.length (-1) = some (xs.length - 1) := by
    unfold ixN
    rw [if_neg (by omega), if_pos (by omega)]
    congr 1; omega
  unfold atI
  rw [e]; exact h
theorem atI_negI {ns : List Int} (h0 : 0 < ns.length) : atI (ns.map V.int) (-1) = some (.int (ns.getD (ns.length - 1) 0)) := atI_neg (by simpa using h0) (by
  rw [List.length_map, List.getElem?_map, List.getD_eq_getElem?_getD, List.getElem?_eq_getElem (by omega)]; rfl)
theorem getD_mem {ns : List Int} {i : Nat} (h : i < ns.length) : ns.getD i 0 ∈ ns := by
  rw [List.getD_eq_getElem?_getD, List.getElem?_eq_getElem h]; exact List.getElem_mem h
theorem while_ {c : TT} {μ : L2.St → Hp → Nat} (Pv : L2.St → Hp → Prop) (h0 : Pv σ H)
    (hs : ∀ σ H, Pv σ H → c σ H fun b H1 => if b = true then t { D with nx := fun σ' H' => Pv σ' H' ∧ μ σ' H' < μ σ H, ct := fun σ' H' => Pv σ' H' ∧ μ σ' H' < μ σ H, bk := D.nx } σ H1 else D.nx σ H1)
    (mono : ∀ σ H Q Q', (∀ b H1, Q b H1 → Q' b H1) → c σ H Q → c σ H Q') : tWhile c t D σ H := while_by Pv μ h0 hs mono
theorem same_oth {f : Addr} {H0 H2 : Hp} (n : H0 f = none) (s : Same H0 H) (o : Oth f H H2) : Same H0 H2 := fun b u e => o b u (ne_of_none e n) (s b u e)
theorem e_bm {T : String} {r : V → List V → Hp → VK → Prop} {to : TE} {ts : TA} (h : to σ H fun x H1 => tyV K T x H1 ∧ ts σ H1 fun xs H2 => r x xs H2 Q) : tBM K T r to ts σ H Q := h
theorem ty_lst {f : Addr} {R : Prop} (h : H f = some (.lst xs)) (q : R) : tyV K "list" (.ref f) H ∧ R := ⟨.inl ⟨rfl, xs, slO h⟩, q⟩
theorem r_app {f : Addr} {y : V} (h : H f = some (.lst xs)) (hl : xs.length < 100000) (q : ∀ H2, Oth f H H2 → H2 f = some (.lst (xs ++ [y])) → Q .non H2) : rAppend (.ref f) [y] H Q :=
  ⟨f, xs, y, rfl, rfl, h, lt_size hl, q _ (fun b o n z => by rw [upd_ne n]; exact z) upd_same⟩
theorem o_cat {r' : R2} {l b : Addr} {ys : List V} (h1 : H l = some (.lst xs)) (h2 : H b = some (.lst ys)) (hl : xs.length + ys.length < 100000) (q : NewQ (.lst (xs ++ ys)) H Q) : rOr rIAdd (rOr rCat r') (.ref l) (.ref b) H Q := .inr (.inl ⟨l, b, xs, ys, rfl, rfl, h1, h2, le_size hl, q⟩)
theorem e_din {ty td : TE} (h : ty σ H fun y H1 => td σ H1 fun x H2 => ∃ a o, x = .ref a ∧ DGet H2 a y o ∧ Q (.bl o.isSome) H2) : tDIn ty td σ H Q := h
theorem g_din {PO : Option V → Prop} {d : Addr} {kvs : List (Key × V)} {k : Key} (h : H d = some (.dK kvs)) (q : PO (valV kvs k)) : ∃ a o, V.ref d = .ref a ∧ DGet H a (kV k) o ∧ PO o := ⟨d, _, rfl, DGet.k h, q⟩
theorem e_sl {r : V → Option Int → Option Int → Hp → VK → Prop} {tl th : TO} (h : te σ H fun x H1 => tl σ H1 fun l H2 => th σ H2 fun u H3 => r x l u H3 Q) : tSl r te tl th σ H Q := h
theorem e_np {R : Option Int → Hp → Prop} (h : R none H) : tNoPart σ H R := h
theorem e_pt {R : Option Int → Hp → Prop} (h : te σ H fun x H1 => ∃ i, x = .int i ∧ R (some i) H1) : tPart te σ H R := h
theorem e_ptI {PI : Int → Prop} {i : Int} (h : PI i) : ∃ j, V.int i = .int j ∧ PI j := ⟨i, rfl, h⟩
theorem r_sl {lo hi : Option Int} (s : SqL K H a xs) (q : NewQ (.lst (cutV xs lo hi)) H Q) : rSlL K (.ref a) lo hi H Q := ⟨a, xs, rfl, s, q⟩
theorem cut_map {f : Int → V} (ns : List Int) (lo hi : Option Int) : ∃ ms : List Int, cutV (ns.map f) lo hi = ms.map f ∧ ms.length ≤ ns.length ∧ ∀ z ∈ ms, z ∈ ns := by
  have key : ∀ a b : Nat, ∃ ms : List Int, ((ns.map f).drop a).take b = ms.map f ∧ ms.length ≤ ns.length ∧ ∀ z ∈ ms, z ∈ ns := fun a b =>
    ⟨(ns.drop a).take b, by rw [List.map_take, List.map_drop], by rw [List.length_take, List.length_drop]; omega, fun z hz => List.mem_of_mem_drop (List.mem_of_mem_take hz)⟩
  exact key _ _
theorem eqV_int {a b : Int} : eqV (.int a) (.int b) = decide (a = b) := by
  show (a == b) = _
  by_cases h : a = b
  · rw [h]; simp
  · simp [h]
theorem inV_int {z : Int} {ns : List Int} : inV (.int z) (ns.map V.int) = decide (z ∈ ns) := by
  unfold inV
  rw [List.any_map, Bool.eq_iff_iff, List.any_eq_true, decide_eq_true_eq]
  constructor
  · rintro ⟨y, hy, e⟩
    have := eqV_int (a := y) (b := z)
    have e : eqV (.int y) (.int z) = true := e
    rw [this, decide_eq_true_eq] at e
    rw [← e]; exact hy
  · intro h
    refine ⟨z, h, ?_⟩
    show eqV (.int z) (.int z) = true
    rw [eqV_int]; simp
theorem flat_ints {ns : List Int} : (ns.map V.int).all flatV = true := by
  rw [List.all_map, List.all_eq_true]; exact fun _ _ => rfl
theorem o_inL {p : Addr} {z : Int} {ns : List Int} (s : SqL K H p (ns.map V.int)) (q : Q (.bl (decide (z ∈ ns))) H) : rIn K false (.int z) (.ref p) H Q := ⟨p, _, rfl, .inl s, rfl, flat_ints, by rw [inV_int]; exact q⟩
theorem o_inT {p : Addr} {z : Int} {ns : List Int} (s : SqT K H p (ns.map V.int)) (q : Q (.bl (decide (z ∈ ns))) H) : rIn K false (.int z) (.ref p) H Q := ⟨p, _, rfl, .inr s, rfl, flat_ints, by rw [inV_int]; exact q⟩
theorem o_niL {p : Addr} {z : Int} {ns : List Int} (s : SqL K H p (ns.map V.int)) (q : Q (.bl (decide (z ∉ ns))) H) : rIn K true (.int z) (.ref p) H Q := ⟨p, _, rfl, .inl s, rfl, flat_ints, by
  have e : (!decide (z ∈ ns)) = decide (z ∉ ns) := by simp
  rw [inV_int]; show Q (.bl (!decide (z ∈ ns))) H; rw [e]; exact q⟩
theorem o_niT {p : Addr} {z : Int} {ns : List Int} (s : SqT K H p (ns.map V.int)) (q : Q (.bl (decide (z ∉ ns))) H) : rIn K true (.int z) (.ref p) H Q := ⟨p, _, rfl, .inr s, rfl, flat_ints, by
  have e : (!decide (z ∈ ns)) = decide (z ∉ ns) := by simp
  rw [inV_int]; show Q (.bl (!decide (z ∈ ns))) H; rw [e]; exact q⟩
def SortQ (ns : List Int) (H : Hp) (Q : VK) : Prop := ∀ (ns' : List Int) p H2, ns'.Perm ns → ns'.Pairwise (· ≤ ·) → H p = none → Same H H2 → H2 p = some (.lst (ns'.map V.int)) → Q (.ref p) H2
theorem c_sortI {p : Addr} {ns : List Int} (s : SqL K H p (ns.map V.int)) (q : SortQ ns H Q) : rSortedI K [.ref p] H Q := ⟨p, ns, rfl, s, fun ns' r h1 h2 n => q ns' r _ h1 h2 n (Same.new n) upd_same⟩
theorem s_while (h : tWhile tt t D σ H) : tWhile tt t D σ H := h
end
/-! ### what a reading asks is monotone (for the parts of a comprehension): by the shape -/
section
variable {ta tb te : TE} {c d : TT}
abbrev MoE (te : TE) : Prop := ∀ σ H (R R' : VK), (∀ v H1, R v H1 → R' v H1) → te σ H R → te σ H R'
abbrev MoT (c : TT) : Prop := ∀ σ H (R R' : Bool → Hp → Prop), (∀ b H1, R b H1 → R' b H1) → c σ H R → c σ H R'
abbrev MoA (t : TA) : Prop := ∀ σ H (R R' : List V → Hp → Prop), (∀ v H1, R v H1 → R' v H1) → t σ H R → t σ H R'
abbrev Mo2 (r : R2) : Prop := ∀ x y H (R R' : VK), (∀ v H1, R v H1 → R' v H1) → r x y H R → r x y H R'
abbrev MoC (r : List V → Hp → VK → Prop) : Prop := ∀ x H (R R' : VK), (∀ v H1, R v H1 → R' v H1) → r x H R → r x H R'
abbrev MoSp (r : Sp) : Prop := ∀ x H (R R' : VK) E, (∀ v H1, R v H1 → R' v H1) → r x H R E → r x H R' E
theorem m_yes : MoT tYes := fun _ H _ _ h q => h _ _ q
theorem m_var {i : Nat} : MoE (tVar i) := fun _ H _ _ h q => q.elim fun v q => ⟨v, q.1, h _ _ q.2⟩
theorem m_c {v : V} : MoE (tC v) := fun _ H _ _ h q => h _ _ q
theorem m_op {r : R2} (hr : Mo2 r) (ha : MoE ta) (hb : MoE tb) : MoE (tOp r ta tb) := fun σ H _ _ h q => ha σ H _ _ (fun x H1 => hb σ H1 _ _ fun y H2 => hr x y H2 _ _ h) q
theorem m_test (h : MoE te) : MoT (tTest te) := fun σ H _ _ k q => h σ H _ _ (fun x H1 ⟨b, e, z⟩ => ⟨b, e, k b H1 z⟩) q
theorem m_tB (h : MoE te) : MoT (tB te) := fun σ H _ _ k q => h σ H _ _ (fun x H1 ⟨b, e, z⟩ => ⟨b, e, k b H1 z⟩) q
theorem m_nil : MoA tNil := fun _ H _ _ h q => h _ _ q
theorem m_cons {tr : TA} (ha : MoE ta) (hr : MoA tr) : MoA (tCons ta tr) := fun σ H _ _ h q => ha σ H _ _ (fun x H1 => hr σ H1 _ _ fun xs H2 => h (x :: xs) H2) q
theorem m_cb {r : List V → Hp → VK → Prop} {tt : TA} (hr : MoC r) (ht : MoA tt) : MoE (tCB r tt) := fun σ H _ _ h q => ht σ H _ _ (fun x H1 => hr x H1 _ _ h) q
theorem m_call {sp : Sp} {dvs : List V} {E : XK} {tt : TA} (hr : MoSp sp) (ht : MoA tt) : MoE (tCall sp dvs E tt) := fun σ H _ _ h q => ht σ H _ _ (fun x H1 => hr _ H1 _ _ E h) q
theorem m_or {r r' : R2} (a : Mo2 r) (b : Mo2 r') : Mo2 (rOr r r') := fun x y H _ _ h q => q.elim (fun q => .inl (a x y H _ _ h q)) fun q => .inr (b x y H _ _ h q)
theorem m_I0 {f : Int → Int → V} : Mo2 (rI0 f) := fun x y H _ _ h ⟨i, j, e1, e2, q⟩ => ⟨i, j, e1, e2, h _ _ q⟩
theorem m_I {C : Int → Int → Prop} {f : Int → Int → V} : Mo2 (rI C f) := fun x y H _ _ h ⟨i, j, e1, e2, c, q⟩ => ⟨i, j, e1, e2, c, h _ _ q⟩
theorem m_ix {K : PySem.W.Frag} : Mo2 (rIxLT K) := fun x y H _ _ h q => q.elim (fun ⟨p, xs, i, v, e1, e2, s, e, q⟩ => .inl ⟨p, xs, i, v, e1, e2, s, e, h _ _ q⟩) fun ⟨p, xs, i, v, e1, e2, s, e, q⟩ => .inr ⟨p, xs, i, v, e1, e2, s, e, h _ _ q⟩
theorem m_in {K : PySem.W.Frag} {n : Bool} : Mo2 (rIn K n) := fun x y H _ _ h ⟨p, xs, e1, s, f1, f2, q⟩ => ⟨p, xs, e1, s, f1, f2, h _ _ q⟩
theorem m_cat : Mo2 rCat := fun x y H _ _ h ⟨l, b, xs, zs, e1, e2, h1, h2, h3, q⟩ => ⟨l, b, xs, zs, e1, e2, h1, h2, h3, fun p hp => h _ _ (q p hp)⟩
theorem m_sadd : Mo2 rSAdd' := fun x y H _ _ h ⟨i, j, e1, e2, h1, q⟩ => ⟨i, j, e1, e2, h1, h _ _ q⟩
theorem m_add : Mo2 (rOr rIAdd (rOr rCat rSAdd')) := m_or m_I0 (m_or m_cat m_sadd)
theorem m_and (h1 : MoT c) (h2 : MoT d) : MoT (tAnd c d) := fun σ H _ _ k q => h1 σ H _ _ (fun b H1 z => by cases b with
  | true => rw [if_pos rfl] at z ⊢; exact h2 σ H1 _ _ k z
  | false => rw [if_neg Bool.false_ne_true] at z ⊢; exact k _ _ z) q
theorem m_int1 : MoC rInt1 := fun x H _ _ h q => q.elim (fun ⟨i, e, q⟩ => .inl ⟨i, e, h _ _ q⟩) fun ⟨i, e, q⟩ => .inr ⟨i, e, h _ _ q⟩
theorem m_abs : MoC rAbs := fun x H _ _ h ⟨i, e, q⟩ => ⟨i, e, h _ _ q⟩
end
end Vw

set_option Elab.async false
set_option linter.all false
set_option maxRecDepth 100000
set_option maxHeartbeats 4000000
namespace Vw
open PySem PySem.Spec PyProof.Rows L2
/-- a set as it is made -/
abbrev so0 (w : World) : Obj := { cls := .type "set", dict := none, data := .set #[] 0 (.fresh 0 0 (!w.params.followText "set-order")) }
abbrev li0 (l : Addr) : Obj := { cls := .type "list_iterator", data := .fields #[.ref l, .int 0 0] }
section
variable {P : Program} {w : World} {A : Around} {E : Value → Shared → Prop} {s : Shared}
/-- what the filling of a new set by a list of ints leaves -/
def Filled (w : World) (s : Shared) (ns : List Int) (s2 : Shared) : Prop := ∃ h' tk c, s2 = { s with heap := h', toks := tk } ∧ SetR w h' s.heap.objs.size (fun j => decide (j ∈ ns)) c ∧ c ≤ ns.length ∧ ∀ b o, s.heap.get? b = some o → h'.get? b = some o
abbrev fillQ (P : Program) (w : World) (A0 : Around) (E : Value → Shared → Prop) (s : Shared) (ns : List Int) : Result → Shared → Prop := wants (fun r s2 => r = Value.none ∧ Filled w s ns s2) E
theorem fill_list {A0 : Around} {l : Addr} {items : Array Value} (ns : List Int) (hh : A.handled = none) (hl : s.heap.IsList l items) (hit : IntsAre items.toList ns) (hb : ns.length + 1 < scanBound) :
    wpAny (model P w) A (Builtin.«set.__init__» ⟨[.ref s.heap.objs.size, .ref l], []⟩) (fun fin s' => match fin with | .done f => fillQ P w A0 E s ns (.ok f) s' | .again c' => c'.quiet = true ∧ codeAny (model P w) A0 c' (fillQ P w A0 E s ns) s') (fun e s' => fillQ P w A0 E s ns (.error e) s') { s with heap := s.heap.push (so0 w) } := by
  have hz : items.size = ns.length := by have q := IntsAre.length hit; rw [Array.length_toList] at q; exact q
  have hS : (s.heap.push (so0 w)).get? s.heap.objs.size = some (so0 w) := Heap.get?_push_size _ rfl
  obtain ⟨ol, hol, hcl, nl, hdl⟩ := hl
  obtain ⟨ocls, odict, odata, oslots⟩ := ol
  simp only at hcl hdl
  subst hcl hdl
  have hol' : (s.heap.push (so0 w)).get? l = some { cls := .type "list", dict := odict, data := .seq items nl, slots := oslots } := Heap.get?_push_of_some _ hol
  have ha := F.sub_list_set; have hf := F.sub_list_frozenset
  have hd : (Value.type "list" == Value.type "dict") = false := by decide
  have hl1 : (s.heap.push (so0 w)).IsList l items := ⟨_, hol', rfl, nl, rfl⟩
  unfold Builtin.«set.__init__» noKeywords Builtin.Frozenset.updateFrom
  generalize hPI : pyIter = PI
  wp_walk
  subst hPI
  refine wpAny_pyIter_list hl1 ?_
  refine (wpAny_bind (wpAny_runValue ?_))
  have hls : l < s.heap.objs.size := Heap.lt_size hol
  have hi0 : A.in1.in1.handled = none := by simp [hh]
  have hsz : (s.heap.push (so0 w)).objs.size = s.heap.objs.size + 1 := Heap.size_push ..
  have hI : l ≠ (s.heap.push (so0 w)).objs.size := by rw [hsz]; exact Nat.ne_of_lt (Nat.lt_succ_of_lt hls)
  have hSf : s.heap.objs.size ∉ [(s.heap.push (so0 w)).objs.size, l] := by
    rw [hsz]; simp only [List.mem_cons, List.not_mem_nil, or_false, not_or]
    exact ⟨Nat.ne_of_lt (Nat.lt_succ_self _), Nat.ne_of_gt hls⟩
  have hval : ∀ (i : Nat) (v : Value), items[i]? = some v → ∃ k t, ns[i]? = some k ∧ v = .int k t := fun i v hv => by
    have hi : i < ns.length := by rw [← hz]; exact (Array.getElem?_eq_some_iff.mp hv).1
    obtain ⟨t, e⟩ := PyProof.Rows.IntsAre.int_at hit i v (by rw [Array.getElem?_toList]; exact hv)
    exact ⟨ns[i], t, List.getElem?_eq_getElem hi, by rw [e, List.getD_eq_getElem?_getD, List.getElem?_eq_getElem hi] <;> rfl⟩
  refine set_update_ints ((Walks.list (by simp [hh]) _ l hI items).toS) s.heap.objs.size hSf ns hz hb hval (items.size - 0) 0 _ (by omega) (Nat.zero_le _) ⟨⟨_, Heap.get?_push_size _ rfl, rfl, rfl⟩, (hl1.push _)⟩ ?h0 ?h1
  case h0 =>
    have hg : ((s.heap.push (so0 w)).push (li0 l)).get? s.heap.objs.size = some (so0 w) := Heap.get?_push_of_some _ hS
    exact ⟨0, Nat.le_refl 0, setR_new_at hg⟩
  case h1 =>
    intro s' c' hm hc' hS'
    obtain ⟨h', g2, d', tk', os'⟩ := s'
    have eg : g2 = s.gens := hm.gens
    have ed : d' = s.drawn := hm.drawn
    have eo : os' = s.os := hm.os
    subst eg ed eo
    show wpAny _ _ _ _ _ _
    refine wpAny_pure ?_
    show wpAny _ _ (ret Value.none) _ _ _
    refine wpAny_pure ⟨rfl, h', tk', c', rfl, hS', by omega, fun b o e => ?_⟩
    have hb0 : b < s.heap.objs.size := Heap.lt_size e
    refine hm.heap b o ?_ (Heap.get?_push_of_some _ (Heap.get?_push_of_some _ e))
    simp only [List.mem_cons, List.not_mem_nil, or_false, not_or]
    exact ⟨Nat.ne_of_lt hb0, by rw [hsz]; exact Nat.ne_of_lt (Nat.lt_succ_of_lt hb0)⟩
theorem set_of_list {l : Addr} {items : Array Value} (ns : List Int) {Q : Value → Shared → Prop} (hh : A.handled = none) (hl : s.heap.IsList l items) (hit : IntsAre items.toList ns) (hb : ns.length + 1 < scanBound)
    (h : ∀ s2, Filled w s ns s2 → Q (.ref s.heap.objs.size) s2) : wpAny (model P w) A (call (.type "set") [.ref l]) Q E s := by
  obtain ⟨c, tl, hmro⟩ := F.called_set.mro
  have hmade := F.called_set.made; have hsub := F.called_set.sub
  refine wpAny_call (codeAny_of_tree (show wpAny _ _ (callAny (.type "set") _) _ _ _ from wpAny_pure ⟨Code.quiet_builtin _ (by decide +kernel), codeAny_builtin F.entry_type_call ?_⟩))
  rw [Around.under_plain (weight_type_call_type "set" [.ref l] []) rfl]
  have h1 := F.called_set.notType; have h2 := F.called_set.canCreate; have h3 := F.typeCall_set_1 (.ref l)
  repeat (any_goals (first | assumption | wp_step))
  refine codeAny_mono (code_set_led1 (.ref l) (E := E) (Q₁ := fun obj s₁ => obj = .ref s.heap.objs.size ∧ s₁ = { s with heap := s.heap.push (so0 w) }) ⟨rfl, rfl⟩) fun r s₁ hr => ?_
  rcases r with e | fl
  · exact hr
  cases fl with
  | ret obj =>
    obtain ⟨rfl, rfl⟩ := hr
    have hS : (s.heap.push (so0 w)).get? s.heap.objs.size = some (so0 w) := Heap.get?_push_size _ rfl
    have hT : Shared.TypeIs { s with heap := s.heap.push (so0 w) } (.ref s.heap.objs.size) "set" := ⟨_, hS, rfl⟩
    have hi1 := F.called_set.init.lookup; have hi2 := F.called_set.init.bind (.ref s.heap.objs.size)
    repeat (any_goals (first | assumption | wp_step))
    refine codeAny_mono (codeAny_call_builtin (R := wants (fun r s2 => r = Value.none ∧ Filled w s ns s2) E) F.called_set.init.plain F.entry_set_init (check_set_init_1 hT (fill_list ns (by first | exact hh | simp [hh]) hl hit hb))) fun r₂ s₂ hr₂ => ?_
    rcases r₂ with e | fl₂
    · exact hr₂
    cases fl₂ with
    | ret r =>
      obtain ⟨rfl, hF⟩ := hr₂
      have hF' := hF
      obtain ⟨h', tk, c, rfl, _⟩ := hF'
      repeat (any_goals (first | assumption | wp_step))
      exact h _ hF
    | _ => exact hr₂.elim
  | _ => exact hr.elim
end
/-- set(xs) of a list of ints -/
def rSetL1 (K : PySem.W.Frag) (w : World) : List V → Hp → VK → Prop := fun xs H Q => ∃ (a : Addr) (ns : List Int), xs = [.ref a] ∧ SqL K H a (ns.map V.int) ∧ ns.length < 4000 ∧
  ∀ (p : Addr) (c : Nat), c ≤ ns.length → H p = none → Q (.ref p) (upd H p (SetO w p (fun j => decide (j ∈ ns)) c))
theorem cSetL {X : Cx} {K : PySem.W.Frag} {w : World} (hc : X.calm = true) (e : X.K = K := by rfl) (ew : X.w = w := by rfl) : CallR X (.type "set") (rSetL1 K w) := by
  cases e; cases ew
  intro pins s σ H xs us Q I r h
  obtain ⟨a, ns, rfl, hq, hl, q⟩ := h
  rw [Vals.ref1 r]
  obtain ⟨its, rv, p, hz⟩ := I.list hq
  refine set_of_list ns (I.ok.hd hc) p.isList (ints_of_vals rv) (by unfold scanBound; omega) fun s2 hF => ?_
  obtain ⟨h', tk, c, rfl, R, hcn, kp⟩ := hF
  exact ⟨.ref _, upd H s.heap.objs.size (SetO X.w s.heap.objs.size (fun j => decide (j ∈ ns)) c), I.laid (t' := tk) kp (Nat.le_refl _) (setO_new R), rfl, q _ c hcn (I.hok.fresh (Nat.le_refl _))⟩
def rSortSet (w : World) : List V → Hp → VK → Prop := fun vs H Q => ∃ (a : Addr) (S : Int → Bool) (n : Nat), vs = [V.ref a] ∧ H a = some (SetO w a S n) ∧ n < 64 ∧
  ∀ (ns : List Int) (p : Addr), ns.Pairwise (· < ·) → (∀ k : Int, k ∈ ns ↔ S k = true) → ns.length = n → H p = none → Q (.ref p) (upd H p (.lst (ns.map V.int)))
theorem cSortSet {X : Cx} {w : World} (hc : X.calm = true) (ew : X.w = w := by rfl) : CallR X (.builtin "sorted") (rSortSet w) := by cases ew; exact cr_sortedSet hc
theorem c_setL {K : PySem.W.Frag} {w : World} {H : Hp} {Q : VK} {a : Addr} {ns : List Int} (s : SqL K H a (ns.map V.int)) (hl : ns.length < 4000) (q : ∀ p c H2, c ≤ ns.length → H p = none → Same H H2 → H2 p = some (SetO w p (fun j => decide (j ∈ ns)) c) → Q (.ref p) H2) : rSetL1 K w [.ref a] H Q :=
  ⟨a, ns, rfl, s, hl, fun p c hc hp => q p c _ hc hp (Same.new hp) upd_same⟩
theorem c_sortS {w : World} {H : Hp} {Q : VK} {a : Addr} {S : Int → Bool} {n : Nat} (h : H a = some (SetO w a S n)) (hn : n < 64) (q : ∀ (ns : List Int) p H2, ns.Pairwise (· < ·) → (∀ k : Int, k ∈ ns ↔ S k = true) → ns.length = n → H p = none → Same H H2 → H2 p = some (.lst (ns.map V.int)) → Q (.ref p) H2) : rSortSet w [.ref a] H Q :=
  ⟨a, S, n, rfl, h, hn, fun ns p h1 h2 h3 hp => q ns p _ h1 h2 h3 hp (Same.new hp) upd_same⟩
end Vw

set_option Elab.async false
set_option linter.all false
set_option maxRecDepth 100000
set_option maxHeartbeats 4000000
namespace Vw
open PySem PySem.Spec PyProof.Rows L2
/-! ### a name gets a dict comprehension -/
section
variable {X : Cx}
abbrev BlkAll (X : Cx) (scope : Scope) (F : Cx → Prop) : Prop := ∀ (s : Shared) (H : Hp) (C : Addr) (cl : List (Str × Addr)) (fp : List Addr), F (X.blk s H scope (compEnvC scope cl C X.env) fp)
theorem swD_true {kx vx : Expr} {gs : List Comprehension} {scope : Scope} {pos py : Pos} {y : Str} {l : Nat} {env : Env} (h1 : env.scope.kind = .function) (h2 : env.scope.names.lookup y = some .local) (h3 : (py.line == pos.line) = true)
    (h4 : (scope.names.any fun (n, k) => n == y && (k == .local || k == .cell)) = false) : swapsWith (.DictComp kx vx gs scope pos) (some (.Name y py)) l env = pure true := by
  have e1 : env.kindOf y = some .local := h2
  have e2 : env.blockKind = .function := by unfold Env.blockKind; rw [h1]; rfl
  unfold swapsWith
  simp only [e2, e1, h4, Expr.pos, h3]; rfl
theorem ps_setDc {i : Nat} {y : Str} {py : Pos} {kx vx tg iter : Expr} {ifs : List Expr} {scope : Scope} {own : List (Str × Nat)} {pos spos : Pos} {wi : TI} {g : TG} {tt : TT} {tk tv : TE} (hc : X.calm = true) (hN : X.N.Nodup) (hy : X.N[i]? = some y) (hyl : X.env.scope.names.lookup y = some .local)
    (hsw : swapsWith (.DictComp kx vx [⟨tg, iter, ifs, 0⟩] scope pos) (some (.Name y py)) spos.line X.env = pure true) (hi : PI X tg iter wi) (ok : BlkOk X.N X.env.scope scope own) (hg : BlkAll X scope fun Y => PG Y tg g) (ht : BlkAll X scope fun Y => PTs Y ifs tt)
    (hk : BlkAll X scope fun Y => PE Y kx tk) (he : BlkAll X scope fun Y => PE Y vx tv) (hs : ∀ x, foldedSetIterable iter X.env x = pure x := by intro _; rfl) : PS X (.Assign [.Name y py] (.DictComp kx vx [⟨tg, iter, ifs, 0⟩] scope pos) spos) (tAsg (tDc wi g tt tk tv (own.map (·.2))) (gName i)) := by
  refine ⟨fun pins s σ H D I h => ?_⟩
  rw [exec_Assign_Name_used _ _ _ _ hsw]
  refine wpAny_bind (wpAny_standAt (wpAny_bind ?_))
  show wpAny _ X.A (do let _ ← comprehension (.DictComp kx vx [⟨tg, iter, ifs, 0⟩] scope pos) scope X.env (firstIterPos [⟨tg, iter, ifs, 0⟩] pos) newDict false (eval iter X.env) (some (assign (.Name y py) X.env))) _ _ s
  have h2 : tDc wi g tt tk tv (own.map (·.2)) σ H (fun x H1 => gName i x σ H1 D.nx) := h
  refine wpAny_bind (thn (dc_core (Qf := fun _ s' => SP X pins D .next s') hc hN I hi ok hg ht hk he hs h2 fun L C s' m H' I' q hn f => ?_) fun _ s' hq => wpAny_pure (wpAny_pure hq))
  show wpAny _ _ (assign (.Name y py) X.env (.ref L)) _ _ _
  refine wpAny_assign_Name (store_ok2 (v := V.ref L) I' hN hy (.inl hyl) rfl (fun s2 I2 ⟨a, sb, ha⟩ => ?_) (.inr hyl))
  obtain ⟨f0, f1, f2, f3, f4, f5⟩ := f
  have hne : C ≠ a := ha.elim (fun z => z ▸ f1) fun z e => f4 y a z e.symm
  exact ⟨m, hn.sameBut sb hne, fun h3 sb3 => ⟨_, H', I2.turned (t' := s2.toks) (fun b o hb e => (sb3.2 b hb).trans e) f0 f1 f3 f4 f5, q⟩⟩
end
end Vw

set_option Elab.async false
set_option linter.all false
set_option maxRecDepth 100000
set_option maxHeartbeats 4000000
namespace Vw
open PySem PySem.Spec PyProof.Rows L2 HT
/-! ### t[::-1] of a tuple -/
section
variable {prog : Program} {w : World} {A : Around} {E : Value → Shared → Prop} {s : Shared}
theorem backAdjust (n : Nat) : Builtin.Slice.sliceAdjust none none (-1) (n : Int) = ((n : Int) - 1, -1) := by
  unfold Builtin.Slice.sliceAdjust
  rfl
theorem backPlaces (n : Nat) : Builtin.Slice.slicePlaces ((n : Int) - 1) (-1) (-1) = n := by
  unfold Builtin.Slice.slicePlaces
  have h1 : ¬ ((-1 : Int) > 0) := by decide
  simp only [h1, if_false]
  have e : ((n : Int) - 1 - -1 - 1) / (- -1) = (n : Int) - 1 := by
    rw [show (- -1 : Int) = 1 by decide, Int.ediv_one]
    omega
  split
  · rw [e]; omega
  · omega
theorem sliceApplied_back {sl : Addr} {vs : Value} {n : Nat} {Q : Int × Int × Nat → Shared → Prop} (hs : s.heap.IsSliceOf sl .none .none vs) (ps : IsPart vs (some (-1)))
    (h : Q (((n : Int) - 1), -1, n) s) : wpAny (model prog w) A (Builtin.Slice.sliceApplied (.ref sl) (pure (n : Int))) Q E s := by
  obtain ⟨os, hos, hcs, hds⟩ := id hs
  unfold Builtin.Slice.sliceApplied Builtin.Slice.sliceFields
  refine wpAny_bind (wpAny_bind (wpAny_field hos hds (x := .none) rfl (wpAny_bind (wpAny_field hos hds (x := .none) rfl (wpAny_bind (wpAny_field hos hds (x := vs) rfl (wpAny_pure ?_)))))))
  refine wpAny_bind (slicePart_ ps ?_)
  show wpAny _ _ (if ((-1 : Int) == 0) = true then _ else _) _ _ s
  rw [if_neg (by decide)]
  refine wpAny_bind (slicePart_none (wpAny_bind (slicePart_none (wpAny_bind (wpAny_pure ?_)))))
  show wpAny _ _ (match Builtin.Slice.sliceAdjust none none (-1) (n : Int) with | (lo, hi) => pure (lo, (-1 : Int), Builtin.Slice.slicePlaces lo hi (-1))) _ _ s
  rw [backAdjust n]
  show wpAny _ _ (pure (((n : Int) - 1), (-1 : Int), Builtin.Slice.slicePlaces ((n : Int) - 1) (-1) (-1))) _ _ s
  rw [backPlaces]
  exact wpAny_pure h
theorem pick_back (xs : Array Value) : ((List.range xs.size).filterMap fun (m : Nat) => xs[((xs.size : Int) - 1 + (m : Int) * (-1)).toNat]?).toArray = xs.toList.reverse.toArray := by
  have e : (List.range xs.size).filterMap (fun (m : Nat) => xs[((xs.size : Int) - 1 + (m : Int) * (-1)).toNat]?) = ((List.range xs.size).map fun k => xs.size - 1 - k).filterMap (xs[·]?) := by
    have e2 : (List.range xs.size).map (fun k => xs.size - 1 - k) = (List.range xs.size).map fun (m : Nat) => ((xs.size : Int) - 1 + (m : Int) * (-1)).toNat := by
      apply List.map_congr_left
      intro m hm
      have := List.mem_range.mp hm
      omega
    rw [e2, List.filterMap_map]
    rfl
  rw [e, PySem.W.krv_range, List.filterMap_reverse, PySem.W.krv_all]
theorem getItem_tuple_back {t sl : Addr} {items : Array Value} {vs : Value} {Q : Value → Shared → Prop} (ht : IsTup s.heap t items) (hs : s.heap.IsSliceOf sl .none .none vs) (ps : IsPart vs (some (-1)))
    (h : Q (.ref s.heap.objs.size) { s with heap := s.heap.push { cls := .type "tuple", data := .seq items.toList.reverse.toArray } })
    (hsz : items.size ≤ sizeLine) : wpAny (model prog w) A (getItem (.ref t) (.ref sl)) Q E s := by
  have htake : sizeOk (.seq items.toList.reverse.toArray) := by
    show items.toList.reverse.toArray.size ≤ sizeLine
    rw [List.size_toArray, List.length_reverse, Array.length_toList]
    exact hsz
  obtain ⟨os, hos, hcs, hds⟩ := id hs
  have hTs : s.TypeIs (.ref sl) "slice" := ⟨os, hos, hcs⟩
  unfold getItem
  try with_reducible refine wpAny_holding ?_
  first | refine wpAny_bind (wpAny_pure ?_) | skip
  refine wpAny_bind (wpAny_sequenceKey ht.typeIs (by decide) ?_)
  refine wpAny_bind (wpAny_callSpecial?_slot (name := Str.ofString "__getitem__") ht.typeIs PyProof.Rows.slot_tuple_getitem
    (wpAny_call_entry PyProof.Rows.slot_tuple_getitem ht.typeIs entry_tuple_getitem ?_ (args_tuple_getitem _ _)))
  show wpAny _ _ (Builtin.Tuple.tupleItemsOf (.ref t) >>= _) _ _ s
  refine wpAny_bind (tupleItemsOf_ ht ?_)
  refine wpAny_bind (wpAny_typeOf hTs ?_)
  rw [if_pos (by decide)]
  refine wpAny_bind (sliceApplied_back hs ps ?_)
  have hno : ¬ ((((items.size : Int) - 1) == 0 && (-1 : Int) == 1 && items.size == items.size) = true) := by
    intro q
    rw [Bool.and_eq_true, Bool.and_eq_true] at q
    exact absurd q.1.2 (by decide)
  show wpAny _ _ (if (((items.size : Int) - 1) == 0 && (-1 : Int) == 1 && items.size == items.size) = true then _ else _) _ _ s
  rw [if_neg hno, pick_back]
  first
    | exact wpAny_bind (m := Builtin.Tuple.tupleExact _) (wpAny_newObj_type (wpAny_pure ⟨_, rfl, wpAny_pure h⟩) htake)
    | exact wpAny_bind (m := Builtin.Tuple.tupleExact _) (wpAny_newObj_type (wpAny_bind (wpAny_pure (wpAny_pure ⟨_, rfl, wpAny_pure h⟩))) htake)
    | exact wpAny_bind (wpAny_bind (m := Builtin.Tuple.tupleExact _) (wpAny_newObj_type (wpAny_pure (wpAny_pure ⟨_, rfl, wpAny_pure h⟩)) htake))
    | exact wpAny_bind (wpAny_bind (m := Builtin.Tuple.tupleExact _) (wpAny_newObj_type (wpAny_pure ⟨_, rfl, wpAny_pure h⟩) htake))
end
section
variable {X : Cx}
def tRevT (K : PySem.W.Frag) (te : TE) : TE := fun σ H Q => te σ H fun x H1 => ∃ a xs, x = .ref a ∧ SqT K H1 a xs ∧ ∀ p, H1 p = none → Q (.ref p) (upd H1 p (.tup xs.reverse))
theorem pe_revT {K : PySem.W.Frag} {e : Expr} {te : TE} {k : Nat} {p1 p2 p3 pos : Pos} (he : PE X e te) (eK : X.K = K := by rfl) : PE X (.Subscript e (.Slice none none (some (.UnaryOp .USub (.Constant (.int 1) k p1) p2)) p3) pos) (tRevT K te) := by
  cases eK
  refine ⟨fun pins s σ H Q I h => ?_⟩
  refine Subscript_ (thn (he.run pins s σ H _ I h) fun v s1 ⟨x, H1, I1, r1, q1⟩ => ?_)
  obtain ⟨a, xs, ex, hx, q⟩ := q1
  subst ex
  cases r1
  have hst : PO X (some (.UnaryOp .USub (.Constant (.int 1) k p1) p2)) (tPart (tUn (rU fun i => .int (-i)) (tC (.int 1)))) := po_some (pe_un un_neg pe_int)
  refine wpAny_Slice (thn (po_none.run pins s1 σ H1 (fun o H2 => o = none ∧ H2 = H1) I1 ⟨rfl, rfl⟩) fun vl s2 ⟨l, H2, I2, pl, el, e2⟩ => ?_)
  subst el e2
  cases pl
  refine thn (po_none.run pins s2 σ H2 (fun o H3 => o = none ∧ H3 = H2) I2 ⟨rfl, rfl⟩) fun vu s3 ⟨u, H3, I3, pu, eu, e3⟩ => ?_
  subst eu e3
  cases pu
  refine thn (hst.run pins s3 σ H3 (fun o H4 => o = some (-1) ∧ H4 = H3) I3 ⟨1, rfl, -1, rfl, rfl, rfl⟩) fun vs s4 ⟨o, H4, I4, ps, eo, e4⟩ => ?_
  subst eo e4
  have I5 : Inv X pins σ H4 { s4 with heap := s4.heap.push { cls := .type "slice", data := .fields #[.none, .none, vs] } } := I4.kept (t' := s4.toks) fun b ob q => Heap.get?_push_of_some _ q
  obtain ⟨its, r, ht, hz⟩ := I5.tuple hx
  have hlen := r.length
  show wpAny (model X.prog X.w) X.A (subscriptTail e (.Slice none none (some (.UnaryOp .USub (.Constant (.int 1) k p1) p2)) p3) (.ref a) (.ref s4.heap.objs.size)) (EP X pins σ Q) X.xe { s4 with heap := s4.heap.push { cls := .type "slice", data := .fields #[.none, .none, vs] } }
  refine tail_any (ops := [.ref a, .ref s4.heap.objs.size]) ht.typeIs (PyProof.Rows.slot_tuple_getitem.lookup) ?_ (by with_unfolding_all rfl)
  refine getItem_tuple_back ht (Heap.IsSliceOf.new _ .none .none vs) ps ?_ (by rw [List.size_toArray]; omega)
  refine ⟨.ref _, _, I5.laid (t' := s4.toks) (o := .tup xs.reverse) (fun b ob q => Heap.get?_push_of_some _ q) (Nat.le_refl _) ?_, rfl, q _ (I5.hok.fresh (Nat.le_refl _))⟩
  exact ⟨by rw [List.length_reverse]; exact hz, _, r.reverse, IsTup.new _ _⟩
end
end Vw

set_option Elab.async false
set_option linter.all false
set_option maxRecDepth 100000
set_option maxHeartbeats 4000000
namespace Vw
open PySem PySem.Spec PyProof.Rows L2 RT
/-! ### more rules under one name -/
section
variable {X : Cx} {K : PySem.W.Frag}
theorem oAddT (e : X.K = K := by rfl) : OpR X (binaryOp .Add) (rOr rIAdd (rOr rCat (rCatA K))) := by cases e; exact oOr op_add (oOr op_cat op_catA)
theorem slA (e : X.K = K := by rfl) : SlR X (rSlA K) := by cases e; exact sl_tupA
def rLenD : List V → Hp → VK → Prop := fun xs H Q => ∃ a kvs, xs = [V.ref a] ∧ H a = some (.dK kvs) ∧ Q (.int kvs.length) H
theorem cLenD : CallR X (.builtin "len") rLenD := call_lenD
theorem piZip {e e2 : Expr} {ta : TA} {p pos tpos : Pos} {elts : List Expr} {kk : Nat} (hg : Gl X "zip") (hm : X.mg "zip" = none) (ha : PA X [e, e2] ta) (eK : X.K = K := by rfl)
    (hs : starEach [e, e2] X.env = (false, eval e X.env) :: starEach [e2] X.env := by rfl) (hb : ((backTo pos (starEach [e2] X.env)).any fun x => x.fst) = false := by rfl) :
    PI X (.Tuple elts kk tpos) (.Call (.Name "zip" p) [e, e2] [] pos) (iZip K ta) := by cases eK; exact pi_zip hg hm ha hs hb
/-- over a list or a tuple -/
def iOr (w1 w2 : TI) : TI := fun σ H R => w1 σ H R ∨ w2 σ H R
theorem piOr {tg l : Expr} {w1 w2 : TI} (h1 : PI X tg l w1) (h2 : PI X tg l w2) : PI X tg l (iOr w1 w2) := ⟨fun pins s σ H R I h => h.elim (h1.run pins s σ H R I) (h2.run pins s σ H R I)⟩
theorem piX {tg l : Expr} {tl : TE} (hl : PE X l tl) (e : X.K = K := by rfl) : PI X tg l (iOr (iList K tl) (iTup K tl)) := piOr (piL (K := K) hl e) (piT (K := K) hl e)
end
section
variable {K : PySem.W.Frag} {σ : L2.St} {H H1 : Hp} {Q : VK} {R : It → Hp → Prop} {i : Nat} {a : Addr} {xs : List V}
theorem i_orX {H0 : Hp} (hv : σ[i]? = some (some (.ref a))) (s : SqX K H0 a xs) (ss : Same H0 H) (h : ∀ J G, (∀ H', Same H0 H' → G H') → Walk J xs.length G (fun i H x H' => H' = H ∧ xs[i]? = some x) → R J H) : iOr (iList K (tVar i)) (iTup K (tVar i)) σ H R :=
  s.elim (fun s => .inl ⟨.ref a, hv, a, rfl, ⟨xs, sl_ ss s⟩, h _ _ (fun H' q => sl_ q s) walk_list⟩) fun s => .inr ⟨.ref a, hv, a, rfl, ⟨xs, st_ ss s⟩, h _ _ (fun H' q => st_ q s) walk_tup⟩
def ZpQ (K : PySem.W.Frag) (R : It → Hp → Prop) (vs : List V) (H1 : Hp) : Prop := ∃ a b xs ys, vs = [V.ref a, V.ref b] ∧ SqL K H1 a xs ∧ SqL K H1 b ys ∧ R (Itz K a b) H1
theorem i_zip0 {ta : TA} (h : ta σ H fun vs H1 => ZpQ K R vs H1) : iZip K ta σ H R := h
theorem i_zip {b : Addr} {ys : List V} (h1 : SqL K H a xs) (h2 : SqL K H b ys) (q : R (Itz K a b) H) : ZpQ K R [.ref a, .ref b] H := ⟨a, b, xs, ys, rfl, h1, h2, q⟩
theorem e_lenD {kvs : List (Key × V)} (h : H a = some (.dK kvs)) (q : Q (.int (kvs.length : Nat)) H) : rLenD [.ref a] H Q := ⟨a, kvs, rfl, h, q⟩
theorem o_catA {r r' : R2} {b : Addr} {ys : List V} (h1 : SqT K H a xs) (h2 : SqT K H b ys) (hl : xs.length + ys.length ≤ 100000) (q : ∀ p H2, Same H H2 → SqT K H2 p (xs ++ ys) → Q (.ref p) H2) : rOr r (rOr r' (rCatA K)) (.ref a) (.ref b) H Q := by
  refine .inr (.inr ⟨a, b, xs, ys, rfl, rfl, h1, h2, Nat.le_trans hl (by decide), fun e => ?_, fun _ e => ?_, fun _ _ p n => ?_⟩)
  · subst e; exact q b H (Same.refl _) h2
  · subst e; exact q a H (Same.refl _) (by rw [List.append_nil]; exact h1)
  · exact q p _ (Same.new n) (stO upd_same)
theorem r_slA {lo hi : Option Int} (h1 : SqT K H a xs) (q : ∀ p H2 ys, Same H H2 → SqT K H2 p ys → ys.length ≤ xs.length → (∀ y ∈ ys, y ∈ xs) → Q (.ref p) H2) : rSlA K (.ref a) lo hi H Q := by
  refine ⟨a, xs, rfl, h1, fun _ => q a H xs (Same.refl _) h1 (Nat.le_refl _) fun _ h => h, fun _ p n => q p _ _ (Same.new n) (stO upd_same) ?_ ?_⟩
  · exact cutV_length xs lo hi
  · have key : ∀ a b : Nat, ∀ y ∈ (xs.drop a).take b, y ∈ xs := fun a b y hy => List.mem_of_mem_drop (List.mem_of_mem_take hy)
    exact key _ _
theorem e_revT {te : TE} (h : te σ H fun x H1 => ∃ a xs, x = .ref a ∧ SqT K H1 a xs ∧ NewQ (.tup xs.reverse) H1 Q) : tRevT K te σ H Q := h
theorem r_revT {Q : VK} (s : SqT K H a xs) (q : NewQ (.tup xs.reverse) H Q) : ∃ a' xs, V.ref a = .ref a' ∧ SqT K H a' xs ∧ NewQ (.tup xs.reverse) H Q := ⟨a, xs, rfl, s, q⟩
theorem isB_bl {x y : Bool} (q : Q (.bl (decide (x = y))) H) : rIsB (.bl x) (.bl y) H Q := ⟨x, y, rfl, rfl, q⟩
theorem notB_bl {x y : Bool} (q : Q (.bl (!decide (x = y))) H) : rNotB (.bl x) (.bl y) H Q := ⟨x, y, rfl, rfl, q⟩
theorem o_neB {r' : R2} {x y : Bool} (q : Q (.bl (!decide (x = y))) H) : rOr rNe r' (.bl x) (.bl y) H Q := .inl ⟨rfl, by
  have e : (!decide (V.bl x = V.bl y)) = !decide (x = y) := by
    cases x <;> cases y <;> rfl
  rw [e]; exact q⟩
theorem isi_dk {kvs : List (Key × V)} {n : String} (b : Bool) (h : H a = some (.dK kvs)) (e : kitB "dict" n = some b) (q : Q (.bl b) H) : rIsi K [.ref a, .ty n] H Q := isi_ (.base (.dK h)) e q
theorem e_dnew (q : ∀ p H2, H p = none → Same H H2 → H2 p = some (.dK []) → Q (.ref p) H2) : tDNewK σ H Q := fun p n => q p _ n (Same.new n) upd_same
theorem e_disp1 {i j : Int} (q : ∀ p H2, H p = none → Same H H2 → H2 p = some (.dK [(Sum.inl i, .int j)]) → Q (.ref p) H2) : tDisp [(tC (.int i), tC (.int j))] σ H Q := fun p n =>
  ⟨upd_same, [(Sum.inl i, .int j)], rfl, by show 1 ≤ 15; decide, q p _ n (upd_free (Same.new n) n) upd_same⟩
theorem i_nrr {r : Bool} {A B : Prop} (q : B) : if (!decide (r = r)) = true then A else B := by
  rw [show (!decide (r = r)) = false by simp]
  exact iteF q
end
end Vw

set_option Elab.async false
set_option linter.all false
set_option maxRecDepth 100000
set_option maxHeartbeats 4000000
namespace Vw
open PySem PySem.Spec PyProof.Rows L2 RT
/-! ### own classes and their methods -/
structure ClsAt (K : PySem.W.Frag) (mg : Str → Option Value) (x : Str) (C : Addr) : Prop where
  cl : Cls K C
  mks : PySem.W.makesIn K C = true
  kc : PySem.W.keepIn K (.ref C) = true
  g : mg x = some (.ref C)
theorem clsAt_mk {K : PySem.W.Frag} {mg : Str → Option Value} {h : Heap} {x : Str} {C : Addr} (X : K.In h) (G : h.Ns mainGlobals mg) (a : PySem.W.nsIn K mainGlobals x = some (some (.ref C)))
    (pg : PySem.W.plainGet K C Str.empty = true) (hd : PySem.W.hasDictIn K C = true) (po : PySem.W.plainOver K C = true) (sa : PySem.W.findIn K (.ref C) "__setattr__" = some (some (.builtin "object.__setattr__")))
    (mk : PySem.W.makesIn K C = true) (kc : PySem.W.keepIn K (.ref C) = true) : ClsAt K mg x C := ⟨⟨pg, hd, po, sa⟩, mk, kc, PySem.W.mg_of X G a⟩
structure MethAt (K : PySem.W.Frag) (C : Addr) (m qual : Str) (st : Stmt) (ps : List Str) where
  f : Addr
  fd : FuncData
  F : Fun K m qual st f fd
  b : Binds K fd ps []
  i : Meth K C m f
def methAt_mk {K : PySem.W.Frag} {C : Addr} {m qual : Str} {st : Stmt} {ps : List Str} {f : Addr} {od an : Option Addr} {sl : Array (Option Value)} {oc kV dc pm cd ct : Value}
    (a : PySem.W.findIn K (.ref C) m = some (some (.ref f))) (i : PySem.W.isFn K (.ref f) = true) (l : K.lookup f = some ⟨oc, od, .func (PySem.W.fnOf m qual (defArgs st) (defBody st) (defScope st) .none kV dc pm an cd ct), sl⟩) (c : PySem.W.codeIn K cd qual = true) (k : PySem.W.keepIn K (.ref f) = true)
    (b : ∀ (kV doc pm : Value) (an : Option Addr) (cdv ct : Value) (us : List Value), us.length = ps.length → bindArgs (PySem.W.fnOf m qual (defArgs st) (defBody st) (defScope st) .none kV doc pm an cdv ct) ⟨us, []⟩ = pure (ps.zip us)) : MethAt K C m qual st ps :=
  ⟨f, _, fun_mk l c k, (fun_mk (st := st) l c k).binds b, ⟨a, i, k⟩⟩
theorem MethAt.made {K : PySem.W.Frag} {mg : Str → Option Value} {x qual : Str} {C : Addr} {st : Stmt} {ps : List Str} (A : ClsAt K mg x C) (M : MethAt K C "__init__" qual st ps) : Mk K C M.f := ⟨A.mks, M.i.at_, M.i.fn, A.kc⟩
/-- an own instance at p, its fields -/
def InsAt (C : Addr) (H : Hp) (p : Addr) (fs : List (Str × V)) : Prop := ∃ dx, H p = some (.ins C dx fs)
section
variable {K : PySem.W.Frag} {σ : L2.St} {H : Hp} {Q : VK} {ta : TE} {C p : Addr} {fs : List (Str × V)} {f : Str} {v : V}
def FldQ (K : PySem.W.Frag) (f : Str) (x : V) (H1 : Hp) (Q : VK) : Prop := ∃ p C dx fs v, x = .ref p ∧ H1 p = some (.ins C dx fs) ∧ Cls K C ∧ NoAttr K C f ∧ fs.lookup f = some v ∧ Q v H1
theorem e_fld (h : ta σ H fun x H1 => FldQ K f x H1 Q) : tFld K ta f σ H Q := h
theorem o_fld (h : InsAt C H p fs) (cl : Cls K C) (na : NoAttr K C f) (e : fs.lookup f = some v) (q : Q v H) : FldQ K f (.ref p) H Q := h.elim fun dx h => ⟨p, C, dx, fs, v, rfl, h, cl, na, e, q⟩
end
section
variable {K : PySem.W.Frag} {σ : L2.St} {H : Hp} {Q : VK} {ta tv : TE} {C p : Addr} {fs : List (Str × V)} {m f : Str} {v y : V} {D : Ends}
def MethQ (C : Addr) (m : Str) (sp : Sp) (dvs : List V) (E : XK) (t : TA) (σ : L2.St) (x : V) (H1 : Hp) (Q : VK) : Prop := ∃ a dx fs, x = .ref a ∧ H1 a = some (.ins C dx fs) ∧ fs.lookup m = none ∧ t σ H1 fun vs H2 => sp (x :: (vs ++ dvs)) H2 Q E
theorem e_meth {sp : Sp} {dvs : List V} {E : XK} {t : TA} (h : ta σ H fun x H1 => MethQ C m sp dvs E t σ x H1 Q) : tMeth C m sp dvs E ta t σ H Q := h
theorem m_call0 {sp : Sp} {dvs : List V} {E : XK} {t : TA} (h : InsAt C H p fs) (e : fs.lookup m = none) (q : t σ H fun vs H2 => sp (.ref p :: (vs ++ dvs)) H2 Q E) : MethQ C m sp dvs E t σ (.ref p) H Q := h.elim fun dx h => ⟨p, dx, fs, rfl, h, e, q⟩
def SetQ (K : PySem.W.Frag) (f : Str) (y x : V) (H2 : Hp) (R : Hp → Prop) : Prop := ∃ a C dx fs, x = .ref a ∧ H2 a = some (.ins C dx fs) ∧ Cls K C ∧ NoAttr K C f ∧ fs.length < 1000 ∧ R (upd H2 a (.ins C dx (putF f y fs)))
theorem s_setf (h : tv σ H fun y H1 => ta σ H1 fun x H2 => SetQ K f y x H2 fun H3 => D.nx σ H3) : sFld K ta tv f D σ H := h
theorem s_fld {dx : Addr} {R : Hp → Prop} {x : V} (ex : x = .ref p) (h : H p = some (.ins C dx fs)) (cl : Cls K C) (na : NoAttr K C f) (l : fs.length < 1000) (q : R (upd H p (.ins C dx (putF f y fs)))) : SetQ K f y x H R := ⟨p, C, dx, fs, ex, h, cl, na, l, q⟩
end
section
variable {K : PySem.W.Frag} {σ : L2.St} {H : Hp} {Q : VK} {td ty : TE} {d : Addr} {kvs : List (Key × V)} {k : Key} {v : V}
def DgQ (x y : V) (H2 : Hp) (Q : VK) : Prop := ∃ a v, x = .ref a ∧ DGet H2 a y (some v) ∧ Q v H2
theorem e_dget (h : td σ H fun x H1 => ty σ H1 fun y H2 => DgQ x y H2 Q) : tDGet td ty σ H Q := h
theorem o_dget (h : H d = some (.dK kvs)) (e : valV kvs k = some v) (q : Q v H) : DgQ (.ref d) (kV k) H Q := ⟨d, v, rfl, e ▸ DGet.k h, q⟩
end
section
variable {X : Cx} {K : PySem.W.Frag} {e o value : Expr} {f : Str} {pos pos' : Pos} {ta tv : TE}
theorem peFld (h : PE X e ta) (hb : attributeBase e f X.env (eval e X.env) = eval e X.env) (eK : X.K = K := by rfl) : PE X (.Attribute e f pos) (tFld K ta f) := by cases eK; exact pe_fld h hb
theorem psFld (ho : PE X o ta) (hv : PE X value tv) (hs : swapsWith value (some (.Attribute o f pos')) pos.line X.env = pure false) (eK : X.K = K := by rfl) : PS X (.Assign [.Attribute o f pos'] value pos) (sFld K ta tv f) := by cases eK; exact ps_fld ho hv hs
end
theorem oth_stI {K : PySem.W.Frag} {p a C dx : Addr} {H H' : Hp} {fs : List (Str × V)} {xs : List V} (o : Oth p H H') (n : H p = some (.ins C dx fs)) (s : SqT K H a xs) : SqT K H' a xs := by
  rcases s with (s | ⟨u, s⟩) | s
  · exact .inl (.inl (o _ _ (fun z => by rw [z, n] at s; cases s) s))
  · exact .inl (.inr ⟨u, o _ _ (fun z => by rw [z, n] at s; cases s) s⟩)
  · exact .inr s
section
variable {K : PySem.W.Frag} {σ : L2.St} {H : Hp} {Q : VK} {td ty tx : TE} {d : Addr} {kvs : List (Key × V)} {k : Key} {v z : V}
def SdQ (x : V) (H1 : Hp) (R : Addr → Prop) : Prop := ∃ a, x = .ref a ∧ IsD H1 a ∧ R a
def SeQ (a : Addr) (y z : V) (H3 : Hp) (Q : VK) : Prop := ∃ (kvs : List (Key × V)) (k : Key), H3 a = some (.dK kvs) ∧ y = kV k ∧ kvs.length < sizeLine ∧ (∀ v, valV kvs k = some v → Q v H3) ∧ (valV kvs k = none → Q z (upd H3 a (.dK (putK kvs k z))))
theorem e_dsetd (h : td σ H fun x H1 => SdQ x H1 fun a => ty σ H1 fun y H2 => tx σ H2 fun z H3 => SeQ a y z H3 Q) : tDSetd td ty tx σ H Q := h
theorem o_dsetd {R : Addr → Prop} (h : H d = some (.dK kvs)) (q : R d) : SdQ (.ref d) H R := ⟨d, rfl, .inl ⟨kvs, .inl h⟩, q⟩
theorem o_dset (h : H d = some (.dK kvs)) (l : kvs.length < 100000) (q1 : ∀ v, valV kvs k = some v → Q v H) (q2 : valV kvs k = none → Q z (upd H d (.dK (putK kvs k z)))) : SeQ d (kV k) z H Q := ⟨kvs, k, h, rfl, lt_size l, q1, q2⟩
end
/-! ### texts -/
def rTx (g : Str → Bool) : V → List V → Hp → VK → Prop := fun x xs H Q => ∃ a, x = .str a ∧ xs = [] ∧ True ∧ Q (.bl (g a)) H
section
variable {X : Cx} {K : PySem.W.Frag} {o : Expr} {to : TE} {apos cpos : Pos}
theorem peIsascii (ho : PE X o to) (hbase : attributeBase o "isascii" X.env (eval o X.env) = eval o X.env := by rfl) (hline : (apos.endLine == cpos.line) = true := by rfl) (eK : X.K = K := by rfl) : PE X (.Call (.Attribute o "isascii" apos) [] [] cpos) (tBM0 K "str" (rTx Txt.isascii) to) := by
  cases eK; exact pe_bm0 PySem.F.plainAttrs_str PySem.F.slot_str_isascii PySem.F.type_str_isascii mt_isascii ho hbase hline
theorem peIsalpha (ho : PE X o to) (hbase : attributeBase o "isalpha" X.env (eval o X.env) = eval o X.env := by rfl) (hline : (apos.endLine == cpos.line) = true := by rfl) (eK : X.K = K := by rfl) : PE X (.Call (.Attribute o "isalpha" apos) [] [] cpos) (tBM0 K "str" (rTx Txt.isalpha) to) := by
  cases eK; exact pe_bm0 PySem.F.plainAttrs_str PySem.F.slot_str_isalpha PySem.F.type_str_isalpha mt_isalpha ho hbase hline
theorem peIslower (ho : PE X o to) (hbase : attributeBase o "islower" X.env (eval o X.env) = eval o X.env := by rfl) (hline : (apos.endLine == cpos.line) = true := by rfl) (eK : X.K = K := by rfl) : PE X (.Call (.Attribute o "islower" apos) [] [] cpos) (tBM0 K "str" (rTx Txt.islower) to) := by
  cases eK; exact pe_bm0 PySem.F.plainAttrs_str PySem.F.slot_str_islower PySem.F.type_str_islower mt_islower ho hbase hline
end
section
variable {K : PySem.W.Frag} {σ : L2.St} {H : Hp} {Q : VK} {to : TE} {z y : Str} {r' : R2}
theorem e_bm0 {T : String} {r : V → List V → Hp → VK → Prop} (h : to σ H fun x H1 => tyV K T x H1 ∧ r x [] H1 Q) : tBM0 K T r to σ H Q := h
theorem r_tx {g : Str → Bool} (q : Q (.bl (g z)) H) : tyV K "str" (.str z) H ∧ rTx g (.str z) [] H Q := ⟨rfl, z, rfl, rfl, trivial, q⟩
theorem e_lenS (h : z.length ≤ 100000) (q : Q (.int (z.length : Nat)) H) : rLen' K [.str z] H Q := ⟨.str z, z.length, rfl, ⟨Nat.le_trans h (by decide), rfl⟩, q⟩
theorem o_eqStr (q : Q (.bl (decide (z = y))) H) : rOr rEq r' (.str z) (.str y) H Q := .inl ⟨rfl, by
  have e : decide (V.str z = V.str y) = decide (z = y) := by
    by_cases h : z = y
    · rw [decide_eq_true h, h]; exact decide_eq_true rfl
    · rw [decide_eq_false h]; exact decide_eq_false fun q => h (V.str.inj q)
  rw [e]; exact q⟩
theorem o_neStr (q : Q (.bl (decide (z ≠ y))) H) : rOr rNe r' (.str z) (.str y) H Q := .inl ⟨rfl, by
  have e : (!decide (V.str z = V.str y)) = decide (z ≠ y) := by
    by_cases h : z = y
    · rw [decide_eq_false (show ¬ z ≠ y from fun q => q h), h, decide_eq_true rfl]; rfl
    · rw [decide_eq_true (show z ≠ y from h), decide_eq_false fun q => h (V.str.inj q)]; rfl
  rw [e]; exact q⟩
end
theorem e_dnin {σ : L2.St} {H : Hp} {Q : VK} {ty td : TE} (h : ty σ H fun y H1 => td σ H1 fun x H2 => ∃ a o, x = .ref a ∧ DGet H2 a y o ∧ Q (.bl (!o.isSome)) H2) : tDNotIn ty td σ H Q := h
theorem while_m {c : TT} {t : TS} {D : Ends} {σ : L2.St} {H : Hp} (W : Nat → L2.St → Hp → Prop) (m0 : Nat) (h0 : W m0 σ H) (hs : ∀ m σ H, W m σ H → c σ H fun b H1 => if b = true then ∃ N : L2.St → Hp → Prop, (∀ σ' H', N σ' H' → ∃ m', m' < m ∧ W m' σ' H') ∧ t { D with nx := N, ct := N, bk := D.nx } σ H1 else D.nx σ H1) : tWhile c t D σ H := ⟨W, ⟨m0, h0⟩, hs⟩
end Vw

set_option Elab.async false
set_option linter.all false
set_option maxRecDepth 100000
set_option maxHeartbeats 4000000
namespace Vw
open PySem PySem.Spec PyProof.Rows L2 RT
/-! ### an own exception without fields, made by C(), its __init__ inherited and walked as a def -/
theorem mk_endN {X : Cx} {pins : List (Addr × Obj)} {σ : L2.St} {H1 : Hp} {Q : XK} {hp hp2 h2 : Heap} {g1 g2 : Array GenState} {d1 d2 : Drawn} {t1 t2 : Nat} {os1 os2 : OsState} {a C : Addr} (T : Raises X (.ref C)) (I1 : Inv X pins σ H1 ⟨hp, g1, d1, t1, os1⟩)
    (ha : hp.objs.size ≤ a) (k : ∀ b o, hp.get? b = some o → hp2.get? b = some o) (un : Un (frs X.stack) [] (upd H1 a (exo a C none)) (upd H1 a (exo a C none)) hp2 h2) (hok : HOk X.prog X.w (upd H1 a (exo a C none)) h2) (ho : os2 = os1) (hb : AllBare g2)
    (q : Q (.ref C) none H1) : MkP X pins σ Q (.ref a) ⟨h2, g2, d2, t2, os2⟩ := by
  obtain ⟨t0, hoe⟩ := exo_at hok (upd_same : upd H1 a (exo a C none) a = some (exo a C none))
  have hn : H1 a = none := I1.hok.fresh ha
  obtain ⟨G, g1', g2'⟩ := restrict h2 fun b => decide (b ≠ a)
  have gk : ∀ b, b ≠ a → G.get? b = h2.get? b := fun b hb => g1' b (decide_eq_true hb)
  have ge : G.get? a = none := g2' a (by simp)
  have nha : ∀ {b : Addr} {o : Obj}, hp.get? b = some o → b ≠ a := fun {b o} z => Nat.ne_of_lt (Nat.lt_of_lt_of_le (Heap.lt_size z) ha)
  have up : ∀ {b : Addr}, b ≠ a → H1 b = none → upd H1 a (exo a C none) b = none := fun {b} hb n => by rw [upd_ne hb]; exact n
  have U : Un (frs X.stack) [] H1 H1 hp G := {
    keep := fun b o z n hf hx => by
      rw [gk b (nha z)]
      exact un.keep b o (k b o z) (up (nha z) n) hf hx
    slot := fun b o z n hf hx => by
      rw [gk b (nha z)]
      exact un.slot b o (k b o z) (up (nha z) n) hf hx
    free := fun b o z n hx => n
    there := fun b o z hx => by
      rw [gk b (nha z)]
      exact un.there b o (k b o z) hx
    tups := fun b xs z => z
    frzs := fun b o v z => z
    tbls := fun b ps z => ⟨#[], by rw [Array.append_empty]; exact z⟩ }
  have ea : upd H1 a (exo a C none) a = some (exo a C none) := upd_same
  have hok3 : HOk X.prog X.w H1 G := fun b o z => by
    have hba : b ≠ a := fun e => by
      rw [e, hn] at z
      cases z
    have noa : ∀ {c : Addr}, upd H1 a (exo a C none) c = some (.own b) → c ≠ a := fun {c} hc => at_ne ea hc exo_own
    exact (hok b o (by rw [upd_ne hba]; exact z)).stay (fun c v hc y => by
        have hca : c ≠ a := by
          rcases hc with hc | hc
          · rw [hc]
            exact hba
          · exact noa hc
        rw [gk c hca]
        exact y)
      (fun c hc => by rw [upd_ne (noa hc)] at hc; exact hc) (fun c xs hc => by rw [upd_ne (at_ne ea hc exo_tup)] at hc; exact hc)
  have J : Inv X pins σ H1 ⟨G, g2, d2, t2, os2⟩ := I1.call' (ch := []) ho U hok3 hb (fun b z => absurd z (by simp))
  refine ⟨a, _, _, ⟨G, g2, d2, t2, os2⟩, _, .ref C, none, rfl, J, fun b o z => ?_, ge, hoe, ⟨rfl, rfl⟩, rfl, rfl, hn, rfl, hb, T, q⟩
  by_cases hba : b = a
  · rw [hba, ge] at z
    cases z
  · exact (gk b hba).symm.trans z
/-- C(), its __init__ keeping sp, which leaves the exception as it is -/
def tMkN (C : Addr) (sp : Sp) : L2.St → Hp → XK → Prop := fun σ H Q => ∀ a, H a = none → sp [.ref a] (upd H a (exo a C none))
  (fun v H2 => v = .non ∧ H2 = upd H a (exo a C none) ∧ Q (.ref C) none H) (fun _ _ _ => False)
section
variable {X : Cx}
theorem pmk_oexN {CX : CXT} {x : Str} {C fI : Addr} {k : Nat} {fd : FuncData} {ps : List Str} {sp : Sp} {p pos : Pos} (T : OexC X.K C) (iC : PySem.W.findIn X.K (.ref C) "__init__" = some (some (.ref fI))) (tI : PySem.W.typeIn X.K (.ref fI) = some (.type "function"))
    (F1 : FnOk X.prog X.w X.K X.mg X.base CX k fI fd ps sp) (hr : Room (k + 1) X.A) (hb : Binds X.K fd ps []) (hx : Passes CX X (fun _ _ _ => False)) (hg : Gl X x) (hm : X.mg x = some (.ref C))
    (hdb : (x == ("__debug__" : Str)) = false := by decide) :
    PMk X (.Call (.Name x p) [] [] pos) (tMkN C sp) := by
  intro pins s σ H Q I h
  obtain ⟨nm, q, N, bs, bm, sn, sub, ab, col, dd, k0, k1, k2, k3, k5, hC, hbm⟩ := T.cls
  refine wpAny_Call_Name_kw (ld_glob I hg hm ?_ hdb)
  refine PySem.W.callWith_K0 I.kIn T.kC ?_
  show wpAny _ _ (call (.ref C) []) _ _ _
  obtain ⟨hp, g, dr, tk, os⟩ := s
  have hsz : hp.objs.size ≤ hp.objs.size + 1 := Nat.le_succ _
  have hn : H (hp.objs.size + 1) = none := I.hok.fresh hsz
  have hq := h (hp.objs.size + 1) hn
  have kk : ∀ b o, hp.get? b = some o → ((hp.push (PySem.W.kdv_tup [])).push (PySem.HandSPX.excO C hp.objs.size)).get? b = some o := fun b o e => Heap.get?_push_of_some _ (Heap.get?_push_of_some _ e)
  have hget : ((hp.push (PySem.W.kdv_tup [])).push (PySem.HandSPX.excO C hp.objs.size)).get? (hp.objs.size + 1) = some (PySem.HandSPX.excO C hp.objs.size) := by heap_get
  have I2 : Inv X pins σ (upd H (hp.objs.size + 1) (exo (hp.objs.size + 1) C none)) ⟨(hp.push (PySem.W.kdv_tup [])).push (PySem.HandSPX.excO C hp.objs.size), g, dr, tk, os⟩ :=
    I.laid (t' := tk) (a := hp.objs.size + 1) (o := exo (hp.objs.size + 1) C none) (h' := (hp.push (PySem.W.kdv_tup [])).push (PySem.HandSPX.excO C hp.objs.size)) kk hsz (exo_ok hget)
  have r2 : Vals [V.ref (hp.objs.size + 1)] [Value.ref (hp.objs.size + 1)] := .cons rfl .nil
  have hl : ([Value.ref (hp.objs.size + 1)] : List Value).length = ps.length := by
    have e := r2.length
    rw [F1.len _ _ _ _ hq] at e
    exact e.symm
  have bd := hb _ [Value.ref (hp.objs.size + 1)] I2.kIn (by rw [List.append_nil]; exact hl)
  rw [List.append_nil] at bd
  refine wpAny_call (PySem.HandSPX.call_own F.excBase_ValueError (fun Y => PySem.HandSPX.refsVE_contains Y bm hbm) (I.kIn _ _ hC) (PySem.W.looks_findIn I.kIn iC) (fun self => PySem.W.bind_fn I.kIn self tI) (Nat.zero_le _)
    (codeAny_mono (F1.run _ X.stack _ _ ⟨[Value.ref (hp.objs.size + 1)], []⟩ [Value.ref (hp.objs.size + 1)] _ _ (fun _ _ _ => False) (hr.make C [] []) (I2.env0.make C [] []) bd r2 hq) fun r s' hq' => ?_))
  cases r with
  | error er => exact hx pins σ _ _ er s' I2 hq'
  | ok fl =>
    cases fl with
    | ret u =>
      obtain ⟨v, H2, os2, bare2, un2, hok2, rv, ev, eH, q2⟩ := hq'
      subst ev
      subst eH
      obtain ⟨h2, g2, d2, t2, os'⟩ := s'
      exact ⟨rv, mk_endN (raises_own T.exC T.tyC) I hsz kk un2 hok2 os2 bare2 q2⟩
    | next => exact False.elim hq'
    | brk => exact False.elim hq'
    | cont => exact False.elim hq'
end
/-! ### methods of own instances called where a try is around -/
section
variable {X : Cx} {CX : CXT} {k : Nat} {C f : Addr} {fd : FuncData} {ps : List Str} {sp : Sp} {E : L2.St → XK} {m : Str} {p apos pos : Pos} {e o : Expr} {es : List Expr} {ta : TE} {t : TA}
def tMethE (C : Addr) (m : Str) (sp : Sp) (E : L2.St → XK) (to : TE) (t : TA) : TE := fun σ H Q => to σ H fun x H1 => ∃ a dx fs, x = .ref a ∧ H1 a = some (.ins C dx fs) ∧ fs.lookup m = none ∧ t σ H1 fun vs H2 => sp (x :: vs) H2 Q (E σ)
theorem pe_methE {pl : Sem Bool} (he : PE X o ta) (c : Cls X.K C) (hm : Meth X.K C m f) (F : FnOk X.prog X.w X.K X.mg X.base CX k f fd ps sp) (hr : Room k X.A) (hb : Binds X.K fd ps []) (hx : ∀ σ, PassesAt CX X σ (E σ)) (ha : PA X (e :: es) t)
    (hst : starEach (e :: es) X.env = (false, eval e X.env) :: starEach es X.env := by rfl) (hpl : (backTo pos (starEach es X.env)).any (·.1) = false := by rfl)
    (ht : eval (.Call (.Attribute o m apos) (e :: es) [] pos) X.env = (do
      let ov ← eval o X.env
      standAt apos.atName
      let (f, first) ← holding [ov] (getMethod ov m pl)
      callWith pos f first (backTo pos (starEach (e :: es) X.env)) (backToKw pos (keywordEach [] X.env))) := by rfl) :
    PE X (.Call (.Attribute o m apos) (e :: es) [] pos) (tMethE C m sp E ta t) := by
  refine ⟨fun pins s σ H Q I h => ?_⟩
  refine PySem.W.methodCall_KW (pl := pl) (thn (he.run pins s σ H _ I h) fun u s1 ⟨x, H1, I1, rx, a, dx, fs, ex, ea, l, q⟩ => ?_) ht
  subst ex
  obtain rfl : u = Value.ref a := rx
  refine getmeth_ok I1 ea c hm l ?_
  refine PySem.W.callWith_K (first := [.ref a]) (h₀ := X.base) I.ok.mod.kin hm.kp (thn (ha.run pos pins s1 σ H1 _ I1 q) fun us s2 ⟨vs, H2, I2, r, q2⟩ => ⟨I2.kIn, ?_⟩) hst hpl
  exact run_fnS (us := .ref a :: us) (vs := .ref a :: vs) F hr hb (hx σ) I2 (.cons rfl r) q2
theorem pe_methE0 {pl : Sem Bool} (he : PE X o ta) (c : Cls X.K C) (hm : Meth X.K C m f) (F : FnOk X.prog X.w X.K X.mg X.base CX k f fd ps sp) (hr : Room k X.A) (hb : Binds X.K fd ps []) (hx : ∀ σ, PassesAt CX X σ (E σ))
    (ht : eval (.Call (.Attribute o m apos) [] [] pos) X.env = (do
      let ov ← eval o X.env
      standAt apos.atName
      let (f, first) ← holding [ov] (getMethod ov m pl)
      callWith pos f first (backTo pos (starEach [] X.env)) (backToKw pos (keywordEach [] X.env))) := by rfl) :
    PE X (.Call (.Attribute o m apos) [] [] pos) (tMethE C m sp E ta tNil) := by
  refine ⟨fun pins s σ H Q I h => ?_⟩
  refine PySem.W.methodCall_KW (pl := pl) (thn (he.run pins s σ H _ I h) fun u s1 ⟨x, H1, I1, rx, a, dx, fs, ex, ea, l, q⟩ => ?_) ht
  subst ex
  obtain rfl : u = Value.ref a := rx
  refine getmeth_ok I1 ea c hm l ?_
  exact PySem.W.callWith_K0 (first := [.ref a]) I1.kIn hm.kp (run_fnS (us := [.ref a]) (vs := [.ref a]) F hr hb (hx σ) I1 (.cons rfl .nil) q)
end

/-! ### the facts of an own error class of the text -/
structure InitAt (K : PySem.W.Frag) (m qual : Str) (st : Stmt) (ps : List Str) where
  f : Addr
  fd : FuncData
  F : Fun K m qual st f fd
  b : Binds K fd ps []
structure ExcAt (K : PySem.W.Frag) (mg : Str → Option Value) (x : Str) (fI : Addr) where
  C : Addr
  g : mg x = some (.ref C)
  o : OexC K C
  i : PySem.W.findIn K (.ref C) "__init__" = some (some (.ref fI))
  t : PySem.W.typeIn K (.ref fI) = some (.type "function")
  te : PySem.W.exmOne K (.ref C) (.ref C) = some true
def initAt_mk {K : PySem.W.Frag} {m qual : Str} {st : Stmt} {ps : List Str} {f : Addr} {od an : Option Addr} {sl : Array (Option Value)} {oc kV dc pm cd ct : Value}
    (l : K.lookup f = some ⟨oc, od, .func (PySem.W.fnOf m qual (defArgs st) (defBody st) (defScope st) .none kV dc pm an cd ct), sl⟩) (c : PySem.W.codeIn K cd qual = true) (k : PySem.W.keepIn K (.ref f) = true)
    (b : ∀ (kV doc pm : Value) (an : Option Addr) (cdv ct : Value) (us : List Value), us.length = ps.length → bindArgs (PySem.W.fnOf m qual (defArgs st) (defBody st) (defScope st) .none kV doc pm an cdv ct) ⟨us, []⟩ = pure (ps.zip us)) : InitAt K m qual st ps :=
  ⟨f, _, fun_mk l c k, (fun_mk (st := st) l c k).binds b⟩
theorem exm_self {K : PySem.W.Frag} {S : Addr} (b : PySem.W.subIn K (.ref S) (.type "BaseException") = some true) (i : PySem.W.isClsIn K S = true) (t : PySem.W.typeIn K (.ref S) = some (.type "type")) (s : PySem.W.subIn K (.ref S) (.ref S) = some true) : PySem.W.exmOne K (.ref S) (.ref S) = some true := by
  unfold PySem.W.isClsIn at i
  unfold PySem.W.exmOne PySem.W.kitCls
  simp [b, i, t, s]
def excAt_mk {K : PySem.W.Frag} {mg : Str → Option Value} {h : Heap} {x : Str} {C fI f1 : Addr} {nm q : Str} {N : Addr} {bs bm : List Value} {sn : List Str} {sub : List Value} {ab : Bool} {col : Option Bool} {dd : Option Addr} {k0 k1 k2 k3 k5 : Option Value} (X : K.In h) (G : h.Ns mainGlobals mg) (a : PySem.W.nsIn K mainGlobals x = some (some (.ref C)))
    (l : K.lookup C = some (excClassObj nm q C N bs bm true sn sub ab col dd k0 k1 k2 k3 k5 "ValueError.__new__")) (hb : PySem.HandSPX.refsVE bm = true)
    (sa : PySem.W.findIn K (.ref C) "__setattr__" = some (some (.builtin "object.__setattr__"))) (exC : PySem.W.subIn K (.ref C) (.type "BaseException") = some true) (tyC : PySem.W.typeIn K (.ref C) = some (.type "type")) (kC : PySem.W.keepIn K (.ref C) = true)
    (i : PySem.W.findIn K (.ref C) "__init__" = some (some (.ref f1))) (t : PySem.W.typeIn K (.ref f1) = some (.type "function")) (hf : f1 = fI) (ic : PySem.W.isClsIn K C = true) (sc : PySem.W.subIn K (.ref C) (.ref C) = some true) : ExcAt K mg x fI :=
  ⟨C, PySem.W.mg_of X G a, ⟨⟨nm, q, N, bs, bm, sn, sub, ab, col, dd, k0, k1, k2, k3, k5, l, hb⟩, sa, exC, tyC, kC⟩, hf ▸ i, hf ▸ t, exm_self exC ic tyC sc⟩
def sp_exc_init (K : PySem.W.Frag) : Sp := fun vs H Q _ => ∃ a C, vs = [.ref a] ∧ OexC K C ∧ H a = some (exo a C none) ∧ Q .non H
theorem e_raise {C : Addr} {K : PySem.W.Frag} {σ : L2.St} {H : Hp} {Q : XK} (o : OexC K C) (q : Q (.ref C) none H) : tMkN C (sp_exc_init K) σ H Q := fun a na => ⟨a, C, rfl, o, upd_same, rfl, rfl, q⟩
theorem noAttr_mk {K : PySem.W.Frag} {C : Addr} {f : Str} (h : PySem.W.findIn K (.ref C) f = some none) : NoAttr K C f := h
end Vw

set_option Elab.async false
set_option linter.all false
set_option maxRecDepth 100000
set_option maxHeartbeats 4000000
namespace Vw
open PySem PySem.Spec PyProof.Rows L2 RT
section
variable {K : PySem.W.Frag} {σ : L2.St} {H : Hp} {Q : VK} {D : Ends} {td ty tx tv : TE} {d : Addr} {kvs : List (Key × V)} {k : Key} {v z : V} {R : Hp → Prop}
def DpQ (x y v : V) (H3 : Hp) (R : Hp → Prop) : Prop := ∃ a H4, x = .ref a ∧ DPut H3 a y v H4 ∧ R H4
theorem s_dput (h : tv σ H fun v H1 => td σ H1 fun x H2 => ty σ H2 fun y H3 => DpQ x y v H3 fun H4 => D.nx σ H4) : sDPut td ty tv D σ H := h
theorem o_dput (h : H d = some (.dK kvs)) (l : kvs.length < 100000) (q : R (upd H d (.dK (putK kvs k v)))) : DpQ (.ref d) (kV k) v H R := ⟨d, _, rfl, DPut.k h (lt_size l), q⟩
def Dg2Q (a : Addr) (y z : V) (H3 : Hp) (Q : VK) : Prop := ∃ o, DGet H3 a y o ∧ Q (o.getD z) H3
theorem e_dget2 (h : td σ H fun x H1 => SdQ x H1 fun a => ty σ H1 fun y H2 => tx σ H2 fun z H3 => Dg2Q a y z H3 Q) : tDGet2 td ty tx σ H Q := h
theorem o_dget2 (h : H d = some (.dK kvs)) (q : Q ((valV kvs k).getD z) H) : Dg2Q d (kV k) z H Q := ⟨_, DGet.k h, q⟩
def Dp1Q (a : Addr) (y : V) (H2 : Hp) (Q : VK) : Prop := ∃ kvs k v, H2 a = some (.dK kvs) ∧ y = kV k ∧ valV kvs k = some v ∧ Q v (upd H2 a (.dK (dropK kvs k)))
theorem e_dpop1 (h : td σ H fun x H1 => SdQ x H1 fun a => ty σ H1 fun y H2 => Dp1Q a y H2 Q) : tDPop1 td ty σ H Q := h
theorem o_dpop1 (h : H d = some (.dK kvs)) (e : valV kvs k = some v) (q : Q v (upd H d (.dK (dropK kvs k)))) : Dp1Q d (kV k) H Q := ⟨kvs, k, v, h, rfl, e, q⟩
theorem o_rep {r : R2} {l : Addr} {n : Nat} {xs : List V} (h : H l = some (.lst xs)) (hn : n ≤ 100000) (hl : xs.length * n ≤ 100000) (q : NewQ (.lst (List.replicate n xs).flatten) H Q) : rOr r rRep (.ref l) (.int n) H Q :=
  .inr ⟨l, n, xs, rfl, rfl, h, by omega, by omega, le_trans_size hl, q⟩
where le_trans_size {m : Nat} (h : m ≤ 100000) : m ≤ sizeLine := Nat.le_trans h (by decide)
theorem p_cons {tk tw : TE} {r : List (TE × TE)} {QP : List (V × V) → Hp → Prop} (h : tk σ H fun x H1 => tw σ H1 fun y H2 => tPairs r σ H2 fun ps H3 => QP ((x, y) :: ps) H3) : tPairs ((tk, tw) :: r) σ H QP := h
theorem p_nil {QP : List (V × V) → Hp → Prop} (h : QP [] H) : tPairs [] σ H QP := h
end
section
variable {K : PySem.W.Frag} {σ : L2.St} {H : Hp} {Q : VK} {to : TE} {C p : Addr} {fs : List (Str × V)} {m : Str} {D : Ends}
def MethEQ (C : Addr) (m : Str) (sp : Sp) (E : L2.St → XK) (t : TA) (σ : L2.St) (x : V) (H1 : Hp) (Q : VK) : Prop := ∃ a dx fs, x = .ref a ∧ H1 a = some (.ins C dx fs) ∧ fs.lookup m = none ∧ t σ H1 fun vs H2 => sp (x :: vs) H2 Q (E σ)
theorem e_methE {sp : Sp} {E : L2.St → XK} {t : TA} (h : to σ H fun x H1 => MethEQ C m sp E t σ x H1 Q) : tMethE C m sp E to t σ H Q := h
theorem m_callE {sp : Sp} {E : L2.St → XK} {t : TA} (h : InsAt C H p fs) (e : fs.lookup m = none) (q : t σ H fun vs H2 => sp (.ref p :: vs) H2 Q (E σ)) : MethEQ C m sp E t σ (.ref p) H Q := h.elim fun dx h => ⟨p, dx, fs, rfl, h, e, q⟩
theorem s_try {tb : WX → TS} {c : Value} {ts : Addr → Value → Option Addr → TS} {Wout : WX} (h : tb (wOnly K c ts Wout D) D σ H) : (fun (D : Ends) (σ : L2.St) (H : Hp) => tb (wOnly K c ts Wout D) D σ H) D σ H := h
theorem w_only {c cls : Value} {d : Option Addr} {ts : Addr → Value → Option Addr → TS} {Wout : WX} (e : PySem.W.exmOne K cls c = some true) (h : ∀ a, H a = none → ts a cls d D σ H) : wOnly K c ts Wout D cls d σ H := ⟨true, e, fun _ => h, fun z => nomatch z⟩
end
end Vw

set_option Elab.async false
set_option linter.all false
set_option maxRecDepth 100000
set_option maxHeartbeats 4000000
namespace Vw
open PySem PySem.Spec PyProof.Rows L2 RT
/-! ### list.extend of a tuple, whatever its dict and slots are -/
theorem list_extend_tup (l : Addr) (items : Array Value) (n : Nat) (b : Addr) (dd : Option Addr) (sl : Array (Option Value)) (items2 : Array Value) (n2 : Nat) (hs0 : ¬(!items.isEmpty && Builtin.List.listTooLong (items.size + items2.size)) = true) (hs1 : items.size ≤ sizeLine) (hs2 : items.size + items2.size ≤ sizeLine + 1) :
    Meets (Builtin.«list.extend» ⟨[.ref l, .ref b], []⟩) (fun _ R s => s.heap.get? l = some { cls := .type "list", dict := none, data := .seq items n, slots := #[] } ∧ s.heap.get? b = some { cls := .type "tuple", dict := dd, data := .seq items2 n2, slots := sl } ∧ R (.ok (.ret Value.none)) { s with heap := s.heap.update l (Obj.mapSeq fun x => x ++ items2), toks := s.toks }) :=
  .of_wp fun prog w A R s h => by
    obtain ⟨hp, g, d, tk, os⟩ := s; obtain ⟨hl, hb, h⟩ := h; have f1 := PySem.AutoSeq1.idx_int; have f2 := PySem.AutoSeq1.sub_tuple_tuple; have f3 := PySem.AutoSeq1.sub_list_list; have f4 := PySem.AutoSeq1.sub_tuple_list; have f5 := PySem.AutoSeq1.sub_list_tuple;
    have hz' : (items ++ items2).size ≤ sizeLine + 1 := by rw [Array.size_append]; exact hs2
    wp_walk using (wpAny_updateSeq hl rfl (hz := hs1) (_hz' := hz')), PySem.AutoSeq1.wpAny_loadPart' hl, PySem.AutoSeq1.wpAny_loadPart' hb; exact ⟨_, rfl, h⟩
def rExtT (K : PySem.W.Frag) : V → List V → Hp → VK → Prop := fun x vs H Q => ∃ l b xs zs, x = .ref l ∧ vs = [.ref b] ∧ H l = some (.lst xs) ∧ SqT K H b zs ∧ xs.length + zs.length ≤ sizeLine ∧ Q .non (upd H l (.lst (xs ++ zs)))
section
variable {X : Cx}
theorem mt_extT : MtM X "list.extend" (rExtT X.K) := by
  intro pins s σ H x vs v us Q I rx rv h
  obtain ⟨l, b, xs, zs, rfl, rfl, hH, hB, hz, q⟩ := h
  cases rx
  obtain ⟨u, rfl, ru⟩ := rv.one
  cases ru
  obtain ⟨z, its, n, r, hl, e⟩ := I.lstM hH
  obtain ⟨its2, r2, ⟨⟨cl, dd, da, sl⟩, e2, ec, n2, ed⟩, hl2⟩ := I.tuple hB
  cases ec
  cases ed
  have hl3 := r2.length
  have hsz : its.toArray.size + its2.toArray.size ≤ sizeLine := by rw [List.size_toArray, List.size_toArray]; omega
  have hlong : ¬ (!its.toArray.isEmpty && Builtin.List.listTooLong (its.toArray.size + its2.toArray.size)) = true := by
    rw [show Builtin.List.listTooLong (its.toArray.size + its2.toArray.size) = false from decide_eq_false (by omega), Bool.and_false]
    exact Bool.false_ne_true
  refine call_meets F.slot_list_extend ⟨_, e, rfl⟩ F.entry_list_extend (F.args_list_extend_2 _ _)
    (list_extend_tup l its.toArray n b dd sl its2.toArray n2 hlong (by rw [List.size_toArray]; omega) (by omega)) ⟨e, e2, ?_⟩
  refine ⟨.non, _, I.lset (its' := its ++ its2) hH e (by simp) (r.append r2) ?_, rfl, q⟩
  rw [List.length_append]
  omega
theorem mtExtT {K : PySem.W.Frag} (e : X.K = K := by rfl) : MtM X "list.extend" (rExtT K) := by cases e; exact mt_extT
/-! ### a test of a if t else b -/
def tIfT (t u v : TT) : TT := fun σ H Q => t σ H fun c H1 => if c = true then u σ H1 Q else v σ H1 Q
theorem pt_ifExp {c a b : Expr} {pos : Pos} {t u v : TT} (hc : PT X c t) (ha : PT X a u) (hb : PT X b v) : PT X (.IfExp c a b pos) (tIfT t u v) := by
  refine ⟨fun pins s σ H Q I h => ?_⟩
  refine isTrue_IfExp (thn (hc.run pins s σ H _ I h) fun d s1 ⟨H1, I1, q1⟩ => ?_)
  cases d with
  | true => exact ha.run pins s1 σ H1 Q I1 q1
  | false => exact hb.run pins s1 σ H1 Q I1 q1
/-! ### isinstance of an own class -/
theorem cIsC {K : PySem.W.Frag} {C : Addr} (c : C8.InsC K C) (e : X.K = K := by rfl) : CallR X (.builtin "isinstance") (fun xs H Q => ∃ a dx fs, xs = [.ref a, .ref C] ∧ H a = some (.ins C dx fs) ∧ Q (.bl true) H) := by
  cases e
  exact C8.call_isC c
end
section
variable {K : PySem.W.Frag} {σ : L2.St} {H : Hp} {Q : VK} {l b : Addr} {xs zs : List V} {C p : Addr} {fs : List (Str × V)} {t u v : TT} {QB : Bool → Hp → Prop} {R : It → Hp → Prop}
theorem r_extT (h : H l = some (.lst xs)) (hb : SqT K H b zs) (hl : xs.length + zs.length < 100000) (q : ∀ H2, Oth l H H2 → H2 l = some (.lst (xs ++ zs)) → Q .non H2) : rExtT K (.ref l) [.ref b] H Q :=
  ⟨l, b, xs, zs, rfl, rfl, h, hb, Nat.le_of_lt (lt_size hl), q _ (fun c o z e => by rw [upd_ne z]; exact e) upd_same⟩
theorem e_ifT (h : t σ H fun c H1 => if c = true then u σ H1 QB else v σ H1 QB) : tIfT t u v σ H QB := h
theorem o_isC (h : InsAt C H p fs) (q : Q (.bl true) H) : ∃ a dx fs, [V.ref p, V.ref C] = [.ref a, .ref C] ∧ H a = some (.ins C dx fs) ∧ Q (.bl true) H := h.elim fun dx h => ⟨p, dx, fs, rfl, h, q⟩
def Rg3Q (R : It → Hp → Prop) (vs : List V) (H1 : Hp) : Prop := ∃ (i j c : Int) (n : Nat), vs = [.int i, .int j, .int c] ∧ RgC i j c n ∧ R (Itc i c n) H1
theorem i_rng3 {ta : TA} (h : ta σ H fun vs H1 => Rg3Q R vs H1) : iRng3 ta σ H R := h
theorem i_rg3 {i j c : Int} {n : Nat} (r : RgC i j c n) (h : R (Itc i c n) H) : Rg3Q R [.int i, .int j, .int c] H := ⟨i, j, c, n, rfl, r, h⟩
end
end Vw

set_option Elab.async false
set_option linter.all false
set_option maxRecDepth 100000
set_option maxHeartbeats 4000000
namespace Vw
open PySem PySem.Spec PyProof.Rows L2 RT
/-! ### slices of tuples, the whole one too -/
theorem slT {X : Cx} {K : PySem.W.Frag} (e : X.K = K := by rfl) : SlR X (rSlA K) := by cases e; exact sl_tupA
theorem cut_nat {xs : List V} {i j : Nat} : cutV xs (some (i : Int)) (some (j : Int)) = (xs.drop i).take (j - i) := by
  unfold cutV
  rw [HT.sIx_nat, HT.sIx_nat]
  by_cases hi : i ≤ xs.length
  · rw [Nat.min_eq_left hi]
    by_cases hj : j ≤ xs.length
    · rw [Nat.min_eq_left hj]
    · rw [Nat.min_eq_right (by omega), List.take_of_length_le (by rw [List.length_drop]; omega), List.take_of_length_le (by rw [List.length_drop]; omega)]
  · rw [List.drop_of_length_le (show xs.length ≤ min i xs.length by omega), List.drop_of_length_le (show xs.length ≤ i by omega), List.take_nil, List.take_nil]
theorem cut_from {xs : List V} {i : Nat} : cutV xs (some (i : Int)) none = xs.drop i := by
  unfold cutV
  rw [HT.sIx_nat, HT.sIx_none, List.take_of_length_le (by rw [List.length_drop]; omega)]
  by_cases hi : i ≤ xs.length
  · rw [Nat.min_eq_left hi]
  · rw [Nat.min_eq_right (by omega), List.drop_of_length_le (by omega), List.drop_of_length_le (by omega)]
theorem cut_to {xs : List V} {j : Nat} : cutV xs none (some (j : Int)) = xs.take j := by
  unfold cutV
  rw [HT.sIx_nat, HT.sIx_none, List.drop_zero, Nat.sub_zero]
  by_cases hj : j ≤ xs.length
  · rw [Nat.min_eq_left hj]
  · rw [Nat.min_eq_right (by omega), List.take_of_length_le (by omega), List.take_of_length_le (by omega)]
section
variable {K : PySem.W.Frag} {H : Hp} {Q : VK} {a : Addr} {xs : List V} {lo hi : Option Int}
theorem r_slT (s : SqT K H a xs) (q : ∀ c H2, Same H H2 → SqT K H2 c (cutV xs lo hi) → Q (.ref c) H2) : rSlA K (.ref a) lo hi H Q := by
  refine ⟨a, xs, rfl, s, fun w => ?_, fun w p n => q p _ (Same.new n) (stO upd_same)⟩
  refine q a H (Same.refl _) ?_
  have e : cutV xs lo hi = xs := by
    unfold cutV
    rw [w.1, w.2, List.drop_zero, Nat.sub_zero, List.take_length]
  rw [e]; exact s
end
/-! ### range(0, n, 36) -/
theorem rsize36 {n : Nat} : Builtin.Range.rangeSize 0 (n : Int) 36 = (((n + 35) / 36 : Nat) : Int) := by
  unfold Builtin.Range.rangeSize
  simp only [show (36 : Int) > 0 by decide, if_true]
  split <;> omega
theorem fitL {i : Int} (h0 : 0 ≤ i) (h1 : i ≤ 1000000) : Builtin.Range.rangeFitsLong i = true := by
  unfold Builtin.Range.rangeFitsLong
  rw [Bool.and_eq_true, decide_eq_true_eq, decide_eq_true_eq]
  constructor <;> omega
theorem rgc36 {n : Nat} (h : n ≤ 100000) : RgC 0 (n : Int) 36 ((n + 35) / 36) := by
  refine ⟨by decide, by decide, ?_, rsize36⟩
  unfold Builtin.Range.small
  rw [rsize36]
  rw [fitL (by omega) (by omega), fitL (i := (n : Int)) (by omega) (by omega), fitL (i := 36) (by omega) (by omega), fitL (i := (((n + 35) / 36 : Nat) : Int)) (by omega) (by omega), if_pos (by decide), fitL (by omega) (by omega), Bool.or_true]
  rfl
def rIsC (C : Addr) : List V → Hp → VK → Prop := fun xs H Q => ∃ a dx fs, xs = [.ref a, .ref C] ∧ H a = some (.ins C dx fs) ∧ Q (.bl true) H
theorem cIsD {X : Cx} {K : PySem.W.Frag} {C : Addr} (c : C8.InsC K C) (e : X.K = K := by rfl) : CallR X (.builtin "isinstance") (rIsC C) := cIsC c e
theorem o_isD {C p : Addr} {H : Hp} {Q : VK} {fs : List (Str × V)} (h : InsAt C H p fs) (q : Q (.bl true) H) : rIsC C [.ref p, .ref C] H Q := h.elim fun dx h => ⟨p, dx, fs, rfl, h, q⟩
theorem peExt {X : Cx} {K : PySem.W.Frag} {o ex : Expr} {to te : TE} {apos cpos : Pos} {r : V → List V → Hp → VK → Prop} (h : PE X (.Call (.Attribute o "extend" apos) [ex] [] cpos) (tBM X.K "list" r to (tCons te tNil))) (e : X.K = K := by rfl) :
    PE X (.Call (.Attribute o "extend" apos) [ex] [] cpos) (tBM K "list" r to (tCons te tNil)) := by cases e; exact h
end Vw

set_option Elab.async false
set_option linter.all false
set_option maxRecDepth 100000
set_option maxHeartbeats 4000000
namespace Vw
open PySem PySem.Spec PyProof.Rows L2 RT
/-! ### a lambda called under two handlers: told is w0, wa or wb -/
def TTwo (K : PySem.W.Frag) (CA CB : Addr) (w0 wa wb : Str) : (XK → Hp → VK → Prop) → Hp → VK → Prop := fun tl H Q =>
  tl (fun cls _ H' => ∃ b, PySem.W.exmOne K cls (.ref CA) = some b ∧ (b = true → Q (.str wa) H') ∧ (b = false → ∃ b2, PySem.W.exmOne K cls (.ref CB) = some b2 ∧ (b2 = true → Q (.str wb) H') ∧ (b2 = false → False))) H fun _ H' => Q (.str w0) H'
theorem takes_len {X : Cx} {W : WX} (t : Takes X W) : Takes X (fun c d σ H => σ.length = X.N.length → W c d σ H) := fun u s' ⟨a, B, sI, pins, σ, H, cls, d, e, I, nb, up, sky, na, os, ag, w⟩ =>
  t u s' ⟨a, B, sI, pins, σ, H, cls, d, e, I, nb, up, sky, na, os, ag, w I.len⟩
theorem two_gives {X : Cx} {x a t A B q w0 wa wb : Str} {sg : Scope} {g CA CB : Addr} {cdg : Value} {j0 j1 j2 : Nat} {p1 p2 p3 p4 p5 p6 p7 p8 p9 p10 p11 p12 p13 p14 p15 p16 p17 p18 p19 : Pos}
    (hga : sg.names.lookup A = some .globalImplicit) (hma : X.mg A = some (.ref CA)) (hda : (A == ("__debug__" : Str)) = false) (hgb : sg.names.lookup B = some .globalImplicit) (hmb : X.mg B = some (.ref CB)) (hdb : (B == ("__debug__" : Str)) = false)
    (ht : sg.names.lookup t = some .local) (hn : ([a, t] : List Str).Nodup) (hd : (t == ("__debug__" : Str)) = false) (hcd : (t == ("__classdict__" : Str)) = false) :
    LamX.GivesTo X [a, t] x sg g cdg [.Assign [.Name t p1] (.Constant (.str w0) j0 p2) p3, .Try [.Expr (.Call (.Name a p4) [] [] p5) p6] [.ExceptHandler (some (.Name A p7)) none [.Assign [.Name t p8] (.Constant (.str wa) j1 p9) p10] p11, .ExceptHandler (some (.Name B p12)) none [.Assign [.Name t p13] (.Constant (.str wb) j2 p14) p15] p16] [] [] p17, .Return (some (.Name t p18)) p19] a q (TTwo X.K CA CB w0 wa wb) := by
  intro f c' s H Q tl act hc h
  have gla : Gl (cxOf C8.CX0 X.prog X.w X.K X.mg X.base [a, t] x sg g cdg X.A X.stack s H C8.E0).nox A := hga
  have glb : Gl (cxOf C8.CX0 X.prog X.w X.K X.mg X.base [a, t] x sg g cdg X.A X.stack s H C8.E0).nox B := hgb
  have ht2 : (cxOf C8.CX0 X.prog X.w X.K X.mg X.base [a, t] x sg g cdg X.A X.stack s H C8.E0).nox.env.scope.names.lookup t = some .local := ht
  refine ⟨_, pss_cons (ps_set (X := (cxOf C8.CX0 X.prog X.w X.K X.mg X.base [a, t] x sg g cdg X.A X.stack s H C8.E0).nox) (i := 1) hn rfl (.inl ht) pe_str) (pss_cons (ps_try_many (X := (cxOf C8.CX0 X.prog X.w X.K X.mg X.base [a, t] x sg g cdg X.A X.stack s H C8.E0).nox)
      (tb := fun W D σ H => ∃ Ech : XK, (∀ cls d σ' H', σ'.length = 2 → Ech cls d H' → W cls d σ' H') ∧ σ[0]? = some (some (.ref f)) ∧ H c' = some (LamX.CodeO c' q) ∧ tl Ech H fun _ H' => D.nx σ H')
      rfl rfl takes_none5 (fun W pn xe tk _ => ?_)
      (.cons ⟨gla, hda, .inl hma⟩ (fun a oe cls d pn _ _ => pss_one (ps_set (i := 1) hn rfl (.inl ht) pe_str)) (.cons ⟨glb, hdb, .inl hmb⟩ (fun a oe cls d pn _ _ => pss_one (ps_set (i := 1) hn rfl (.inl ht) pe_str)) .nil)))
    (pss_one (ps_ret (pe_var (i := 1) rfl (.inl ht) hd hcd)))), ?_⟩
  · refine ⟨fun pins s' σ H' D I h' => ?_⟩
    obtain ⟨Ech, hW, h1, h2, h3⟩ := h'
    have hp := act (fun c d σ H => σ.length = 2 → W c d σ H) pn xe Ech p4 p5 (takes_len tk) (fun cls d σ' H' e l => hW cls d σ' H' l e)
    exact (pss_one (ps_expr (pos := p6) hp)).run pins s' σ H' D I ⟨h1, h2, h3⟩
  · have len1 : ∀ (σ' : L2.St) (v : V), σ'.length = 2 → (σ'.set 1 (some v))[1]? = some (some v) := fun σ' v l => by
      rw [List.getElem?_set_self (by omega)]
    refine ⟨fun cls _ H' => ∃ b, PySem.W.exmOne X.K cls (.ref CA) = some b ∧ (b = true → Q (.str wa) H') ∧ (b = false → ∃ b2, PySem.W.exmOne X.K cls (.ref CB) = some b2 ∧ (b2 = true → Q (.str wb) H') ∧ (b2 = false → False)), fun cls d σ' H' l ⟨b, e1, e2, e3⟩ => ⟨b, e1, fun hb a _ => ?_, fun hb => ?_⟩, rfl, hc, ?_⟩
    · exact ⟨_, len1 σ' _ l, e2 hb⟩
    · obtain ⟨b2, g1, g2, g3⟩ := e3 hb
      exact ⟨b2, g1, fun hb a _ => ⟨_, len1 σ' _ l, g2 hb⟩, fun hb => g3 hb⟩
    · refine Eq.mpr (congrArg (tl _ H) (funext fun _ => funext fun H' => propext ⟨fun ⟨v, e, z⟩ => ?_, fun z => ⟨_, rfl, z⟩⟩)) h
      have e2 : V.str w0 = v := Option.some.inj (Option.some.inj e)
      rw [e2]
      exact z
/-- the end of a law whose defs hold lambdas: of each def of the row, its code object and its empty table -/
theorem walk_ofRecs {l : PySem.W.OpenLaw} {n k : Nat} {q : Program} {loose : List Str} {XP : (Str → Option Value) → Heap → Prop} {YP : World → Heap → Prop} {d : DefRec} {K : Params → PySem.W.Frag} {CX : World → CXT} {x : Str}
    (hn : l.most = some n) (hn2 : n ≤ sizeLine) (hdf : d.params.defaults = []) (hr : Room k callerA) (hY : ∀ (w : World) (h : Heap), YP w h → (K w.params).In h)
    (F : ∀ (w : World) (mg : Str → Option Value) (fa : Addr) (h : Heap), YP w h → (K w.params).In h → h.Ns mainGlobals mg → mg d.name = some (.ref fa) →
      (∀ (y : Str) (e : DefRec) (c P : Addr), (recsOf q).find? (fun e => e.name == y) = some e → PySem.W.tabIn (K w.params) y = some (c, P) → PySem.W.CodeHd h c P ∧ h.get? P = some { cls := .none, data := .fields #[] }) → LamX.LawAtS l w (K w.params) (CX w) k n x mg fa h)
    (hCX : ∀ (w : World) (H : Hp) (s : Shared) (e : Value) (s' : Shared), CX w [] H s (fun _ _ _ => False) e s' → False) :
    PySem.W.WalkO q loose XP YP l.row.toRowW d [] (fun f vs => PySem.call f vs) := by
  refine Att.attach_callB hn hdf fun w s₀ s₁ mg mb fa o pm cd doc a vs ns G Y ho hd hcd hmg hobj hints hlen hbits hg => ?_
  have KX := hY w _ Y
  obtain ⟨fd, cs, sp, hT, nT, C, hb, hsp, hF⟩ := F w mg fa _ Y KX G.T.g hmg (fun y e c P h1 h2 => PySem.W.tab_of G.T KX h1 h2)
  exact LamX.law_callTs KX G.T.g G.T.b G.T.builtins G.T.nolimit hg hT nT C G.T.bmain hobj hints (Nat.le_trans hlen hn2) hr hF hb (fun H hH hS => hsp H a ns hlen hbits hH hS) fun H e s' => hCX w H s₁ e s'
/-- a def that makes lambdas: its code object c and the table P of it -/
structure DefAtL (K : PySem.W.Frag) (mg : Str → Option Value) (x qual : Str) (st : Stmt) (ps : List Str) extends DefAt K mg x qual st ps where
  c : Addr
  P : Addr
  ex : ∃ (oc : Value) (od : Option Addr) (kV doc pm : Value) (an : Option Addr) (ct : Value) (osl : Array (Option Value)),
    fd = PySem.W.fnOf x qual (defArgs st) (defBody st) (defScope st) .none kV doc pm an (.ref c) ct ∧ K.lookup f = some ⟨oc, od, .func fd, osl⟩ ∧ PySem.W.codeIn K (.ref c) qual = true
  tb : PySem.W.tabIn K x = some (c, P)
  nP : K.lookup P = none
def defAtL_mk {K : PySem.W.Frag} {mg : Str → Option Value} {h : Heap} {x qual : Str} {st : Stmt} {ps : List Str} {f c P : Addr} {od an : Option Addr} {sl : Array (Option Value)} {oc kV dc pm ct : Value} (X : K.In h) (G : h.Ns mainGlobals mg)
    (a : PySem.W.nsIn K mainGlobals x = some (some (.ref f))) (l : K.lookup f = some ⟨oc, od, .func (PySem.W.fnOf x qual (defArgs st) (defBody st) (defScope st) .none kV dc pm an (.ref c) ct), sl⟩) (cc : PySem.W.codeIn K (.ref c) qual = true) (k : PySem.W.keepIn K (.ref f) = true)
    (tb : PySem.W.tabIn K x = some (c, P)) (nP : K.lookup P = none)
    (b : ∀ (kV doc pm : Value) (an : Option Addr) (cdv ct : Value) (us : List Value), us.length = ps.length → bindArgs (PySem.W.fnOf x qual (defArgs st) (defBody st) (defScope st) .none kV doc pm an cdv ct) ⟨us, []⟩ = pure (ps.zip us)) : DefAtL K mg x qual st ps :=
  { defAt_mk X G a l cc k b with c := c, P := P, ex := ⟨_, _, _, _, _, _, _, _, rfl, l, cc⟩, tb := tb, nP := nP }
theorem DefAtL.ok {Pg : Program} {w : World} {K : PySem.W.Frag} {mg : Str → Option Value} {base : Heap} {x qual : Str} {st : Stmt} {N ps : List Str} {k : Nat} {sp : Sp} (D : DefAtL K mg x qual st ps) (S : FnScope N ps (defScope st)) (len : ∀ vs H Q E, sp vs H Q E → vs.length = ps.length)
    (hbody : ∀ (A : Around) (outer : List Env) (s : Shared) (H : Hp) (vs : List V) (Q : VK) (E : XK), Room k (A.deeper (envOfC qual (defScope st) s.heap.objs.size D.f (.ref D.c))) → sp vs H Q E →
      ∃ t, PSs (cxOf CX0 Pg w K mg base N qual (defScope st) D.f (.ref D.c) A outer s H E).nox (defBody st) t ∧ t { nx := fun _ H' => Q .non H', rt := Q } (start N vs) H) : FnOk Pg w K mg base CX0 (k + 1) D.f D.fd ps sp := by
  obtain ⟨oc, od, kV, doc, pm, an, ct, osl, e, lk, hcd⟩ := D.ex
  rw [e] at lk ⊢
  refine fn_of lk hcd S len fun A outer s H vs Q E hr hsp => ?_
  obtain ⟨t, h, q⟩ := hbody A outer s H vs Q E hr hsp
  exact ⟨t, h.nox, q⟩
/-- x(lambda: body), of a def known as DefAt -/
theorem pe_lamF {X : Cx} {T : List (Addr × Str)} {TT : (XK → Hp → VK → Prop) → Hp → VK → Prop} {x a n : Str} {st : Stmt} {c P : Addr} {k : Nat} {Ng : List Str} {params : Arguments} {body : Expr} {scope : Scope} {t : XK → TE} {p lpos pos : Pos}
    (hq : X.env.qual = n) (D : DefAt X.K X.mg x x st [a]) (hg : Gl X x) (Sg : FnScope Ng [a] (defScope st)) (hNg : Ng[0]? = some a) (hva : Vis (defScope st) a)
    (hG : ∀ cdv : Value, LamX.GivesTo X Ng x (defScope st) D.f cdv (defBody st) a (n ++ "<lambda>") TT)
    (TB : LamX.TabB X.base X.mg c P) (hcode : X.env.code = .ref c) (hmT : (P, n ++ "<lambda>") ∈ T) (hu : ∀ p ∈ T, p.1 = P → p.2 = n ++ "<lambda>") (hr : Room (k + 2) X.A) (L : LamX.LamS X.env.scope scope) (hdef : defaultsOf params X.env = ([], []))
    (hbind : ∀ (q : Str) (cl : List (Str × Addr)) (pm cv ctv : Value), bindArgs (PySem.W.kla_fn "<lambda>" q params body scope cl pm cv ctv) ⟨[], []⟩ = pure [])
    (hbody : ∀ (A : Around) (outer : List Env) (s : Shared) (H : Hp) (E : XK) (f c' : Addr), Room k (A.deeper (LamX.lamEnv X scope s.heap.objs.size f c')) → PE (LamX.lamCx X A outer s H E scope f c') body (t E))
    (hdb : (x == ("__debug__" : Str)) = false := by decide) (hd : (a == ("__debug__" : Str)) = false := by decide) (hcd : (a == ("__classdict__" : Str)) = false := by decide) :
    PE X (.Call (.Name x p) [.Lambda params body scope lpos] [] pos) (LamX.tLam T TT t) := by
  subst hq
  obtain ⟨f, fd, F, b, g⟩ := D
  obtain ⟨oc, od, kV, doc, pm, an, cdv, ct, osl, rfl, lk, hc2⟩ := F.ex
  exact LamX.pe_lamcall hg g F.kp lk hc2 b Sg hNg hva (hG cdv) TB hcode hmT hu hr L hdef hbind hbody hdb hd hcd
theorem nox_qual {CX : CXT} {Pg : Program} {w : World} {K : PySem.W.Frag} {mg : Str → Option Value} {base : Heap} {N : List Str} {q : Str} {sc : Scope} {f : Addr} {cdv : Value} {A : Around} {outer : List Env} {s : Shared} {H : Hp} {E : XK} :
    (cxOf CX Pg w K mg base N q sc f cdv A outer s H E).nox.env.qual = q ++ ".<locals>." := rfl
/-- what a call lets out is taken by the handlers around, whatever the slots hold by then -/
theorem passLen {X : Cx} {W : WX} (n : Nat) (tk : Takes X W) (hn : X.N.length = n) : Passes (L2.CX X.prog X.w) X (fun cls d H => ∀ σ : L2.St, σ.length = n → W cls d σ H) := passes_call (takes_len tk) (fun _ _ _ _ e l => e _ (l.trans hn))
/-- tables at places of their own -/
theorem tabs_uniq {P : Addr} {q : Str} : ∀ {l : List (Addr × Str)}, (l.map (·.1)).Nodup → (P, q) ∈ l → ∀ p ∈ l, p.1 = P → p.2 = q := by
  intro l
  induction l with
  | nil => intro _ h; cases h
  | cons a l ih =>
    intro hn hm p hp e
    rw [List.map_cons, List.nodup_cons] at hn
    rcases List.mem_cons.mp hm with h | h
    · rcases List.mem_cons.mp hp with k | k
      · rw [k, ← h]
      · exact absurd (List.mem_map.mpr ⟨p, k, by rw [e, ← h]⟩) hn.1
    · rcases List.mem_cons.mp hp with k | k
      · exact absurd (List.mem_map.mpr ⟨(P, q), h, by rw [← e, k]⟩) hn.1
      · exact ih hn.2 h p k e
end Vw

set_option Elab.async false
set_option linter.all false
set_option maxRecDepth 100000
set_option maxHeartbeats 4000000
namespace Vw
open PySem PySem.Spec PyProof.Rows L2 RT
/-! ### several handlers, each with the name of what it caught -/
abbrev HdT := Value × (Addr → Value → Option Addr → TS)
/-- the ends of a handler's suite: slot i, the name's, is empty behind it -/
def offI (i : Nat) (D : Ends) : Ends := { nx := fun σ H => D.nx (σ.set i none) H, rt := D.rt, bk := fun σ H => D.bk (σ.set i none) H, ct := fun σ H => D.ct (σ.set i none) H }
def wTells (K : PySem.W.Frag) (i : Nat) (Wo : WX) (D : Ends) : List HdT → WX
  | [] => Wo
  | h :: r => fun k d σ H => ∃ b, PySem.W.exmOne K k h.1 = some b ∧ (b = true → ∀ x, H x = none → h.2 x k d (offI i D) (σ.set i (some (.ref x))) H) ∧ (b = false → wTells K i Wo D r k d σ H)
inductive TellsOk (X : Cx) (n : Str) : List ExceptHandler → List HdT → Prop
  | nil : TellsOk X n [] []
  | cons {x : Str} {c : Value} {u : Addr → Value → Option Addr → TS} {b : Stmt} {bs : List Stmt} {p1 p2 : Pos} {hds : List ExceptHandler} {l : List HdT} (hc : Names X x c)
      (hu : ∀ (x : Addr) (o : Obj) (k : Value) (d : Option Addr) (pn : List (Addr × Obj)), Zc k d o → (∃ vs, o.data = .fields vs) → PSs (X.suite x ((x, o) :: pn)) (b :: bs) (u x k d)) (r : TellsOk X n hds l) :
      TellsOk X n (.ExceptHandler (some (.Name x p1)) (some n) (b :: bs) p2 :: hds) ((c, u) :: l)
section
variable {X : Cx} {n : Str} {i : Nat} {body : List Stmt} {h1 : ExceptHandler} {hds : List ExceptHandler} {l : List HdT} {pos : Pos} {tb : WX → TS} {Wo : WX}
theorem ps_tells (st : X.stack = X.env :: X.outer) (fr : X.env.frame = some X.env.locals) (nd : X.N.Nodup) (at_ : X.N[i]? = some n) (lo : X.env.kindOf n = some .local) (tk : Takes X Wo)
    (bo : ∀ (W : WX) (pn : List (Addr × Obj)) (xe : Value → Shared → Prop), Takes (X.tr pn xe) W → PassesOwn (model X.prog X.w) X.A X.env xe → PSs (X.tr pn xe) body (tb W))
    (hh : TellsOk X n (h1 :: hds) l) : PS X (.Try body (h1 :: hds) [] [] pos) (fun D σ H => tb (wTells X.K i Wo D l) D σ H) := by
  refine ⟨fun pins s σ H D I q0 => ?_⟩
  have kk := I.ok
  have frs2 : X.A.frames = some (X.env :: X.outer) := by rw [kk.frames, st]
  have hl2 : Loc X.env.scope n := .inl lo
  refine wpAny_Try_except ?_
  refine wpAny_mono ((bo (wTells X.K i Wo D l) (X.pn ++ pins) (fun e sa => wpAny (model X.prog X.w) X.A (noteFrame e X.env) (fun _ sb => wpAny (model X.prog X.w) X.A (setFlight e none) (fun _ sc =>
    wpAny (model X.prog X.w) X.A (handleBy e X.env (h1 :: hds)) (SP X pins D) X.xe sc) X.xe sb) X.xe sa) (fun u s' xx => ?_) PassesOwn.looking).run [] s σ H D (I.toTry _) q0) (fun f s1 hsp => ?_) (fun e s1 z => z)
  · obtain ⟨x, B, sI, _, σ2, H2, k, d, rfl, Ja, nb, up, sky, nx2, os, ag, w⟩ := xx
    have Jb : Inv X pins σ2 H2 sI := Ja.ofTry kk
    have sk2 : Sky B (X.env :: X.outer) x (Zc k d) X.env.locals s'.heap := by rw [← st]; exact sky
    show wpAny (model X.prog X.w) X.A (noteFrame (.ref x) X.env) _ _ _
    refine Sky.land Zc.steady frs2 fr sk2 fun ha fa ua => ?_
    have Jc : Inv X pins σ2 H2 { s' with heap := ha } := Jb.landed nb fa.1 (up.trans ua) os ag
    obtain ⟨oa, va, ea, za, da⟩ := fa.there
    have out : ∀ {h : Heap} {o : Obj} {vs : Array Value}, h.FunFrames B (X.env :: X.outer) → h.get? x = some o → o.data = .fields vs → x ∉ frs (X.env :: X.outer) := fun {h o vs} ff e dd m => by
      obtain ⟨_, o2, e2, nf⟩ := ff.mem m
      rw [e] at e2
      cases e2
      exact nf _ dd
    have nfa := out fa.2.2.1 ea da
    have nla : x ≠ X.env.locals := fun z => nfa (List.mem_filterMap.mpr ⟨X.env, List.mem_cons_self, by rw [fr, z]⟩)
    have nfs : x ∉ X.fs := fun m => by
      obtain ⟨e, me, q⟩ := List.mem_filterMap.mp m
      exact nfa (List.mem_filterMap.mpr ⟨e, List.mem_cons_of_mem _ me, q⟩)
    have Sa := Jc.suite ea da nx2 nla nfs
    have go : ∀ {hd2 : List ExceptHandler} {l2 : List HdT}, TellsOk X n hd2 l2 → wTells X.K i Wo D l2 k d σ2 H2 → wpAny (model X.prog X.w) X.A (handleBy (.ref x) X.env hd2) (SP X pins D) X.xe { s' with heap := ha } := by
      intro hd2 l2 ok2
      induction ok2 with
      | nil =>
        intro w2
        refine wpAny_handleBy_nil ?_
        obtain ⟨_, _, _, o5, v5, T, oT, t5, e5, z5, d5, g5, _⟩ := id fa
        unfold PySem.passOn
        refine wpAny_bind (wpAny_field e5 d5 g5 ?_)
        rw [if_neg (show ¬ ((Value.ref T == Value.none) = true) by simp)]
        have fin : wpAny (model X.prog X.w) X.A (setFlight (.ref x) X.env.frame) (fun _ sd => wpAny (model X.prog X.w) X.A (throw (.ref x) : Sem Flow) (SP X pins D) X.xe sd) X.xe { s' with heap := ha } := by
          rw [fr]
          refine HandSPX.setFlight_upZ fa fun hb hhb ub => wpAny_throw (tk _ _ ?_)
          exact ⟨x, B, sI, pins, σ2, H2, k, d, rfl, Jb, nb, (up.trans ua).trans ub, .inr (.inr (by rw [st]; exact hhb)), nx2, os, ag, w2⟩
        first
          | exact wpAny_bind (wpAny_pure (wpAny_bind fin))
          | exact wpAny_bind fin
      | @cons y c u b bs p1 p2 hd3 l3 hc hu r ih =>
        intro w2
        obtain ⟨bb, e1, yes, no⟩ := w2
        refine wpAny_handleBy_cons (codeAny_handlers_test ?_) (by intro q; cases q)
        have LA : PySem.W.Looks (model X.prog X.w) ha (typeOf (.ref x)) k := fun A Q E s k2 q => wpAny_typeOf_ref (k2 _ _ ea) (by rw [za.1]; exact q)
        have LB := PySem.W.exm_one (M := model X.prog X.w) Jc.kIn LA e1
        have tst : ∀ {Q E : Value → Shared → Prop}, Q c { s' with heap := ha } → wpAny (model X.prog X.w) (X.A.mark (some (.ref x))) (eval (.Name y p1) X.env) Q E { s' with heap := ha } := fun {Q E} q => by
          obtain ⟨g1, g2, g3 | ⟨g3, g4, g5⟩⟩ := hc
          · exact ld_glob (X := X.suite x ((x, oa) :: (X.pn ++ pins))) Sa g1 g3 q g2
          · exact ld_blt (X := X.suite x ((x, oa) :: (X.pn ++ pins))) Sa g1 g3 g4 q g5 g2
        refine tst (LB.here ?_)
        cases bb with
        | true =>
          refine codeAny_handlers_suite_as ?_
          refine HandSPX.lands_againZ fa fun hb fb ub => ?_
          have Jd : Inv X pins σ2 H2 { s' with heap := hb } := Jb.landed nb fb.1 ((up.trans ua).trans ub) os ag
          obtain ⟨ob, vb, eb, zb, db⟩ := fb.there
          have Sb := Jd.suite eb db nx2 nla nfs
          refine store_ok (X := X.suite x ((x, ob) :: (X.pn ++ pins))) (v := .ref x) Sb nd at_ hl2 rfl (fun s5 Sc => ?_) (.inr lo)
          refine wpAny_mono ((hu x ob k d (X.pn ++ pins) zb ⟨_, db⟩).run [] s5 _ H2 _ Sc (yes rfl x nx2)) (fun f s6 hs6 => ?_) (fun _ _ z => z.elim)
          have fin : ∀ {σ6 : L2.St} {H6 : Hp} {Q : Shared → Prop}, Inv (X.suite x ((x, ob) :: (X.pn ++ pins))) [] σ6 H6 s6 → (∀ s7, Inv X pins (σ6.set i none) H6 s7 → Q s7) →
              wpAny (model X.prog X.w) X.A (do bindName X.env n .none; unbindBehindTheSuite X.env n p2) (fun _ s7 => Q s7) X.xe s6 := fun {σ6 H6 Q} Sd hq => gone_ok (Sd.unsuite kk) nd at_ lo hq
          cases f with
          | next =>
            obtain ⟨_, _, Sd, q6⟩ := hs6
            exact fin Sd fun s7 Je => ⟨_, _, Je, q6⟩
          | brk =>
            obtain ⟨_, _, Sd, q6⟩ := hs6
            exact fin Sd fun s7 Je => ⟨_, _, Je, q6⟩
          | cont =>
            obtain ⟨_, _, Sd, q6⟩ := hs6
            exact fin Sd fun s7 Je => ⟨_, _, Je, q6⟩
          | ret u6 =>
            obtain ⟨_, _, _, Sd, r6, q6⟩ := hs6
            exact fin Sd fun s7 Je => ⟨_, _, _, Je, r6, q6⟩
        | false =>
          show wpAny _ X.A (handleBy (.ref x) X.env hd3) _ _ _
          exact ih (no rfl)
    exact go hh w
  · cases f with
    | next =>
      obtain ⟨_, _, Je, q⟩ := hsp
      exact wpAny_execs_nil ⟨_, _, Je.ofTry kk, q⟩
    | brk =>
      obtain ⟨_, _, Je, q⟩ := hsp
      exact ⟨_, _, Je.ofTry kk, q⟩
    | cont =>
      obtain ⟨_, _, Je, q⟩ := hsp
      exact ⟨_, _, Je.ofTry kk, q⟩
    | ret u6 =>
      obtain ⟨_, _, _, Je, r, q⟩ := hsp
      exact ⟨_, _, _, Je.ofTry kk, r, q⟩
/-- a suite that is read only where what it caught is of a known class -/
theorem pss_known {X : Cx} {bs : List Stmt} {D : Addr} {k : Value} {d : Option Addr} {t : TS} (h : k = .ref D → d = none → PSs X bs t) : PSs X bs (fun E σ H => k = .ref D ∧ d = none ∧ t E σ H) :=
  ⟨fun pins s σ H E I q => (h q.1 q.2.1).run pins s σ H E I q.2.2⟩
end
end Vw

set_option Elab.async false
set_option linter.all false
set_option maxRecDepth 100000
set_option maxHeartbeats 4000000
namespace Vw
open PySem PySem.Spec PyProof.Rows L2 RT
/-! ### list.count, flat items -/
def rCntF (K : PySem.W.Frag) : V → List V → Hp → VK → Prop := fun x xs H Q => ∃ (a : Addr) (ys : List V) (y : V), x = .ref a ∧ xs = [y] ∧ SqL K H a ys ∧ flatV y = true ∧ ys.all flatV = true ∧ Q (.int (ys.countP fun z => eqV z y : Nat)) H
theorem eqU_count {y : V} (fy : flatV y = true) : ∀ {ys : List V} {its : List Value}, Vals ys its → ys.all flatV = true → its.countP (eqU y) = ys.countP fun z => eqV z y
  | [], _, h, _ => by cases h; rfl
  | z :: zs, _, h, f => by
    cases h with
    | cons r rr =>
      rw [List.all_cons, Bool.and_eq_true] at f
      rw [List.countP_cons, List.countP_cons, eqU_count fy rr f.2, eqU_of r f.1]
theorem mt_cntF {X : Cx} : MtR X "list.count" (rCntF X.K) := by
  intro pins s σ H x xs v us Q I rx rxs h
  obtain ⟨a, ys, y, rfl, rfl, hs, fy, fys, q⟩ := h
  cases rx
  cases rxs with
  | cons ry rt =>
    rename_i uy ut
    cases rt
    obtain ⟨its, rv, ⟨⟨cls, dd, data, sl⟩, n, ho, hc, hdn, hd⟩, hlen⟩ := I.list hs
    simp only at hc hd
    subst hc hd
    refine call_meets PySem.F.slot_list_count ⟨_, ho, rfl⟩ PySem.F.entry_list_count (PySem.F.args_list_count_2 _ _) (SeqAt.list_countAt a its.toArray n dd sl uy (eqU y)) ⟨ho, fun u hu => mem_eqAt ry fy rv fys u (by simpa using hu), ?_⟩
    have ec : its.toArray.toList.countP (eqU y) = ys.countP fun z => eqV z y := eqU_count fy rv fys
    refine ⟨.int (ys.countP fun z => eqV z y : Nat), H, I.tok _, ⟨s.toks, ?_⟩, q⟩
    show Value.int ((its.toArray.toList.countP (eqU y) : Nat) : Int) s.toks = _
    rw [ec]
theorem o_cntF {K : PySem.W.Frag} {a : Addr} {H : Hp} {Q : VK} {ys : List V} {y : V} (h : SqL K H a ys) (f : flatV y = true) (g : ys.all flatV = true) (q : Q (.int (ys.countP fun z => eqV z y : Nat)) H) : rCntF K (.ref a) [y] H Q := ⟨a, ys, y, rfl, rfl, h, f, g, q⟩
end Vw

set_option Elab.async false
set_option linter.all false
set_option maxRecDepth 100000
set_option maxHeartbeats 4000000
namespace Vw
open PySem PySem.Spec PyProof.Rows L2 RT
/-! ### a tuple so many times, up to 2000 -/
def rTimesT (K : PySem.W.Frag) : R2 := fun x y H Q => ∃ (a : Addr) (n : Nat) (xs : List V), x = .ref a ∧ y = .int n ∧ SqT K H a xs ∧ xs ≠ [] ∧ 2 ≤ n ∧ n ≤ 2000 ∧ xs.length ≤ 40 ∧ ∀ p, H p = none → Q (.ref p) (upd H p (.tup (List.replicate n xs).flatten))
theorem times_len {α : Type} {xs : List α} {n : Nat} (h : n ≤ 2000) (h2 : xs.length ≤ 40) : (List.replicate n xs).flatten.length ≤ sizeLine := by
  rw [PyProof.Rows.lm_len_rep_flat]
  exact Nat.le_trans (Nat.mul_le_mul h h2) (by decide)
theorem op_timesT {X : Cx} : OpR X (binaryOp .Mult) (rTimesT X.K) := by
  intro pins st σ H x y v u Q I rx ry ⟨a, n, xs, ex, ey, hT, hne, h2, hn, hz, q⟩
  subst ex ey
  cases rx
  obtain ⟨tk, rfl⟩ := ry
  obtain ⟨its, r, ⟨ob, ho, hc, m, hd⟩, hs⟩ := I.tuple hT
  obtain ⟨cls, dd, data, sl⟩ := ob
  have hc : cls = .type "tuple" := hc
  have hd : data = .seq its.toArray m := hd
  subst hc hd
  have ln : its.length = xs.length := r.length.symm
  have pos : 0 < its.length := by rw [ln]; exact List.length_pos_iff.mpr hne
  have em : its.toArray.isEmpty = false := by rw [List.isEmpty_toArray]; cases its with
    | nil => cases pos
    | cons _ _ => rfl
  have sz : its.toArray.size = xs.length := by rw [List.size_toArray, ln]
  have pm : ((its.toArray.size : Nat) : Int) * (n : Int) ≤ 80000 := by
    rw [sz, ← Int.natCast_mul]
    have := Nat.mul_le_mul hz hn
    omega
  have nn : ((n : Nat) : Int).toNat = n := Int.toNat_natCast n
  have tm : Builtin.Tuple.tupleTooMany (((its.toArray.size : Nat) : Int) * (n : Int)) = false := by
    have e : (80000 : Int) < (sizeLine : Nat) := by decide
    unfold Builtin.Tuple.tupleTooMany; exact decide_eq_false (by omega)
  have b0 : (decide ((n : Int) < -(2 ^ 63)) || decide ((n : Int) ≥ 2 ^ 63)) = false := by
    rw [Bool.or_eq_false_iff]; exact ⟨decide_eq_false (by omega), decide_eq_false (by omega)⟩
  have b1 : (its.toArray.isEmpty || (n : Int) == 1) = false := by
    rw [em, Bool.false_or, beq_eq_false_iff_ne]; omega
  have b2 : (decide ((n : Int) ≤ 0) || its.toArray.isEmpty) = false := by
    rw [em, Bool.or_false]; exact decide_eq_false (by omega)
  have fl := size_rep its n
  have road := tuple_mulW a its.toArray m dd sl (n : Int) tk b0 b1 b2 (by omega) tm (by rw [nn, fl, List.size_toArray]; exact times_len hn (by omega))
  have fin : EP X pins σ Q (.ref st.heap.objs.size) { st with heap := st.heap.push { cls := Value.type "tuple", data := Data.seq (List.replicate n its).flatten.toArray }, toks := st.toks } :=
    ⟨.ref st.heap.objs.size, _, I.laid (t' := st.toks) (o := .tup (List.replicate n xs).flatten) (fun _ _ g => Heap.get?_push_of_some _ g) (Nat.le_refl _) ⟨times_len hn hz, _, r.rep n, IsTup.new _ _⟩, rfl, q _ (I.hok.fresh (Nat.le_refl _))⟩
  exact wpAny_binaryOp_repeat_ref (T := "tuple") (U := "int") (by decide) ⟨_, ho, rfl⟩ (fun s' => typeIs_int s' (n : Int) tk) noFill_tuple_mul F.fills_int_mul F.slot_int_rmul repeat_tuple F.slot_int_index.lookup
    (call_meets F.slot_int_rmul (typeIs_int st (n : Int) tk) F.entry_int_rmul (F.args_int_rmul_2 _ _) (int_rmul_tuple (n : Int) tk a its.toArray m dd sl) ⟨ho, rfl, ⟨_, ho, rfl⟩,
      call_meets F.slot_tuple_mul ⟨_, ho, rfl⟩ F.entry_tuple_mul (F.args_tuple_mul_2 _ _) road ⟨ho, by rw [nn, fl]; exact fin⟩⟩)
theorem oTimesT {K : PySem.W.Frag} {X : Cx} (e : X.K = K := by rfl) : OpR X (binaryOp .Mult) (rTimesT K) := by cases e; exact op_timesT
section
variable {K : PySem.W.Frag} {H : Hp} {Q : VK}
theorem o_times {a : Addr} {n : Nat} {xs : List V} {i : Int} (h : SqT K H a xs) (ne : xs ≠ []) (e : i = (n : Nat)) (h2 : 2 ≤ n) (hn : n ≤ 2000) (hz : xs.length ≤ 40) (q : ∀ p H2, H p = none → Same H H2 → H2 p = some (.tup (List.replicate n xs).flatten) → Q (.ref p) H2) : rTimesT K (.ref a) (.int i) H Q :=
  ⟨a, n, xs, rfl, by rw [e], h, ne, h2, hn, hz, fun p np => q p _ np (Same.new np) upd_same⟩
end
end Vw

set_option Elab.async false
set_option linter.all false
set_option maxRecDepth 100000
set_option maxHeartbeats 4000000
namespace Vw
open PySem PySem.Spec PyProof.Rows L2 RT
/-! ### a tuple no times -/
theorem mul0_road (a : Addr) (its : Array Value) (m : Nat) (od : Option Addr) (sl : Array (Option Value)) (k : Tok) (e1 : (its.isEmpty || (0 : Int) == 1) = false) :
    Meets (Builtin.«tuple.__mul__» ⟨[.ref a, .int 0 k], []⟩) (fun _ R s => s.heap.get? a = some { cls := .type "tuple", dict := od, data := .seq its m, slots := sl } ∧
      R (.ok (.ret (Value.ref s.heap.objs.size))) { s with heap := s.heap.push { cls := Value.type "tuple", data := Data.seq #[] } }) :=
  .of_wp fun prog w A R s h => by
    obtain ⟨hp, gl, dd, tk, os⟩ := s
    obtain ⟨hl, h⟩ := h
    have f1 := AutoSeq1.idx_int
    wp_walk using wpAny_loadPart' hl
    repeat (first
      | (refine wpAny_ite_false (by decide) ?_; wp_walk using wpAny_loadPart' hl)
      | (refine wpAny_ite_false (decide_eq_false (by rw [e1]; decide)) ?_; wp_walk using wpAny_loadPart' hl)
      | (refine wpAny_ite_true (by decide) ?_; wp_walk using wpAny_loadPart' hl)
      | (refine wpAny_ite_true (by simp) ?_; wp_walk using wpAny_loadPart' hl))
    exact ⟨_, rfl, h⟩
def rNoTimes (K : PySem.W.Frag) : R2 := fun x y H Q => ∃ (a : Addr) (xs : List V), x = .ref a ∧ y = .int 0 ∧ SqT K H a xs ∧ xs ≠ [] ∧ ∀ p, H p = none → Q (.ref p) (upd H p (.tup []))
theorem op_noTimes {X : Cx} : OpR X (binaryOp .Mult) (rNoTimes X.K) := by
  intro pins st σ H x y v u Q I rx ry ⟨a, xs, ex, ey, hT, hne, q⟩
  subst ex ey
  cases rx
  obtain ⟨tk, rfl⟩ := ry
  obtain ⟨its, r, ⟨ob, ho, hc, m, hd⟩, hs⟩ := I.tuple hT
  obtain ⟨cls, dd, data, sl⟩ := ob
  have hc : cls = .type "tuple" := hc
  have hd : data = .seq its.toArray m := hd
  subst hc hd
  have ln : its.length = xs.length := r.length.symm
  have pos : 0 < its.length := by rw [ln]; exact List.length_pos_iff.mpr hne
  have em : its.toArray.isEmpty = false := by rw [List.isEmpty_toArray]; cases its with
    | nil => cases pos
    | cons _ _ => rfl
  have fin : EP X pins σ Q (.ref st.heap.objs.size) { st with heap := st.heap.push { cls := Value.type "tuple", data := Data.seq #[] } } :=
    ⟨.ref st.heap.objs.size, _, I.laid (t' := st.toks) (o := .tup []) (fun _ _ g => Heap.get?_push_of_some _ g) (Nat.le_refl _) ⟨Nat.zero_le _, [], .nil, IsTup.new _ _⟩, rfl, q _ (I.hok.fresh (Nat.le_refl _))⟩
  exact wpAny_binaryOp_repeat_ref (T := "tuple") (U := "int") (by decide) ⟨_, ho, rfl⟩ (fun s' => typeIs_int s' 0 tk) noFill_tuple_mul F.fills_int_mul F.slot_int_rmul repeat_tuple F.slot_int_index.lookup
    (call_meets F.slot_int_rmul (typeIs_int st 0 tk) F.entry_int_rmul (F.args_int_rmul_2 _ _) (int_rmul_tuple 0 tk a its.toArray m dd sl) ⟨ho, rfl, ⟨_, ho, rfl⟩,
      call_meets F.slot_tuple_mul ⟨_, ho, rfl⟩ F.entry_tuple_mul (F.args_tuple_mul_2 _ _) (mul0_road a its.toArray m dd sl tk (by rw [em]; rfl)) ⟨ho, fin⟩⟩)
theorem oMulA {K : PySem.W.Frag} {X : Cx} (e : X.K = K := by rfl) : OpR X (binaryOp .Mult) (rOr rIMul (rOr (rTimesT K) (rNoTimes K))) := by cases e; exact oOr op_mul (oOr op_timesT op_noTimes)
section
variable {K : PySem.W.Frag} {H : Hp} {Q : VK}
/-- so many times, none too -/
theorem o_timesA {r : R2} {a : Addr} {n : Nat} {xs : List V} {i : Int} (h : SqT K H a xs) (ne : xs ≠ []) (e : i = (n : Nat)) (h2 : n = 0 ∨ 2 ≤ n) (hn : n ≤ 2000) (hz : xs.length ≤ 40) (q : ∀ p H2, H p = none → Same H H2 → H2 p = some (.tup (List.replicate n xs).flatten) → Q (.ref p) H2) : rOr r (rOr (rTimesT K) (rNoTimes K)) (.ref a) (.int i) H Q := by
  rcases h2 with rfl | h2
  · exact .inr (.inr ⟨a, xs, rfl, by rw [e]; rfl, h, ne, fun p np => q p _ np (Same.new np) upd_same⟩)
  · exact .inr (.inl (o_times h ne e h2 hn hz q))
end
end Vw

set_option Elab.async false
set_option linter.all false
set_option maxRecDepth 100000
set_option maxHeartbeats 4000000
namespace Vw
open PySem PySem.Spec PyProof.Rows L2 RT
/-! ### a tuple so many times, none and once too -/
theorem mul1_road (a : Addr) (its : Array Value) (m : Nat) (od : Option Addr) (sl : Array (Option Value)) (k : Tok) (e1 : (its.isEmpty || (1 : Int) == 1) = true) :
    Meets (Builtin.«tuple.__mul__» ⟨[.ref a, .int 1 k], []⟩) (fun _ R s => s.heap.get? a = some { cls := .type "tuple", dict := od, data := .seq its m, slots := sl } ∧
      R (.ok (.ret (Value.ref a))) s) :=
  .of_wp fun prog w A R s h => by
    obtain ⟨hp, gl, dd, tk, os⟩ := s
    obtain ⟨hl, h⟩ := h
    have f1 := AutoSeq1.idx_int
    wp_walk using wpAny_loadPart' hl
    repeat (first
      | (refine wpAny_ite_false (by decide) ?_; wp_walk using wpAny_loadPart' hl)
      | (refine wpAny_ite_true (by rw [e1]) ?_; wp_walk using wpAny_loadPart' hl)
      | (refine wpAny_ite_true (decide_eq_true (by rw [e1])) ?_; wp_walk using wpAny_loadPart' hl)
      | (refine wpAny_ite_true (by decide) ?_; wp_walk using wpAny_loadPart' hl)
      | (refine wpAny_ite_true (by simp) ?_; wp_walk using wpAny_loadPart' hl))
    exact ⟨_, rfl, h⟩
def rOnce (K : PySem.W.Frag) : R2 := fun x y H Q => ∃ (a : Addr) (xs : List V), x = .ref a ∧ y = .int 1 ∧ SqT K H a xs ∧ xs ≠ [] ∧ Q (.ref a) H
theorem op_once {X : Cx} : OpR X (binaryOp .Mult) (rOnce X.K) := by
  intro pins st σ H x y v u Q I rx ry ⟨a, xs, ex, ey, hT, hne, q⟩
  subst ex ey
  cases rx
  obtain ⟨tk, rfl⟩ := ry
  obtain ⟨its, r, ⟨ob, ho, hc, m, hd⟩, hs⟩ := I.tuple hT
  obtain ⟨cls, dd, data, sl⟩ := ob
  have hc : cls = .type "tuple" := hc
  have hd : data = .seq its.toArray m := hd
  subst hc hd
  have fin : EP X pins σ Q (.ref a) st := ⟨.ref a, _, I, rfl, q⟩
  exact wpAny_binaryOp_repeat_ref (T := "tuple") (U := "int") (by decide) ⟨_, ho, rfl⟩ (fun s' => typeIs_int s' 1 tk) noFill_tuple_mul F.fills_int_mul F.slot_int_rmul repeat_tuple F.slot_int_index.lookup
    (call_meets F.slot_int_rmul (typeIs_int st 1 tk) F.entry_int_rmul (F.args_int_rmul_2 _ _) (int_rmul_tuple 1 tk a its.toArray m dd sl) ⟨ho, rfl, ⟨_, ho, rfl⟩,
      call_meets F.slot_tuple_mul ⟨_, ho, rfl⟩ F.entry_tuple_mul (F.args_tuple_mul_2 _ _) (mul1_road a its.toArray m dd sl tk (by simp)) ⟨ho, fin⟩⟩)
def rTimesW (K : PySem.W.Frag) : R2 := fun x y H Q => ∃ (a : Addr) (n : Nat) (xs : List V), x = .ref a ∧ y = .int n ∧ SqT K H a xs ∧ xs ≠ [] ∧ 2 ≤ n ∧ n ≤ 8000 ∧ xs.length ≤ 8 ∧ ∀ p, H p = none → Q (.ref p) (upd H p (.tup (List.replicate n xs).flatten))
theorem timesW_len {α : Type} {xs : List α} {n : Nat} (h : n ≤ 8000) (h2 : xs.length ≤ 8) : (List.replicate n xs).flatten.length ≤ sizeLine := by
  rw [PyProof.Rows.lm_len_rep_flat]
  exact Nat.le_trans (Nat.mul_le_mul h h2) (by decide)
theorem op_timesW {X : Cx} : OpR X (binaryOp .Mult) (rTimesW X.K) := by
  intro pins st σ H x y v u Q I rx ry ⟨a, n, xs, ex, ey, hT, hne, h2, hn, hz, q⟩
  subst ex ey
  cases rx
  obtain ⟨tk, rfl⟩ := ry
  obtain ⟨its, r, ⟨ob, ho, hc, m, hd⟩, hs⟩ := I.tuple hT
  obtain ⟨cls, dd, data, sl⟩ := ob
  have hc : cls = .type "tuple" := hc
  have hd : data = .seq its.toArray m := hd
  subst hc hd
  have ln : its.length = xs.length := r.length.symm
  have pos : 0 < its.length := by rw [ln]; exact List.length_pos_iff.mpr hne
  have em : its.toArray.isEmpty = false := by rw [List.isEmpty_toArray]; cases its with
    | nil => cases pos
    | cons _ _ => rfl
  have sz : its.toArray.size = xs.length := by rw [List.size_toArray, ln]
  have pm : ((its.toArray.size : Nat) : Int) * (n : Int) ≤ 64000 := by
    rw [sz, ← Int.natCast_mul]
    have := Nat.mul_le_mul hz hn
    omega
  have nn : ((n : Nat) : Int).toNat = n := Int.toNat_natCast n
  have tm : Builtin.Tuple.tupleTooMany (((its.toArray.size : Nat) : Int) * (n : Int)) = false := by
    have e : (64000 : Int) < (sizeLine : Nat) := by decide
    unfold Builtin.Tuple.tupleTooMany; exact decide_eq_false (by omega)
  have b0 : (decide ((n : Int) < -(2 ^ 63)) || decide ((n : Int) ≥ 2 ^ 63)) = false := by
    rw [Bool.or_eq_false_iff]; exact ⟨decide_eq_false (by omega), decide_eq_false (by omega)⟩
  have b1 : (its.toArray.isEmpty || (n : Int) == 1) = false := by
    rw [em, Bool.false_or, beq_eq_false_iff_ne]; omega
  have b2 : (decide ((n : Int) ≤ 0) || its.toArray.isEmpty) = false := by
    rw [em, Bool.or_false]; exact decide_eq_false (by omega)
  have fl := size_rep its n
  have road := tuple_mulW a its.toArray m dd sl (n : Int) tk b0 b1 b2 (by omega) tm (by rw [nn, fl, List.size_toArray]; exact timesW_len hn (by omega))
  have fin : EP X pins σ Q (.ref st.heap.objs.size) { st with heap := st.heap.push { cls := Value.type "tuple", data := Data.seq (List.replicate n its).flatten.toArray }, toks := st.toks } :=
    ⟨.ref st.heap.objs.size, _, I.laid (t' := st.toks) (o := .tup (List.replicate n xs).flatten) (fun _ _ g => Heap.get?_push_of_some _ g) (Nat.le_refl _) ⟨timesW_len hn hz, _, r.rep n, IsTup.new _ _⟩, rfl, q _ (I.hok.fresh (Nat.le_refl _))⟩
  exact wpAny_binaryOp_repeat_ref (T := "tuple") (U := "int") (by decide) ⟨_, ho, rfl⟩ (fun s' => typeIs_int s' (n : Int) tk) noFill_tuple_mul F.fills_int_mul F.slot_int_rmul repeat_tuple F.slot_int_index.lookup
    (call_meets F.slot_int_rmul (typeIs_int st (n : Int) tk) F.entry_int_rmul (F.args_int_rmul_2 _ _) (int_rmul_tuple (n : Int) tk a its.toArray m dd sl) ⟨ho, rfl, ⟨_, ho, rfl⟩,
      call_meets F.slot_tuple_mul ⟨_, ho, rfl⟩ F.entry_tuple_mul (F.args_tuple_mul_2 _ _) road ⟨ho, by rw [nn, fl]; exact fin⟩⟩)
abbrev rTimesV (K : PySem.W.Frag) : R2 := rOr (rTimesW K) (rOr (rOnce K) (rNoTimes K))
theorem oTimesV {K : PySem.W.Frag} {X : Cx} (e : X.K = K := by rfl) : OpR X (binaryOp .Mult) (rTimesV K) := by cases e; exact oOr op_timesW (oOr op_once op_noTimes)
section
variable {K : PySem.W.Frag} {H : Hp} {Q : VK}
theorem o_timesV {a : Addr} {n : Nat} {xs : List V} {i : Int} (h : SqT K H a xs) (ne : xs ≠ []) (e : i = (n : Nat)) (hn : n ≤ 8000) (hz : xs.length ≤ 8) (q : ∀ p H2, Same H H2 → SqT K H2 p (List.replicate n xs).flatten → Q (.ref p) H2) : rTimesV K (.ref a) (.int i) H Q := by
  rcases (show n = 0 ∨ n = 1 ∨ 2 ≤ n by omega) with rfl | rfl | h2
  · exact .inr (.inr ⟨a, xs, rfl, by rw [e]; rfl, h, ne, fun p np => q p _ (Same.new np) (stO upd_same)⟩)
  · exact .inr (.inl ⟨a, xs, rfl, by rw [e]; rfl, h, ne, q a H (Same.refl _) (by simpa using h)⟩)
  · exact .inl ⟨a, n, xs, rfl, by rw [e], h, ne, h2, hn, hz, fun p np => q p _ (Same.new np) (stO upd_same)⟩
end
end Vw

set_option Elab.async false
set_option linter.all false
set_option maxRecDepth 100000
set_option maxHeartbeats 4000000
namespace Vw
open PySem PySem.Spec PyProof.Rows L2 RT
/-! ### o.f as one of several targets -/
def gFld (K : PySem.W.Frag) (to : TE) (f : Str) : TG := fun v σ H Q => to σ H fun x H1 => ∃ a C dx fs, x = .ref a ∧ H1 a = some (.ins C dx fs) ∧ Cls K C ∧ NoAttr K C f ∧ fs.length < 1000 ∧ Q σ (upd H1 a (.ins C dx (putF f v fs)))
section
variable {X : Cx} {o : Expr} {to : TE} {f : Str} {pos : Pos}
theorem pg_fld (ho : PE X o to) (ha : ∀ v, assign (.Attribute o f pos) X.env v = (do
      let ov ← holding [v] (eval o X.env)
      standAt pos.atName
      holding [v, ov] (setAttr ov f v)
      release [v, ov] []) := by intro _; rfl) : PG X (.Attribute o f pos) (gFld X.K to f) := by
  refine ⟨fun pins s σ H v u Q I r h => ?_⟩
  rw [ha]
  refine wpAny_bind (wpAny_holding (thn (ho.run pins s σ H _ I h) fun ov s1 ⟨x, H1, I1, r1, a, C, dx, fs, ex, ea, c, n, l, q1⟩ => ?_))
  subst ex
  obtain rfl : ov = Value.ref a := r1
  refine wpAny_bind (wpAny_standAt (wpAny_bind (wpAny_holding ?_)))
  exact setattr_ok I1 ea c n l r fun s3 I3 => wpAny_release ⟨σ, _, I3, q1⟩
end
theorem pgFld {X : Cx} {K : PySem.W.Frag} {o : Expr} {to : TE} {f : Str} {pos : Pos} (ho : PE X o to) (eK : X.K = K := by rfl) (ha : ∀ v, assign (.Attribute o f pos) X.env v = (do
      let ov ← holding [v] (eval o X.env)
      standAt pos.atName
      holding [v, ov] (setAttr ov f v)
      release [v, ov] []) := by intro _; rfl) : PG X (.Attribute o f pos) (gFld K to f) := by cases eK; exact pg_fld ho ha
end Vw
namespace Vw
open PySem PySem.Spec PyProof.Rows L2 RT
/-! ### list.extend of a list -/
theorem list_extend_lst (l : Addr) (items : Array Value) (n : Nat) (b : Addr) (items2 : Array Value) (n2 : Nat) (hs0 : ¬(!items.isEmpty && Builtin.List.listTooLong (items.size + items2.size)) = true) (hs1 : items.size ≤ sizeLine) (hs2 : items.size + items2.size ≤ sizeLine + 1) :
    Meets (Builtin.«list.extend» ⟨[.ref l, .ref b], []⟩) (fun _ R s => s.heap.get? l = some { cls := .type "list", dict := none, data := .seq items n, slots := #[] } ∧ s.heap.get? b = some { cls := .type "list", dict := none, data := .seq items2 n2, slots := #[] } ∧ R (.ok (.ret Value.none)) { s with heap := s.heap.update l (Obj.mapSeq fun x => x ++ items2), toks := s.toks }) :=
  .of_wp fun prog w A R s h => by
    obtain ⟨hp, g, d, tk, os⟩ := s; obtain ⟨hl, hb, h⟩ := h; have f1 := PySem.AutoSeq1.idx_int; have f2 := PySem.AutoSeq1.sub_tuple_tuple; have f3 := PySem.AutoSeq1.sub_list_list; have f4 := PySem.AutoSeq1.sub_tuple_list; have f5 := PySem.AutoSeq1.sub_list_tuple;
    have hz' : (items ++ items2).size ≤ sizeLine + 1 := by rw [Array.size_append]; exact hs2
    wp_walk using (wpAny_updateSeq hl rfl (hz := hs1) (_hz' := hz')), PySem.AutoSeq1.wpAny_loadPart' hl, PySem.AutoSeq1.wpAny_loadPart' hb; exact ⟨_, rfl, h⟩
def rExtL : V → List V → Hp → VK → Prop := fun x vs H Q => ∃ l b xs zs, x = .ref l ∧ vs = [.ref b] ∧ H l = some (.lst xs) ∧ H b = some (.lst zs) ∧ xs.length + zs.length ≤ sizeLine ∧ Q .non (upd H l (.lst (xs ++ zs)))
section
variable {X : Cx}
theorem mt_extL : MtM X "list.extend" rExtL := by
  intro pins s σ H x vs v us Q I rx rv h
  obtain ⟨l, b, xs, zs, rfl, rfl, hH, hB, hz, q⟩ := h
  cases rx
  obtain ⟨u, rfl, ru⟩ := rv.one
  cases ru
  obtain ⟨z, its, n, r, hl, e⟩ := I.lstM hH
  obtain ⟨z2, its2, n2, r2, hl2, e2⟩ := I.lstM hB
  have hl3 := r2.length
  have hsz : its.toArray.size + its2.toArray.size ≤ sizeLine := by rw [List.size_toArray, List.size_toArray]; omega
  have hlong : ¬ (!its.toArray.isEmpty && Builtin.List.listTooLong (its.toArray.size + its2.toArray.size)) = true := by
    rw [show Builtin.List.listTooLong (its.toArray.size + its2.toArray.size) = false from decide_eq_false (by omega), Bool.and_false]
    exact Bool.false_ne_true
  refine call_meets F.slot_list_extend ⟨_, e, rfl⟩ F.entry_list_extend (F.args_list_extend_2 _ _)
    (list_extend_lst l its.toArray n b its2.toArray n2 hlong (by rw [List.size_toArray]; omega) (by omega)) ⟨e, e2, ?_⟩
  refine ⟨.non, _, I.lset (its' := its ++ its2) hH e (by simp) (r.append r2) ?_, rfl, q⟩
  rw [List.length_append]
  omega
end
section
variable {K : PySem.W.Frag} {σ : L2.St} {H : Hp} {Q : VK} {l b : Addr} {xs zs : List V}
theorem r_extL (h : H l = some (.lst xs)) (hb : H b = some (.lst zs)) (hl : xs.length + zs.length < 100000) (q : ∀ H2, Oth l H H2 → H2 l = some (.lst (xs ++ zs)) → Q .non H2) : rExtL (.ref l) [.ref b] H Q :=
  ⟨l, b, xs, zs, rfl, rfl, h, hb, Nat.le_of_lt (lt_size hl), q _ (fun c o z e => by rw [upd_ne z]; exact e) upd_same⟩
end
end Vw

set_option Elab.async false
set_option linter.all false
set_option maxRecDepth 100000
set_option maxHeartbeats 4000000
namespace Vw
open PySem PySem.Spec PyProof.Rows L2 RT
/-! ### a text so many times -/
def repS (z : Str) (n : Nat) : Str := ⟨(List.replicate n z.cps).foldl (· ++ ·) #[]⟩
def rTimesS : R2 := fun x y H Q => ∃ (z : Str) (n : Nat), x = .str z ∧ y = .int n ∧ 1 ≤ z.length ∧ z.length ≤ 100 ∧ 2 ≤ n ∧ n ≤ 100 ∧ (repS z n).length ≤ sizeLine ∧ Q (.str (repS z n)) H
theorem op_timesS {X : Cx} : OpR X (binaryOp .Mult) rTimesS := by
  intro pins st σ H x y v u Q I rx ry ⟨z, n, ex, ey, h1, h2, h3, h4, h5, q⟩
  subst ex ey
  obtain ⟨tz, rfl⟩ := rx
  obtain ⟨tk, rfl⟩ := ry
  have b1 : ((n : Int) == 1 || z.length == 0) = false := by
    rw [Bool.or_eq_false_iff, beq_eq_false_iff_ne, beq_eq_false_iff_ne]; omega
  refine P.mul_str ?_ (fun _ _ => ?_) (fun _ _ => ?_) ?_
  · rw [Bool.or_eq_false_iff]; exact ⟨decide_eq_false (by omega), decide_eq_false (by omega)⟩
  · have : (2 ^ 63 - 1 : Int) / (n : Int) ≥ (2 ^ 63 - 1) / 100 := by
      refine Int.le_ediv_of_mul_le (by omega) ?_
      omega
    omega
  · rw [Int.toNat_natCast]
    have := Nat.mul_le_mul h2 h4
    exact decide_eq_false (by have e : (10000 : Nat) < sizeLine := by decide
                              omega)
  · rw [if_neg (by omega), if_neg (by rw [b1]; exact Bool.false_ne_true), Int.toNat_natCast]
    exact ⟨h5, ⟨.str (repS z n), H, I.tok _, ⟨_, rfl⟩, q⟩⟩
theorem oMulVS {K : PySem.W.Frag} {X : Cx} (e : X.K = K := by rfl) : OpR X (binaryOp .Mult) (rOr rTimesS (rTimesV K)) := oOr op_timesS (oTimesV e)
section
variable {K : PySem.W.Frag} {H : Hp} {Q : VK}
theorem o_timesS {z y : Str} {i : Int} {r : R2} (n : Nat) (e : i = (n : Nat)) (h1 : 1 ≤ z.length) (h2 : z.length ≤ 100) (h3 : 2 ≤ n) (h4 : n ≤ 100) (ey : repS z n = y) (hy : y.length ≤ sizeLine) (q : Q (.str y) H) : rOr rTimesS r (.str z) (.int i) H Q := by
  subst e ey
  exact .inl ⟨z, n, rfl, rfl, h1, h2, h3, h4, hy, q⟩
end
end Vw

set_option Elab.async false
set_option linter.all false
set_option maxRecDepth 100000
set_option maxHeartbeats 4000000
namespace Vw
open PySem PySem.Spec PyProof.Rows L2 RT
/-! ### what is never reached -/
section
variable {X : Cx}
theorem pe_no {e : Expr} : PE X e (fun _ _ _ => False) := ⟨fun _ _ _ _ _ _ h => h.elim⟩
theorem pt_no {e : Expr} : PT X e (fun _ _ _ => False) := ⟨fun _ _ _ _ _ _ h => h.elim⟩
theorem ps_no {st : Stmt} : PS X st (fun _ _ _ => False) := ⟨fun _ _ _ _ _ _ h => h.elim⟩
theorem pg_no {tg : Expr} : PG X tg (fun _ _ _ _ => False) := ⟨fun _ _ _ _ _ _ _ _ _ h => h.elim⟩
theorem pss_no {st : List Stmt} : PSs X st (fun _ _ _ => False) := ⟨fun _ _ _ _ _ _ h => h.elim⟩
end
/-! ### a comprehension of several clauses over nothing -/
section
variable {prog : Program} {w : World} {A : Around} {R : Result → Shared → Prop} {s : Shared} {elt tg iter : Expr} {ifs : List Expr} {rest : List Comprehension} {scope : Scope} {pos : Pos} {it acc : Value} {env : Env}
theorem compEnds (h : wpAny (model prog w) A (pyNext it) (fun r s1 => r = none ∧ R (.ok .next) s1) (fun _ _ => False) s) :
    codeAny (model prog w) A (.compLoop (.ListComp elt (⟨tg, iter, ifs, 0⟩ :: rest) scope pos) 0 it acc env) R s := by
  refine codeAny_of_tree ?_
  show wpAny _ A ((compTurn (.ListComp elt (⟨tg, iter, ifs, 0⟩ :: rest) scope pos) 0 it acc env).onRaise (fun x => do noteFrame x env; theTreesLotGoes x)) _ _ s
  refine wpAny_noted ?_
  unfold compTurn
  refine wpAny_bind (wpAny_standAt (wpAny_bind (wpAny_mono h (fun r s1 h1 => ?_) fun _ _ z => z.elim)))
  obtain ⟨rfl, h1⟩ := h1
  exact wpAny_pure h1
end
section
variable {X : Cx}
def tLcE (wi : TI) : TE := fun σ H Q => wi σ H fun J H1 => ∀ D, H1 D = none → J.stop 0 (upd H1 D (.lst [])) ∧ Q (.ref D) (upd H1 D (.lst []))
theorem pe_lcE {elt tg iter : Expr} {ifs : List Expr} {rest : List Comprehension} {scope : Scope} {own : List (Str × Nat)} {pos : Pos} {wi : TI} (hc : X.calm = true) (hN : X.N.Nodup) (hi : PI X tg iter wi) (ok : BlkOk X.N X.env.scope scope own)
    (hs : ∀ x, foldedSetIterable iter X.env x = pure x := by intro _; rfl) : PE X (.ListComp elt (⟨tg, iter, ifs, 0⟩ :: rest) scope pos) (tLcE wi) := by
  refine ⟨fun pins s σ H Q I h => ?_⟩
  rw [eval_ListComp]
  have frees : ∀ z ∈ scope.names, z.2 = .free → ∃ c, X.env.cells.lookup z.1 = some c := fun z hz e => (ok.free z hz e).elim (fun k => I.ok.has _ (.inl k)) fun k => I.ok.has _ (.inr k)
  refine wpAny_comprehension_free (use := none) rfl hs (closure_ok frees) ok.kind (fun z hz e => by rw [ok.uniq z hz, e]) (thn (hi.run pins s σ H _ I h) fun xv s1 hx => thn hx fun itv s2 h2 => ?_)
  obtain ⟨it, fp, tn, J, H2, e, I2, T, st2, f2, q⟩ := h2
  subst e
  refine wpAny_newObj_type (newEnv_comp ?_) (by show 0 ≤ sizeLine; decide)
  generalize hD : s2.heap.objs.size = D
  have nD : H2 D = none := I2.hok.fresh (Nat.le_of_eq hD)
  obtain ⟨stop, qq⟩ := q D nD
  generalize hs3 : ({ s2 with heap := s2.heap.push { cls := .type "list", data := .seq ([] : List Value).toArray } } : Shared) = s3
  have I3 : Inv X pins σ (upd H2 D (.lst [])) s3 := by
    rw [← hs3]
    refine I2.laid (t' := s2.toks) (fun b o e => Heap.get?_push_of_some _ e) (Nat.le_of_eq hD) ⟨Nat.zero_le _, [], 0, .nil, ?_⟩
    rw [← hD]; exact Heap.get?_push_size _ rfl
  have h3 : s3.heap = s2.heap.push { cls := .type "list", data := .seq ([] : List Value).toArray } := by rw [← hs3]
  have old : ∀ b ∈ fp, b < s2.heap.objs.size := fun b hb => (T.obj _ _ st2 b hb).elim fun o e => Heap.lt_size e.1
  have f3 : ∀ b ∈ fp, FpOk X pins (upd H2 D (.lst [])) b ∧ b < s3.heap.objs.size := fun b hb => by
    have l := old b hb
    have nb : upd H2 D (.lst []) b = none := by
      rw [upd_ne (by rw [← hD]; exact Nat.ne_of_lt l)]; exact (f2 b hb).1
    exact ⟨⟨nb, (f2 b hb).2⟩, by rw [h3, Heap.size_push]; exact Nat.lt_succ_of_lt l⟩
  have st3 : tn 0 s3.heap := T.keep _ _ _ st2 fun b _ o e => by rw [h3]; exact Heap.get?_push_of_some _ e
  have I4 := block_start I3 ok hN f3
  show codeAny _ _ (.compStart (.ListComp elt (⟨tg, iter, ifs, 0⟩ :: rest) scope pos) 0 (.ref it) (.ref D) (compEnvC scope (cellsFrom (s3.heap.objs.size + 1) scope.names (cloFrom X.env.cells scope.names [])) s3.heap.objs.size X.env)) (compPost (model X.prog X.w) X.A X.xe none _ (.ref D) s3.heap.objs.size) { s3 with heap := pushCells (s3.heap.push { cls := .type "dict", data := .dict #[] }) scope.names }
  have none3 : ∀ b ∈ fp, (upd H2 D (.lst [])) b = none := fun b hb => (f3 b hb).1.1
  generalize hce : compEnvC scope (cellsFrom (s3.heap.objs.size + 1) scope.names (cloFrom X.env.cells scope.names [])) s3.heap.objs.size X.env = ce at I4 ⊢
  have cL : ce.locals = s3.heap.objs.size := by subst hce; rfl
  generalize hH3 : upd H2 D (.lst []) = H3 at I3 I4 none3 f3 stop qq
  generalize hs4 : ({ s3 with heap := pushCells (s3.heap.push { cls := .type "dict", data := .dict #[] }) scope.names } : Shared) = s4 at I4 ⊢
  have st4 : tn 0 s4.heap := T.keep _ _ _ st3 fun b _ o e => by rw [← hs4]; exact pushCells_keeps _ _ _ _ (Heap.get?_push_of_some _ e)
  have stat : ∀ b ∈ fp, FpOk (X.blk s3 H3 scope ce fp) [] H3 b := fun b hb => ⟨none3 b hb, (I4.ok.exf b hb).1, I4.ok.exfs b hb, .inl hb, fun x c e => (I4.ok.exf b hb).2 x c e, fun p hp => absurd (show p ∈ ([] : List (Addr × Obj)) ++ [] from hp) (by simp)⟩
  have loop : codeAny (model X.prog X.w) X.A (.compLoop (.ListComp elt (⟨tg, iter, ifs, 0⟩ :: rest) scope pos) 0 (.ref it) (.ref D) ce) (compPost (model X.prog X.w) X.A X.xe none (EP X pins σ Q) (.ref D) s3.heap.objs.size) s4 := by
    refine compEnds (wpAny_mono (T.done (X.blk s3 H3 scope ce fp) rfl rfl rfl hc 0 [] s4 _ H3 (fun _ _ => False) I4 stat st4 stop) (fun r s6 hr => ?_) fun _ _ z => z)
    obtain ⟨er, I6⟩ := hr
    refine ⟨er, ?_⟩
    have I7 : Inv X pins σ H3 s6 := I3.call' (ch := fp) I6.os I6.base I6.hok I6.bare fun b hb => ⟨(f3 b hb).1.2.2.2.1, (f3 b hb).1.2.1, (f3 b hb).1.2.2.2.2.1, (f3 b hb).1.2.2.2.2.2⟩
    have nC : H3 s3.heap.objs.size = none := by
      have z : H3 ce.locals = none := I6.free
      rw [cL] at z; exact z
    obtain ⟨m, hn, _⟩ := I6.loc
    have hn : s6.heap.Ns ce.locals m := hn
    rw [cL] at hn
    refine ⟨m, hn, fun h'' sb => ?_⟩
    obtain ⟨f0, f1, f2, f3, f4, f5⟩ := I3.fpOk (Nat.le_refl _) nC
    exact ⟨.ref D, H3, I7.turned (t' := s6.toks) (fun b o hb e => (sb.2 b hb).trans e) f0 f1 f3 f4 f5, rfl, qq⟩
  exact codeAny_compStart_list loop (T.self X.A 0 _ _ _ st4 loop)
end
end Vw

set_option Elab.async false
set_option linter.all false
set_option maxRecDepth 100000
set_option maxHeartbeats 4000000
namespace Vw
open PySem PySem.Spec PyProof.Rows L2 RT
/-! ### == and != of data in which dicts of whole numbers lie -/
def intK : Key → Bool
  | .inl _ => true
  | .inr _ => false
theorem intK_of {k : Key} (h : intK k = true) : ∃ i, k = Sum.inl i := by
  cases k with
  | inl i => exact ⟨i, rfl⟩
  | inr x => cases h
/-- a dict of whole numbers is one in every world -/
theorem pairs_any {p p' : Program} {w w' : World} : ∀ {es : List DictEntry} {va : List (Key × Value)}, Pairs (mixKind p w) es va → Pairs (mixKind p' w') es va := fun h => by
  induction h with
  | nil => exact .nil
  | cons a b _ k => exact .cons a b k
theorem dictOf_any {p p' : Program} {w w' : World} {h : Heap} {a : Addr} {va : List (Key × Value)} (d : h.DictOf (mixKind p w) a va) (i : ∀ q ∈ va, intK q.1 = true) : h.DictOf (mixKind p' w') a va := by
  obtain ⟨o, es, ep, h1, h2, h3, h4, h5, h6⟩ := d
  refine ⟨o, es, ep, h1, h2, h3, fun e me => ?_, pairs_any h5, h6⟩
  obtain ⟨k, k1, k2⟩ := h4 e me
  refine ⟨k, k1, ?_⟩
  obtain ⟨j, hj, ej⟩ := List.getElem_of_mem (Array.mem_toList_iff.mpr me)
  have lj : j < va.length := by rw [← h5.length]; exact hj
  obtain ⟨q1, _⟩ := h5.get? (i := j) (e := e) (k := va[j].1) (v := va[j].2) (by rw [List.getElem?_eq_getElem hj, ej]) (List.getElem?_eq_getElem lj)
  have ek : k = va[j].1 := (mixKind p w).inj _ _ _ k1 q1
  obtain ⟨n, en⟩ := intK_of (i va[j] (List.getElem_mem lj))
  rw [ek, en] at k2 ⊢
  exact k2
def EqX (K : PySem.W.Frag) (H : Hp) : Nat → V → V → Prop
  | 0 => fun _ _ => False
  | n + 1 => fun x y => (x = y ∧ flatB x = true) ∨ (∃ a b xs ys, x = .ref a ∧ y = .ref b ∧ SqT K H a xs ∧ SqT K H b ys ∧ Paired (EqX K H n) xs ys) ∨ (∃ a b xs ys, x = .ref a ∧ y = .ref b ∧ SqL K H a xs ∧ SqL K H b ys ∧ Paired (EqX K H n) xs ys) ∨
    ∃ a b ks ls, x = .ref a ∧ y = .ref b ∧ H a = some (.dK ks) ∧ H b = some (.dK ls) ∧ ks.length = ls.length ∧ (∀ p ∈ ks, intK p.1 = true) ∧ (∀ p ∈ ls, intK p.1 = true) ∧ ∀ p ∈ ks, ∃ u, valV ls p.1 = some u ∧ EqX K H n p.2 u
theorem items_at {A : Around} {s : Shared} {F : V → V → Prop} (ih : ∀ x y v u, F x y → RelV x v → RelV y u → SeqAt.EqAt A s v u true) {xs ys : List V} (hp : Paired F xs ys) :
    ∀ {us ws : List Value}, Vals xs us → Vals ys ws → ∀ j (h1 : j < us.length) (h2 : j < ws.length), SeqAt.EqAt A s us[j] ws[j] true := by
  induction hp with
  | nil =>
    intro us ws r1 _ j h1
    cases r1
    exact absurd h1 (Nat.not_lt_zero j)
  | cons h _ k =>
    intro us ws r1 r2 j h1 h2
    cases r1 with
    | cons a1 b1 =>
      cases r2 with
      | cons a2 b2 =>
        cases j with
        | zero => exact ih _ _ _ _ h a1 a2
        | succ j => exact k b1 b2 j (Nat.lt_of_succ_lt_succ h1) (Nat.lt_of_succ_lt_succ h2)
theorem hits_at {A : Around} {s : Shared} {F : V → V → Prop} (ih : ∀ x y v u, F x y → RelV x v → RelV y u → SeqAt.EqAt A s v u true) {ls : List (Key × V)} {vb : List (Key × Value)} (rb : KV ls vb) {ks : List (Key × V)} {va : List (Key × Value)}
    (ra : KV ks va) : (∀ p ∈ ks, ∃ u, valV ls p.1 = some u ∧ F p.2 u) → PySem.W.KeqHits A s vb va true := by
  unfold KV at ra
  induction ra with
  | nil => intro _; exact .nil
  | @cons p q ps qs h t k =>
    intro hp
    obtain ⟨h1, h2⟩ := h
    obtain ⟨u, e, f⟩ := hp p (by simp)
    have rr : RelO (some u) (valueAt vb p.1) := by rw [← e]; exact rb.val p.1
    obtain ⟨y, hy, ry⟩ := rr.some_of
    obtain ⟨key, v⟩ := q
    obtain rfl : p.1 = key := h1
    show PySem.W.KeqHits A s vb ((p.1, v) :: qs) (true && true)
    exact .hit hy (ih _ _ _ _ f h2 ry) (k fun p' hm => hp p' (List.mem_cons_of_mem _ hm))
theorem kv_int {ks : List (Key × V)} {va : List (Key × Value)} (r : KV ks va) : (∀ p ∈ ks, intK p.1 = true) → ∀ q ∈ va, intK q.1 = true := by
  unfold KV at r
  induction r with
  | nil => intro _ q hq; cases hq
  | @cons p q ps qs h t k =>
    intro hp x hx
    rcases List.mem_cons.mp hx with z | z
    · rw [z, ← h.1]; exact hp p (by simp)
    · exact k (fun p' hm => hp p' (List.mem_cons_of_mem _ hm)) x z
section
variable {X : Cx} {pins : List (Addr × Obj)} {σ : L2.St} {H : Hp} {s : Shared}
theorem eqX_run (I : Inv X pins σ H s) : ∀ (n : Nat) (A : Around), A.units + n < cLine → ∀ (x y : V) (v u : Value), EqX X.K H n x y → RelV x v → RelV y u → SeqAt.EqAt A s v u true
  | 0, _, _, _, _, _, _, h, _, _ => (show False from h).elim
  | n + 1, A, hu, x, y, v, u, h, rx, ry => by
    have ih := eqX_run I n A.in1 (by show A.units + 1 + n < cLine; omega)
    rcases h with ⟨rfl, f⟩ | ⟨a, b, xs, ys, rfl, rfl, ha, hb, hp⟩ | ⟨a, b, xs, ys, rfl, rfl, ha, hb, hp⟩ | ⟨a, b, ks, ls, rfl, rfl, ha, hb, hl, i1, i2, hp⟩
    · exact eqAt_same rx ry f
    all_goals (cases (show v = Value.ref a from rx); cases (show u = Value.ref b from ry); by_cases e : a = b; (· subst e; exact SeqAt.EqAt.same _); refine SeqAt.EqAt.of_refs e ?_)
    · obtain ⟨us, r1, p1, _⟩ := I.tuple ha
      obtain ⟨ws, r2, p2, _⟩ := I.tuple hb
      have sz : us.toArray.size = ws.toArray.size := by rw [List.size_toArray, List.size_toArray, ← r1.length, ← r2.length]; exact Paired.length hp
      have k := SeqAt.RcAt.tuples (e := fun _ => true) p1 p2 (A := A) (by omega) (fun j h1 h2 => by have q := items_at ih hp r1 r2 j (by simpa using h1) (by simpa using h2); simpa using q)
      rw [show ((List.range (min us.toArray.size ws.toArray.size)).all fun _ => true) = true from List.all_eq_true.mpr fun _ _ => rfl, sz] at k
      simpa using k
    · obtain ⟨us, r1, p1, _⟩ := I.list ha
      obtain ⟨ws, r2, p2, _⟩ := I.list hb
      have sz : us.toArray.size = ws.toArray.size := by rw [List.size_toArray, List.size_toArray, ← r1.length, ← r2.length]; exact Paired.length hp
      have k := SeqAt.RcAt.lists (e := fun _ => true) p1.isList p2.isList (A := A) sz (by omega) (fun j h1 h2 => by have q := items_at ih hp r1 r2 j (by simpa using h1) (by simpa using h2); simpa using q)
      rw [show ((List.range us.toArray.size).all fun _ => true) = true from List.all_eq_true.mpr fun _ _ => rfl] at k
      exact k
    · obtain ⟨_, ya, va, ra, da⟩ := (show ObjOk X.prog X.w H s.heap a (.dK ks) from I.hok a _ ha)
      obtain ⟨_, yb, vb, rb, db⟩ := (show ObjOk X.prog X.w H s.heap b (.dK ls) from I.hok b _ hb)
      intro p' w' E Q q
      have e2 : va.length = vb.length := by rw [← ra.length, ← rb.length]; exact hl
      refine PySem.W.keq_eq (knd := mixKind p' w') (r := true) ya yb (dictOf_any da (kv_int ra i1)) (dictOf_any db (kv_int rb i2)) (by omega) (fun _ => hits_at ih rb ra hp) ?_
      rw [show (va.length == vb.length && true) = true from by rw [e2]; simp]
      exact q
end
section
variable {X : Cx}
/-- two lists that are equal -/
def rNeX (K : PySem.W.Frag) : R2 := fun x y H Q => ∃ a b xs ys, x = .ref a ∧ y = .ref b ∧ SqL K H a xs ∧ SqL K H b ys ∧ Paired (EqX K H 20) xs ys ∧ Q (.bl false) H
theorem op_neX (hu : X.A.units + 64 < cLine) : OpR X (compareOp .NotEq) (rNeX X.K) := by
  intro pins s σ H x y v u Q I rx ry h
  obtain ⟨a, b, xs, ys, rfl, rfl, ha, hb, hp, q⟩ := h
  cases (show v = Value.ref a from rx)
  cases (show u = Value.ref b from ry)
  obtain ⟨us, r1, p1, _⟩ := I.list ha
  obtain ⟨ws, r2, p2, _⟩ := I.list hb
  have sz : us.toArray.size = ws.toArray.size := by rw [List.size_toArray, List.size_toArray, ← r1.length, ← r2.length]; exact Paired.length hp
  have ih := eqX_run I 20 X.A.in1 (by show X.A.units + 1 + 20 < cLine; omega)
  have k := SeqAt.RcNeAt.lists (e := fun _ => true) p1.isList p2.isList (A := X.A) sz (by omega) (fun j h1 h2 => by have q := items_at ih hp r1 r2 j (by simpa using h1) (by simpa using h2); simpa using q)
  rw [show ((List.range us.toArray.size).all fun _ => true) = true from List.all_eq_true.mpr fun _ _ => rfl] at k
  exact k X.prog X.w _ _ ⟨.bl false, H, I, rfl, q⟩
def rEqX (K : PySem.W.Frag) : R2 := fun x y H Q => ∃ a b xs ys, x = .ref a ∧ y = .ref b ∧ SqL K H a xs ∧ SqL K H b ys ∧ Paired (EqX K H 20) xs ys ∧ Q (.bl true) H
theorem op_eqX (hu : X.A.units + 64 < cLine) : OpR X (compareOp .Eq) (rEqX X.K) := by
  intro pins s σ H x y v u Q I rx ry h
  obtain ⟨a, b, xs, ys, rfl, rfl, ha, hb, hp, q⟩ := h
  cases (show v = Value.ref a from rx)
  cases (show u = Value.ref b from ry)
  obtain ⟨us, r1, p1, _⟩ := I.list ha
  obtain ⟨ws, r2, p2, _⟩ := I.list hb
  have sz : us.toArray.size = ws.toArray.size := by rw [List.size_toArray, List.size_toArray, ← r1.length, ← r2.length]; exact Paired.length hp
  have ih := eqX_run I 20 X.A.in1 (by show X.A.units + 1 + 20 < cLine; omega)
  have k := SeqAt.RcAt.lists (e := fun _ => true) p1.isList p2.isList (A := X.A) sz (by omega) (fun j h1 h2 => by have q := items_at ih hp r1 r2 j (by simpa using h1) (by simpa using h2); simpa using q)
  rw [show ((List.range us.toArray.size).all fun _ => true) = true from List.all_eq_true.mpr fun _ _ => rfl] at k
  exact k X.prog X.w _ _ ⟨.bl true, H, I, rfl, q⟩
end
theorem oNeX {K : PySem.W.Frag} {X : Cx} (hu : X.A.units + 64 < cLine) (e : X.K = K := by rfl) : OpR X (compareOp .NotEq) (rNeX K) := by cases e; exact op_neX hu
theorem oEqX {K : PySem.W.Frag} {X : Cx} (hu : X.A.units + 64 < cLine) (e : X.K = K := by rfl) : OpR X (compareOp .Eq) (rEqX K) := by cases e; exact op_eqX hu
end Vw

set_option Elab.async false
set_option linter.all false
set_option maxRecDepth 100000
set_option maxHeartbeats 4000000
namespace Vw
open PySem PySem.Spec PyProof.Rows L2 RT
/-! ### a list so many times -/
def rTimesL : R2 := fun x y H Q => ∃ (a : Addr) (n : Nat) (xs : List V), x = .ref a ∧ y = .int n ∧ H a = some (.lst xs) ∧ n * xs.length ≤ 10000 ∧ n ≤ 10000 ∧ ∀ p, H p = none → Q (.ref p) (upd H p (.lst (List.replicate n xs).flatten))
theorem op_timesL {X : Cx} : OpR X (binaryOp .Mult) rTimesL := by
  intro pins st σ H x y v u Q I rx ry ⟨a, n, xs, ex, ey, hL, hn, hn2, q⟩
  subst ex
  cases rx
  obtain ⟨j, ej⟩ : ∃ j : Int, j = (n : Nat) := ⟨_, rfl⟩
  rw [← ej] at ey
  subst ey
  obtain ⟨tk, rfl⟩ := ry
  have jn : j.toNat = n := by omega
  obtain ⟨z, its, m, r, hl, ho⟩ := I.lstM hL
  have ln : its.length = xs.length := r.length.symm
  have fl : (List.foldl (fun x1 x2 => x1 ++ x2) #[] (List.replicate (if its.toArray.isEmpty = true then 0 else j.toNat) its.toArray)) = (List.replicate n its).flatten.toArray := by
    rw [jn]
    cases its with
    | nil => simp
    | cons b bs =>
      rw [if_neg (by simp)]
      exact size_rep (b :: bs) n
  have big : (10000 : Nat) ≤ sizeLine := by decide
  have lenF : (List.replicate n xs).flatten.length ≤ sizeLine := by rw [lm_len_rep_flat]; omega
  have fin : EP X pins σ Q (.ref st.heap.objs.size) { st with heap := st.heap.push { cls := Value.type "list", data := Data.seq (List.replicate n its).flatten.toArray } } :=
    ⟨.ref st.heap.objs.size, _, I.laid (t' := st.toks) (o := .lst (List.replicate n xs).flatten) (fun _ _ g => Heap.get?_push_of_some _ g) (Nat.le_refl _) ⟨lenF, _, 0, r.rep n, Heap.get?_push_size _ rfl⟩, rfl, q _ (I.hok.fresh (Nat.le_refl _))⟩
  have sz2 : its.toArray.size * j.toNat ≤ 10000 := by rw [List.size_toArray, ln, jn, Nat.mul_comm]; exact hn
  have c0 : ¬ (!Builtin.List.listFitsIndex j) = true := by
    have : Builtin.List.listFitsIndex j = true := by
      unfold Builtin.List.listFitsIndex
      rw [Bool.and_eq_true]
      exact ⟨decide_eq_true (by omega), decide_eq_true (by omega)⟩
    rw [this]; decide
  have c2 : ¬ Builtin.List.listTooLong (its.toArray.size * j.toNat) = true := by
    intro h
    have h := of_decide_eq_true h
    omega
  have road := lm_list_mul_any a its.toArray m none #[] j tk c0 (by omega) c2
  rw [fl] at road
  exact wpAny_binaryOp_repeat_ref (T := "list") (U := "int") (by decide) ⟨_, ho, rfl⟩ (fun s' => typeIs_int s' j tk) noFill_list_mul F.fills_int_mul F.slot_int_rmul repeat_list F.slot_int_index.lookup
    (call_meets F.slot_int_rmul (typeIs_int st j tk) F.entry_int_rmul (F.args_int_rmul_2 _ _) (lm_int_rmul_list_any j tk a its.toArray m none #[]) ⟨ho, rfl, ⟨_, ho, rfl⟩,
      call_meets F.slot_list_mul ⟨_, ho, rfl⟩ F.entry_list_mul (F.args_list_mul_2 _ _) road ⟨ho, fin⟩⟩)
theorem oTimesL {X : Cx} : OpR X (binaryOp .Mult) rTimesL := op_timesL
/-! ### a handler that catches what is let out, whatever stands behind it -/
def wTell (K : PySem.W.Frag) (i : Nat) (c : Value) (u : Addr → Value → Option Addr → TS) (D : Ends) : WX := fun k d σ H => PySem.W.exmOne K k c = some true ∧ ∀ x, H x = none → u x k d (offI i D) (σ.set i (some (.ref x))) H
section
variable {X : Cx} {n x0 : Str} {i : Nat} {body bs : List Stmt} {b : Stmt} {c : Value} {u : Addr → Value → Option Addr → TS} {p1 p2 pos : Pos} {hds : List ExceptHandler} {tb : WX → TS}
theorem ps_tell1 (st : X.stack = X.env :: X.outer) (fr : X.env.frame = some X.env.locals) (nd : X.N.Nodup) (at_ : X.N[i]? = some n) (lo : X.env.kindOf n = some .local)
    (bo : ∀ (W : WX) (pn : List (Addr × Obj)) (xe : Value → Shared → Prop), Takes (X.tr pn xe) W → PassesOwn (model X.prog X.w) X.A X.env xe → PSs (X.tr pn xe) body (tb W))
    (hc : Names X x0 c) (hu : ∀ (x : Addr) (o : Obj) (k : Value) (d : Option Addr) (pn : List (Addr × Obj)), Zc k d o → (∃ vs, o.data = .fields vs) → PSs (X.suite x ((x, o) :: pn)) (b :: bs) (u x k d)) :
    PS X (.Try body (.ExceptHandler (some (.Name x0 p1)) (some n) (b :: bs) p2 :: hds) [] [] pos) (fun D σ H => tb (wTell X.K i c u D) D σ H) := by
  refine ⟨fun pins s σ H D I q0 => ?_⟩
  have kk := I.ok
  have frs2 : X.A.frames = some (X.env :: X.outer) := by rw [kk.frames, st]
  have hl2 : Loc X.env.scope n := .inl lo
  refine wpAny_Try_except ?_
  refine wpAny_mono ((bo (wTell X.K i c u D) (X.pn ++ pins) (fun e sa => wpAny (model X.prog X.w) X.A (noteFrame e X.env) (fun _ sb => wpAny (model X.prog X.w) X.A (setFlight e none) (fun _ sc =>
    wpAny (model X.prog X.w) X.A (handleBy e X.env (.ExceptHandler (some (.Name x0 p1)) (some n) (b :: bs) p2 :: hds)) (SP X pins D) X.xe sc) X.xe sb) X.xe sa) (fun u2 s' xx => ?_) PassesOwn.looking).run [] s σ H D (I.toTry _) q0) (fun f s1 hsp => ?_) (fun e s1 z => z)
  · obtain ⟨x, B, sI, _, σ2, H2, k, d, rfl, Ja, nb, up, sky, nx2, os, ag, w⟩ := xx
    have Jb : Inv X pins σ2 H2 sI := Ja.ofTry kk
    have sk2 : Sky B (X.env :: X.outer) x (Zc k d) X.env.locals s'.heap := by rw [← st]; exact sky
    show wpAny (model X.prog X.w) X.A (noteFrame (.ref x) X.env) _ _ _
    refine Sky.land Zc.steady frs2 fr sk2 fun ha fa ua => ?_
    have Jc : Inv X pins σ2 H2 { s' with heap := ha } := Jb.landed nb fa.1 (up.trans ua) os ag
    obtain ⟨oa, va, ea, za, da⟩ := fa.there
    have nfa : x ∉ frs (X.env :: X.outer) := fun m => by
      obtain ⟨_, o2, e2, nf⟩ := fa.2.2.1.mem m
      rw [ea] at e2
      cases e2
      exact nf _ da
    have nla : x ≠ X.env.locals := fun z => nfa (List.mem_filterMap.mpr ⟨X.env, List.mem_cons_self, by rw [fr, z]⟩)
    have nfs : x ∉ X.fs := fun m => by
      obtain ⟨e, me, q⟩ := List.mem_filterMap.mp m
      exact nfa (List.mem_filterMap.mpr ⟨e, List.mem_cons_of_mem _ me, q⟩)
    have Sa := Jc.suite ea da nx2 nla nfs
    obtain ⟨e1, yes⟩ := w
    refine wpAny_handleBy_cons (codeAny_handlers_test ?_) (by intro q; cases q)
    have LA : PySem.W.Looks (model X.prog X.w) ha (typeOf (.ref x)) k := fun A Q E s k2 q => wpAny_typeOf_ref (k2 _ _ ea) (by rw [za.1]; exact q)
    have LB := PySem.W.exm_one (M := model X.prog X.w) Jc.kIn LA e1
    have tst : ∀ {Q E : Value → Shared → Prop}, Q c { s' with heap := ha } → wpAny (model X.prog X.w) (X.A.mark (some (.ref x))) (eval (.Name x0 p1) X.env) Q E { s' with heap := ha } := fun {Q E} q => by
      obtain ⟨g1, g2, g3 | ⟨g3, g4, g5⟩⟩ := hc
      · exact ld_glob (X := X.suite x ((x, oa) :: (X.pn ++ pins))) Sa g1 g3 q g2
      · exact ld_blt (X := X.suite x ((x, oa) :: (X.pn ++ pins))) Sa g1 g3 g4 q g5 g2
    refine tst (LB.here ?_)
    refine codeAny_handlers_suite_as ?_
    refine HandSPX.lands_againZ fa fun hb fb ub => ?_
    have Jd : Inv X pins σ2 H2 { s' with heap := hb } := Jb.landed nb fb.1 ((up.trans ua).trans ub) os ag
    obtain ⟨ob, vb, eb, zb, db⟩ := fb.there
    have Sb := Jd.suite eb db nx2 nla nfs
    refine store_ok (X := X.suite x ((x, ob) :: (X.pn ++ pins))) (v := .ref x) Sb nd at_ hl2 rfl (fun s5 Sc => ?_) (.inr lo)
    refine wpAny_mono ((hu x ob k d (X.pn ++ pins) zb ⟨_, db⟩).run [] s5 _ H2 _ Sc (yes x nx2)) (fun f s6 hs6 => ?_) (fun _ _ z => z.elim)
    have fin : ∀ {σ6 : L2.St} {H6 : Hp} {Q : Shared → Prop}, Inv (X.suite x ((x, ob) :: (X.pn ++ pins))) [] σ6 H6 s6 → (∀ s7, Inv X pins (σ6.set i none) H6 s7 → Q s7) →
        wpAny (model X.prog X.w) X.A (do bindName X.env n .none; unbindBehindTheSuite X.env n p2) (fun _ s7 => Q s7) X.xe s6 := fun {σ6 H6 Q} Sd hq => gone_ok (Sd.unsuite kk) nd at_ lo hq
    cases f with
    | next =>
      obtain ⟨_, _, Sd, q6⟩ := hs6
      exact fin Sd fun s7 Je => ⟨_, _, Je, q6⟩
    | brk =>
      obtain ⟨_, _, Sd, q6⟩ := hs6
      exact fin Sd fun s7 Je => ⟨_, _, Je, q6⟩
    | cont =>
      obtain ⟨_, _, Sd, q6⟩ := hs6
      exact fin Sd fun s7 Je => ⟨_, _, Je, q6⟩
    | ret u6 =>
      obtain ⟨_, _, _, Sd, r6, q6⟩ := hs6
      exact fin Sd fun s7 Je => ⟨_, _, _, Je, r6, q6⟩
  · cases f with
    | next =>
      obtain ⟨_, _, Je, q⟩ := hsp
      exact wpAny_execs_nil ⟨_, _, Je.ofTry kk, q⟩
    | brk =>
      obtain ⟨_, _, Je, q⟩ := hsp
      exact ⟨_, _, Je.ofTry kk, q⟩
    | cont =>
      obtain ⟨_, _, Je, q⟩ := hsp
      exact ⟨_, _, Je.ofTry kk, q⟩
    | ret u6 =>
      obtain ⟨_, _, _, Je, r, q⟩ := hsp
      exact ⟨_, _, _, Je.ofTry kk, r, q⟩
end
end Vw

set_option Elab.async false
set_option linter.all false
set_option maxRecDepth 100000
set_option maxHeartbeats 4000000
namespace Vw
open PySem PySem.Spec PyProof.Rows L2 RT
/-! ### defs that are called where no text of an object is being made -/
structure FnG (P : Program) (w : World) (K : PySem.W.Frag) (mg : Str → Option Value) (base : Heap) (CX : CXT) (k : Nat) (f : Addr) (fd : FuncData) (ps : List Str) (sp : Sp) : Prop where
  len : ∀ vs H Q E, sp vs H Q E → vs.length = ps.length
  run : ∀ (A : Around) (outer : List Env) (s : Shared) (H : Hp) (args : Args) (us : List Value) (vs : List V) (Q : VK) (E : XK), A.guards = some [] → Room k A → Env0 P w K mg base A outer s H → BindsTo s fd args (ps.zip us) → Vals vs us → sp vs H Q E →
    codeAny (model P w) A (.call (.ref f) args) (CR CX outer P w H s Q E) s
theorem FnG.of {P : Program} {w : World} {K : PySem.W.Frag} {mg : Str → Option Value} {base : Heap} {CX : CXT} {k : Nat} {f : Addr} {fd : FuncData} {ps : List Str} {sp : Sp} (F : FnOk P w K mg base CX k f fd ps sp) : FnG P w K mg base CX k f fd ps sp :=
  ⟨F.len, fun A outer s H args us vs Q E _ => F.run A outer s H args us vs Q E⟩
section
variable {X : Cx} {CX : CXT} {k : Nat} {f : Addr} {fd : FuncData} {ps : List Str} {sp : Sp} {dvs : List V} {ds : List Value} {E : XK} {x : Str} {p pos : Pos} {e : Expr} {es : List Expr} {t : TA}
theorem run_fnG {pins : List (Addr × Obj)} {σ : L2.St} {H : Hp} {s : Shared} {Q : VK} {us : List Value} {vs : List V} (gd : X.A.guards = some []) (F : FnG X.prog X.w X.K X.mg X.base CX k f fd ps sp) (rm : Room k X.A) (bd : Binds X.K fd ps ds) (dv : Vals dvs ds) (ps1 : Passes CX X E)
    (J : Inv X pins σ H s) (rv : Vals vs us) (hs : sp (vs ++ dvs) H Q E) : wpAny (model X.prog X.w) X.A (call (.ref f) us) (EP X pins σ Q) X.xe s := by
  have all : Vals (vs ++ dvs) (us ++ ds) := rv.append dv
  have n : (us ++ ds).length = ps.length := all.length.symm.trans (F.len _ _ _ _ hs)
  refine wpAny_call (codeAny_mono (F.run X.A X.stack s H ⟨us, []⟩ _ _ Q E gd rm J.env0 (bd s us J.kIn n) all hs) ?_)
  intro res s2 z
  cases res with
  | error e => exact ps1 pins σ H s e s2 J z
  | ok fl =>
    cases fl with
    | ret u => exact J.after z
    | next => exact (show False from z).elim
    | brk => exact (show False from z).elim
    | cont => exact (show False from z).elim
theorem pe_callG (gd : X.A.guards = some []) (F : FnG X.prog X.w X.K X.mg X.base CX k f fd ps sp) (rm : Room k X.A) (gl : Gl X x) (at_ : X.mg x = some (.ref f)) (kp : PySem.W.keepIn X.K (.ref f) = true) (bd : Binds X.K fd ps ds) (dv : Vals dvs ds) (px : Passes CX X E)
    (pa : PA X (e :: es) t) (nd : (x == ("__debug__" : Str)) = false := by decide) (st1 : starEach (e :: es) X.env = (false, eval e X.env) :: starEach es X.env := by rfl) (st2 : (backTo pos (starEach es X.env)).any (·.1) = false := by rfl) :
    PE X (.Call (.Name x p) (e :: es) [] pos) (tCall sp dvs E t) :=
  ⟨fun pins s σ H Q J z => wpAny_Call_Name_kw (ld_glob J gl at_ (PySem.W.callWith_K (h₀ := X.base) J.ok.mod.kin kp (thn (pa.run pos pins s σ H _ J z) fun _ _ ⟨_, _, J1, r1, z1⟩ => ⟨J1.kIn, run_fnG gd F rm bd dv px J1 r1 z1⟩) st1 st2) nd)⟩
end
section
variable {P : Program} {w : World} {K : PySem.W.Frag} {mg : Str → Option Value} {base : Heap}
theorem fnG_of {CX : CXT} {k : Nat} {f : Addr} {nm ql : Str} {pr : Arguments} {bd : List Stmt} {sc : Scope} {dV kV dc pm cv ct oc : Value} {an od : Option Addr} {osl : Array (Option Value)} {N ps : List Str} {sp : Sp}
    (lk : K.lookup f = some ⟨oc, od, .func (PySem.W.fnOf nm ql pr bd sc dV kV dc pm an cv ct), osl⟩) (cd : PySem.W.codeIn K cv ql = true) (S : FnScope N ps sc) (len : ∀ vs H Q E, sp vs H Q E → vs.length = ps.length)
    (body : ∀ (A : Around) (outer : List Env) (s : Shared) (H : Hp) (vs : List V) (Q : VK) (E : XK), A.guards = some [] → Room k (A.deeper (envOfC ql sc s.heap.objs.size f cv)) → sp vs H Q E →
      ∃ t, PSs (cxOf CX P w K mg base N ql sc f cv A outer s H E) bd t ∧ t { nx := fun _ H' => Q .non H', rt := Q } (start N vs) H) : FnG P w K mg base CX (k + 1) f (PySem.W.fnOf nm ql pr bd sc dV kV dc pm an cv ct) ps sp := by
  refine ⟨len, fun A outer s H args us vs Q E gd rm e0 bt rv hs => ?_⟩
  have keepK : K.In s.heap := e0.mod.kin.keeps fun b o z => (e0.bs b o z).1
  have limK : s.heap.NoLimit := e0.mod.nolimit.keeps fun b o z => (e0.bs b o z).1
  have par : ∀ y ∈ ps.zip us, sc.names.lookup y.1 = some .local ∨ (sc.names.lookup y.1 = some .cell ∧ ((cellsFrom (s.heap.objs.size + 1) sc.names []).lookup y.1).isSome = true) := by
    rintro ⟨n, v⟩ hy
    exact (S.par n (List.of_mem_zip hy).1).imp id fun q => ⟨q, PySem.W.cellsFrom_some _ _ _ (.inl q)⟩
  refine codeAny_call_function rm.depth (keepK _ _ lk) rfl S.co S.gen rfl (PySem.W.codeRec_of keepK cd) (bt _ _ _ _ (wpAny_newFunctionEnv_cells S.kind par fun env he s1 x => ?_))
  subst he
  refine ⟨limK.keeps x.toInCall.keep, codeAny_func ?_⟩
  obtain ⟨t, pt, z⟩ := body A outer s H vs Q E gd (rm.deeper _) hs
  have J : Inv (cxOf CX P w K mg base N ql sc f cv A outer s H E) [] (start N vs) H s1 := inv_start S rm.hd e0 (len _ _ _ _ hs) rv x
  refine wpAny_mono (pt.run [] s1 (start N vs) H _ J z) (fun fl s2 q => ?_) fun _ _ q => q
  cases fl with
  | ret u =>
    obtain ⟨v, σ2, H2, J2, r2, q2⟩ := q
    exact ⟨v, H2, J2.os, J2.bare, J2.base, J2.hok, r2, q2⟩
  | next =>
    obtain ⟨σ2, H2, J2, q2⟩ := q
    exact ⟨V.non, H2, J2.os, J2.bare, J2.base, J2.hok, rfl, q2⟩
  | brk => exact (show False from let ⟨_, _, _, z⟩ := q; z).elim
  | cont => exact (show False from let ⟨_, _, _, z⟩ := q; z).elim
theorem _root_.L2.Fun.okG {x qual : Str} {st : Stmt} {f : Addr} {fd : FuncData} {N ps : List Str} {k : Nat} {sp : Sp} (F : Fun K x qual st f fd) (S : FnScope N ps (defScope st)) (len : ∀ vs H Q E, sp vs H Q E → vs.length = ps.length)
    (body : ∀ (cdv : Value) (A : Around) (outer : List Env) (s : Shared) (H : Hp) (vs : List V) (Q : VK) (E : XK), A.guards = some [] → Room k (A.deeper (envOfC qual (defScope st) s.heap.objs.size f cdv)) → sp vs H Q E →
      ∃ t, PSs (cxOf CX0 P w K mg base N qual (defScope st) f cdv A outer s H E).nox (defBody st) t ∧ t { nx := fun _ H' => Q .non H', rt := Q } (start N vs) H) : FnG P w K mg base CX0 (k + 1) f fd ps sp := by
  obtain ⟨_, _, _, _, _, _, cdv, _, _, rfl, lk, cd⟩ := F.ex
  exact fnG_of lk cd S len fun A outer s H vs Q E gd rm hs => let ⟨t, pt, z⟩ := body cdv A outer s H vs Q E gd rm hs; ⟨t, pt.nox, z⟩
theorem DefAtL.okG {x qual : Str} {st : Stmt} {N ps : List Str} {k : Nat} {sp : Sp} (D : DefAtL K mg x qual st ps) (S : FnScope N ps (defScope st)) (len : ∀ vs H Q E, sp vs H Q E → vs.length = ps.length)
    (body : ∀ (A : Around) (outer : List Env) (s : Shared) (H : Hp) (vs : List V) (Q : VK) (E : XK), A.guards = some [] → Room k (A.deeper (envOfC qual (defScope st) s.heap.objs.size D.f (.ref D.c))) → sp vs H Q E →
      ∃ t, PSs (cxOf CX0 P w K mg base N qual (defScope st) D.f (.ref D.c) A outer s H E).nox (defBody st) t ∧ t { nx := fun _ H' => Q .non H', rt := Q } (start N vs) H) : FnG P w K mg base CX0 (k + 1) D.f D.fd ps sp := by
  obtain ⟨_, _, _, _, _, _, _, _, e, lk, cd⟩ := D.ex
  rw [e] at lk ⊢
  exact fnG_of lk cd S len fun A outer s H vs Q E gd rm hs => let ⟨t, pt, z⟩ := body A outer s H vs Q E gd rm hs; ⟨t, pt.nox, z⟩
end
end Vw

set_option Elab.async false
set_option linter.all false
set_option maxRecDepth 100000
set_option maxHeartbeats 1000000
namespace Vw
open PySem PySem.Spec PyProof.Rows L2 RT
/-! ### the law itself called so -/
/-- the places of the script and of the tables: what may be tracked when the law is called -/
def startH (K : PySem.W.Frag) (ts : List Addr) (a : Addr) (vs : List Value) (ns : List Int) : Hp := fun b =>
  if b ∈ ts then some (.tbl #[]) else if b = a ∧ K.lookup a = none then some (.frz { cls := .type "list", data := .seq vs.toArray } (.lst (ns.map V.int))) else none
theorem law_callG {P : Program} {w : World} {K : PySem.W.Frag} {mg mb : Str → Option Value} {CX : CXT} {k : Nat} {fa a : Addr} {cs : List (Addr × Addr)} {fd : FuncData} {x : Str} {sp : Sp} {s1 : Shared} {vs : List Value} {ns : List Int}
    (kin : K.In s1.heap) (gl : s1.heap.Ns mainGlobals mg) (bl : s1.heap.Ns builtinsNs mb) (boot : ∀ y : Str, y ≠ "__name__" → mb y = bootBuiltins y) (lim : s1.heap.NoLimit) (gn : s1.gens = #[])
    (tb : ∀ p ∈ cs, s1.heap.get? p.2 = some { cls := .none, data := .fields #[] }) (tK : ∀ p ∈ cs, K.lookup p.2 = none) (hd : ∀ p ∈ cs, PySem.W.CodeHd s1.heap p.1 p.2)
    (bm : ∃ (m : Addr) (o : Obj), mg "__builtins__" = some (.ref m) ∧ m ≠ builtinsNs ∧ s1.heap.get? m = some o ∧ o.cls = .type "module" ∧ o.dict = some builtinsNs ∧ o.data = .plain)
    (sc : s1.heap.get? a = some { cls := .type "list", data := .seq vs.toArray }) (iv : IntsAre vs ns) (few : ns.length ≤ sizeLine) (rm : Room k callerA)
    (F : ∀ base : Heap, K.In base → base.Ns mainGlobals mg → (∀ p ∈ cs, LamX.TabB base mg p.1 p.2) → FnG P w K mg base CX k fa fd [x] sp) (bt : ∀ (s : Shared) (u : Value), BindsTo s fd ⟨[u], []⟩ [(x, u)])
    (ask : ∀ H : Hp, (∀ p ∈ cs, H p.2 = some (.tbl #[])) → SqL K H a (ns.map V.int) → sp [.ref a] H (fun v _ => v = .bl true) fun _ _ _ => False)
    (noE : ∀ H e s2, CX [] H s1 (fun _ _ _ => False) e s2 → False) :
    codeAny (model P w) callerA (.call (.ref fa) ⟨[.ref a], []⟩) (fun r s2 => r = .ok (.ret (.bool true)) ∧ OldK s1.heap s2.heap ∧ s2.os = s1.os ∧ AllBare s2.gens) s1 := by
  obtain ⟨ts, ets⟩ : ∃ ts : List Addr, ts = cs.map (·.2) := ⟨_, rfl⟩
  have inT : ∀ p ∈ cs, p.2 ∈ ts := fun p hp => ets ▸ List.mem_map.mpr ⟨p, hp, rfl⟩
  have ofT : ∀ b ∈ ts, ∃ p ∈ cs, p.2 = b := fun b hb => List.mem_map.mp (ets ▸ hb)
  have objT : ∀ b ∈ ts, s1.heap.get? b = some { cls := .none, data := .fields #[] } := fun b hb => let ⟨p, hp, z⟩ := ofT b hb; z ▸ tb p hp
  have aT : a ∉ ts := fun hb => by
    have z := (objT a hb).symm.trans sc
    exact nomatch (show Data.fields #[] = Data.seq vs.toArray 0 from congrArg Obj.data (Option.some.inj z))
  obtain ⟨H, eH⟩ : ∃ H : Hp, H = startH K ts a vs ns := ⟨_, rfl⟩
  have hT : ∀ b ∈ ts, H b = some (.tbl #[]) := fun b hb => by rw [eH]; exact if_pos hb
  have cases_ : ∀ b, (b ∈ ts) ∨ (b = a ∧ K.lookup a = none ∧ H b = some (.frz { cls := .type "list", data := .seq vs.toArray } (.lst (ns.map V.int)))) ∨ (b ∉ ts ∧ H b = none) := fun b => by
    by_cases h1 : b ∈ ts
    · exact .inl h1
    · by_cases h2 : b = a ∧ K.lookup a = none
      · exact .inr (.inl ⟨h2.1, h2.2, by rw [eH]; exact (if_neg h1).trans (if_pos h2)⟩)
      · exact .inr (.inr ⟨h1, by rw [eH]; exact (if_neg h1).trans (if_neg h2)⟩)
  -- what is no list and no table is not tracked
  have off : ∀ {b : Addr} {o : Obj}, s1.heap.get? b = some o → (∀ us n, o.data ≠ .seq us n) → o.data ≠ .fields #[] → H b = none := fun {b o} e n1 n2 => by
    rcases cases_ b with z | ⟨z, _, _⟩ | z
    · rw [objT b z] at e; cases e; exact absurd rfl n2
    · rw [z, sc] at e; cases e; exact absurd rfl (n1 _ _)
    · exact z.2
  have offD : ∀ {b : Addr} {o : Obj} {es : Array DictEntry} {ep : Nat}, s1.heap.get? b = some o → o.data = .dict es ep → H b = none := fun e d => off e (fun _ _ z => nomatch d.symm.trans z) fun z => nomatch d.symm.trans z
  have ns_ : ∀ {b : Addr} {m : Str → Option Value}, s1.heap.Ns b m → (hidT s1.heap H).Ns b m := fun ⟨o, es, ep, e, d, r⟩ => ⟨o, es, ep, hidT_get e (offD e d), d, r⟩
  have kinB : K.In (hidT s1.heap H) := fun b o e => by
    refine hidT_get (kin b o e) ?_
    rcases cases_ b with z | ⟨z, z2, _⟩ | z
    · obtain ⟨p, hp, ep⟩ := ofT b z
      rw [← ep, tK p hp] at e; cases e
    · rw [z, z2] at e; cases e
    · exact z.2
  have tabB : ∀ p ∈ cs, LamX.TabB (hidT s1.heap H) mg p.1 p.2 := fun p hp => by
    refine ⟨?_, ?_, fun z => ?_⟩
    · obtain ⟨o, us, file, tf, flags, tg, inF, text, tt, e1, r1, r2, r3, rr⟩ := hd p hp
      refine ⟨o, us, file, tf, flags, tg, inF, text, tt, hidT_get e1 (off e1 (fun _ _ z => nomatch r2.symm.trans z) fun z => ?_), r1, r2, r3, rr⟩
      obtain rfl : us = #[] := Data.fields.inj (r2.symm.trans z)
      simp at r3
    · obtain ⟨m, o, b1, b2, b3, b4, b5, b6⟩ := bm
      have n1 : m ≠ mainGlobals := fun z => by
        obtain ⟨o2, es, ep, e2, d2, _⟩ := gl
        rw [z, e2] at b3; cases b3
        exact nomatch d2.symm.trans b6
      have n2 : m ≠ p.2 := fun z => by
        rw [z, tb p hp] at b3; cases b3; cases b6
      exact ⟨m, o, b1, b2, n1, n2, hidT_get b3 (off b3 (fun _ _ z => nomatch b6.symm.trans z) fun z => nomatch b6.symm.trans z), b4, b5, b6⟩
    · obtain ⟨o2, es, ep, e2, d2, _⟩ := gl
      rw [z, tb p hp] at e2; cases e2; cases d2
  have sq : SqL K H a (ns.map V.int) := by
    cases q : K.lookup a with
    | none =>
      refine .inl (.inr ⟨{ cls := .type "list", data := .seq vs.toArray }, ?_⟩)
      rw [eH]
      exact (if_neg aT).trans (if_pos ⟨rfl, q⟩)
    | some o =>
      have z := (kin a o q).symm.trans sc
      cases z
      exact .inr ⟨_, vs.toArray, _, q, rfl, rfl, rfl, by rw [List.size_toArray, iv.length]; exact few, by simpa using vals_ints iv⟩
  have hok : HOk P w H s1.heap := fun b u e => by
    rcases cases_ b with z | ⟨z, _, z3⟩ | z
    · rw [hT b z] at e; cases e; exact objT b z
    · rw [z3] at e; cases e
      rw [z]
      exact ⟨sc, by rw [List.length_map]; exact few, vs, _, vals_ints iv, sc⟩
    · rw [z.2] at e; cases e
  have e0 : Env0 P w K mg (hidT s1.heap H) callerA [] s1 H := ⟨rfl, ⟨kinB, ns_ gl, ⟨mb, ns_ bl, boot⟩, let ⟨mc, l1, l2⟩ := lim; ⟨mc, ns_ l1, l2⟩⟩, fun b o e => of_hidT e, Nat.le_of_eq (hidT_size _ _), trivial, fun b hb => (List.not_mem_nil hb).elim, hok, .of_eq gn⟩
  refine codeAny_mono ((F _ kinB (ns_ gl) tabB).run callerA [] s1 H ⟨[.ref a], []⟩ [.ref a] [.ref a] _ _ rfl rm e0 (bt s1 (.ref a)) (.cons rfl .nil) (ask H (fun p hp => hT _ (inT p hp)) sq)) fun r s2 z => ?_
  cases r with
  | error e => exact (noE H e s2 z).elim
  | ok fl =>
    cases fl with
    | next => exact (show False from z).elim
    | brk => exact (show False from z).elim
    | cont => exact (show False from z).elim
    | ret u =>
      obtain ⟨v, H2, os, bare, un, hok2, rv, q⟩ := z
      have q : v = .bl true := q
      subst q
      obtain rfl : u = Value.bool true := rv
      have stay : ∀ b o, b ∉ ts → s1.heap.get? b = some o → s2.heap.get? b = some o := fun b o nb e => by
        rcases cases_ b with z | ⟨_, _, z3⟩ | z
        · exact absurd z nb
        · have f1 := (hok b _ z3).1
          have f2 := (hok2 b _ (un.frzs b _ _ z3)).1
          rw [f1] at e
          rw [f2, ← e]
        · exact un.keep b o e z.2 (fun y => List.not_mem_nil (show b ∈ ([] : List Addr) from y)) (fun y => List.not_mem_nil y)
      have grow : ∀ b ∈ ts, ∃ more : Array Value, s2.heap.get? b = some { cls := .none, data := .fields more } := fun b hb => let ⟨more, z⟩ := un.tbls b #[] (hT b hb); ⟨_, hok2 b _ z⟩
      refine ⟨rfl, ⟨fun b o e => ?_, fun b o e => ?_⟩, os, bare⟩
      · by_cases hb : b ∈ ts
        · obtain ⟨p, hp, ep⟩ := ofT b hb
          obtain ⟨more, hm⟩ := grow b hb
          have e2 := (objT b hb).symm.trans e
          cases e2
          refine .inr (.inl ⟨?_, rfl, #[], more, rfl, by rw [Array.empty_append]; exact hm⟩)
          rw [← ep]
          exact ((hd p hp).tab (tb p hp)).isCodeTable
        · exact .inl (stay b o hb e)
      · by_cases hb : b ∈ ts
        · exact let ⟨more, hm⟩ := grow b hb; ⟨_, hm⟩
        · exact ⟨o, stay b o hb e⟩
def LawAtG (l : PySem.W.OpenLaw) (w : World) (K : PySem.W.Frag) (CX : CXT) (k n : Nat) (x : Str) (mg : Str → Option Value) (fa : Addr) (h : Heap) : Prop :=
  ∃ (fd : FuncData) (cs : List (Addr × Addr)) (sp : Sp), (∀ p ∈ cs, h.get? p.2 = some { cls := .none, data := .fields #[] } ∧ K.lookup p.2 = none ∧ PySem.W.CodeHd h p.1 p.2) ∧ (∀ (s : Shared) (u : Value), BindsTo s fd ⟨[u], []⟩ [(x, u)]) ∧
    (∀ (H : Hp) (a : Addr) (ns : List Int), ns.length ≤ n → (∀ p ∈ cs, H p.2 = some (.tbl #[])) → SqL K H a (ns.map V.int) → sp [.ref a] H (fun v _ => v = .bl true) fun _ _ _ => False) ∧
    ∀ base : Heap, K.In base → base.Ns mainGlobals mg → (∀ p ∈ cs, LamX.TabB base mg p.1 p.2) → FnG l.prog w K mg base CX k fa fd [x] sp
theorem walk_ofG {l : PySem.W.OpenLaw} {n k : Nat} {q : Program} {loose : List Str} {XP : (Str → Option Value) → Heap → Prop} {YP : World → Heap → Prop} {d : DefRec} {K : Params → PySem.W.Frag} {CX : World → CXT} {x : Str}
    (most : l.most = some n) (small : n ≤ sizeLine) (nodf : d.params.defaults = []) (rm : Room k callerA) (says : ∀ (w : World) (h : Heap), YP w h → (K w.params).In h)
    (F : ∀ (w : World) (mg : Str → Option Value) (fa : Addr) (h : Heap), YP w h → (K w.params).In h → h.Ns mainGlobals mg → mg d.name = some (.ref fa) →
      (∀ (y : Str) (e : DefRec) (c P : Addr), (recsOf q).find? (fun e => e.name == y) = some e → PySem.W.tabIn (K w.params) y = some (c, P) → PySem.W.CodeHd h c P ∧ h.get? P = some { cls := .none, data := .fields #[] }) → LawAtG l w (K w.params) (CX w) k n x mg fa h)
    (noE : ∀ (w : World) (H : Hp) (s : Shared) (e : Value) (s2 : Shared), CX w [] H s (fun _ _ _ => False) e s2 → False) : PySem.W.WalkO q loose XP YP l.row.toRowW d [] (fun f vs => PySem.call f vs) :=
  Att.attach_callB most nodf fun w _ s1 mg mb fa _ _ _ _ a vs ns G Y _ _ _ at_ sc iv few _ gn => by
    have kin := says w _ Y
    obtain ⟨fd, cs, sp, T, bt, ask, FF⟩ := F w mg fa _ Y kin G.T.g at_ fun y e c P e1 e2 => PySem.W.tab_of G.T kin e1 e2
    exact law_callG kin G.T.g G.T.b G.T.builtins G.T.nolimit gn (fun p hp => (T p hp).1) (fun p hp => (T p hp).2.1) (fun p hp => (T p hp).2.2) G.T.bmain sc iv (Nat.le_trans few small) rm FF bt (fun H tH sH => ask H a ns few tH sH) fun H e s2 => noE w H s1 e s2
end Vw

set_option Elab.async false
set_option linter.all false
set_option maxRecDepth 100000
set_option maxHeartbeats 4000000
namespace Vw
open PySem PySem.Spec PyProof.Rows L2 RT
/-! ### d.update(e) -/
def rUpd : V → List V → Hp → VK → Prop := fun x vs H Q => ∃ d e kvs more, x = .ref d ∧ vs = [.ref e] ∧ H d = some (.dK kvs) ∧ H e = some (.dK more) ∧ d ≠ e ∧ kvs.length + more.length ≤ 10000 ∧ Q .non (upd H d (.dK (mergeK kvs more)))
theorem mt_upd {X : Cx} : MtR X "dict.update" rUpd := by
  intro pins s σ H x vs v us Q I rx rv h
  obtain ⟨d, e, kvs, more, rfl, rfl, hd, he, hne, hz, q⟩ := h
  cases rx
  obtain ⟨u, rfl, ru⟩ := rv.one
  cases ru
  obtain ⟨z, lo, va, rel, dd⟩ := dk_of I.hok hd
  obtain ⟨z2, lo2, vb, rel2, dd2⟩ := dk_of I.hok he
  have big : (10000 : Nat) ≤ sizeLine := by decide
  have l1 := rel.length
  have l2 := rel2.length
  refine call_meetsIn PySem.F.slot_dict_update dd.typeIs PySem.F.entry_dict_update (PySem.F.args_dict_update_2 _ _) (meets_dict_update (mixKind X.prog X.w) d e hne lo2)
    ⟨va, vb, dd, dd2, by omega, fun h' dd' _ hs => ?_⟩
  have he' : ∃ q, h'.get? d = some q := let ⟨q, _, _, hq, _⟩ := dd'; ⟨q, hq⟩
  have hlen : (mergeK kvs more).length ≤ sizeLine := by
    have := length_mergeK more kvs
    omega
  exact ⟨.non, _, d_write (t' := s.toks) I (by rw [hd]; exact True.intro) hs he' (dk_new hlen lo (KV.merge rel2 rel) dd'), rfl, q⟩
theorem peUpd {X : Cx} {K : PySem.W.Frag} {o ex : Expr} {to te : TE} {apos cpos : Pos} {r : V → List V → Hp → VK → Prop} (h : PE X (.Call (.Attribute o "update" apos) [ex] [] cpos) (tBM X.K "dict" r to (tCons te tNil))) (e : X.K = K := by rfl) :
    PE X (.Call (.Attribute o "update" apos) [ex] [] cpos) (tBM K "dict" r to (tCons te tNil)) := by cases e; exact h
theorem ty_dK {K : PySem.W.Frag} {a : Addr} {H : Hp} {kvs : List (Key × V)} (h : H a = some (.dK kvs)) : tyV K "dict" (.ref a) H := .inr (.inr (.inl ⟨rfl, .inl ⟨kvs, h⟩⟩))
theorem o_upd {H : Hp} {d e : Addr} {kvs more : List (Key × V)} {Q : VK} (hd : H d = some (.dK kvs)) (he : H e = some (.dK more)) (ne : d ≠ e) (l : kvs.length + more.length ≤ 10000) (q : ∀ H2, Oth d H H2 → H2 d = some (.dK (mergeK kvs more)) → Q .non H2) : rUpd (.ref d) [.ref e] H Q :=
  ⟨d, e, kvs, more, rfl, rfl, hd, he, ne, l, q _ (fun b o nb z => by rw [upd_ne nb]; exact z) upd_same⟩
theorem upd_len {kvs more : List (Key × V)} (h : kvs.length + more.length ≤ 10000) : kvs.length + (mergeK [] more).length ≤ 10000 := by
  have := length_mergeK more []
  rw [List.length_nil] at this
  omega
/-! ### {k: v, ..} -/
def DispE (p : Addr) (Q : VK) (ps : List (V × V)) (H2 : Hp) : Prop := H2 p = some (.dK []) ∧ ∃ kvs : List (Key × V), ps = kvs.map (fun kv => (kV kv.1, kv.2)) ∧ kvs.length ≤ 15 ∧ Q (.ref p) (upd H2 p (.dK (mergeK [] kvs)))
theorem e_disp {trs : List (TE × TE)} {σ : L2.St} {H : Hp} {Q : VK} (h : ∀ p H1, H p = none → Same H H1 → H1 p = some (.dK []) → tPairs trs σ H1 (DispE p Q)) : tDisp trs σ H Q := fun p n => h p _ n (Same.new n) upd_same
theorem disp_end {p : Addr} {Q : VK} {ps : List (V × V)} {H2 : Hp} (kvs : List (Key × V)) (h : H2 p = some (.dK [])) (e : ps = kvs.map (fun kv => (kV kv.1, kv.2))) (l : kvs.length ≤ 15) (q : ∀ H3, Oth p H2 H3 → H3 p = some (.dK (mergeK [] kvs)) → Q (.ref p) H3) : DispE p Q ps H2 :=
  ⟨h, kvs, e, l, q _ (fun b o nb z => by rw [upd_ne nb]; exact z) upd_same⟩
/-! ### repr of data without dicts -/
namespace Rp
mutual
def okD : PyData → Bool
  | .none => true
  | .bool _ => true
  | .int i => decide (i.natAbs < 10 ^ 39)
  | .str x => x.cps.all (· < 0x110000)
  | .list xs => okAll xs
  | .tuple xs => okAll xs
  | .dict _ => false
def okAll : List PyData → Bool
  | [] => true
  | x :: xs => okD x && okAll xs
end
theorem okAll_of {xs : List PyData} (h : ∀ x ∈ xs, okD x = true) : okAll xs = true := by
  induction xs with
  | nil => rfl
  | cons x xs ih =>
    show (okD x && okAll xs) = true
    rw [h x (by simp), ih fun y hy => h y (List.mem_cons_of_mem _ hy)]; rfl
theorem log_lt {n : Nat} (h : n < 10 ^ 39) : n.log2 < 1920 := by
  by_cases z : n = 0
  · subst z; decide
  · refine (Nat.log2_lt z).mpr (Nat.lt_of_lt_of_le h ?_)
    decide +kernel
mutual
theorem ok_facts : ∀ d : PyData, okD d = true → d.canLay0 = true ∧ d.showable = true ∧ d.intsShort 40 = true
  | .none, _ => ⟨rfl, by simp only [PyData.showable], rfl⟩
  | .bool _, _ => ⟨rfl, by simp only [PyData.showable], rfl⟩
  | .int i, h => by
    have h : i.natAbs < 10 ^ 39 := of_decide_eq_true h
    refine ⟨rfl, by simp only [PyData.showable, decide_eq_true (log_lt h)], ?_⟩
    show decide ((PyData.shown (.int i)).length ≤ 40) = true
    refine decide_eq_true ?_
    show (Str.ofString (toString i)).length ≤ 40
    rw [PySem.ofString_length]
    exact int_text_length_le10 (k := 39) (by decide) h
  | .str x, h => ⟨h, by simp only [PyData.showable], rfl⟩
  | .list xs, h => by
    obtain ⟨a, b, c⟩ := okAll_facts xs h
    exact ⟨by simpa only [PyData.canLay0] using a, by simpa only [PyData.showable] using b, by simpa only [PyData.intsShort] using c⟩
  | .tuple xs, h => by
    obtain ⟨a, b, c⟩ := okAll_facts xs h
    exact ⟨by simpa only [PyData.canLay0] using a, by simpa only [PyData.showable] using b, by simpa only [PyData.intsShort] using c⟩
  | .dict _, h => nomatch h
theorem okAll_facts : ∀ xs : List PyData, okAll xs = true → PyData.canLayAll0 xs = true ∧ PyData.showableAll xs = true ∧ PyData.intsShortAll 40 xs = true
  | [], _ => ⟨rfl, by simp only [PyData.showableAll], rfl⟩
  | x :: xs, h => by
    have h : (okD x && okAll xs) = true := h
    rw [Bool.and_eq_true] at h
    obtain ⟨a, b, c⟩ := ok_facts x h.1
    obtain ⟨a2, b2, c2⟩ := okAll_facts xs h.2
    exact ⟨by simp only [PyData.canLayAll0, a, a2, Bool.and_self], by simp only [PyData.showableAll, b, b2, Bool.and_self], by simp only [PyData.intsShortAll, c, c2, Bool.and_self]⟩
end
theorem ok_fits {d : PyData} (h : okD d = true) (w : d.weight ≤ 390000) : d.shown.length ≤ sizeLine := by
  obtain ⟨a, b, c⟩ := ok_facts d h
  have := PyData.shown_le 40 (by decide) d (PyData.leavesShort_of_canLay0 40 d a c)
  rw [sizeLine_eq]
  omega
theorem weight_all {m : Nat} : ∀ {xs : List PyData}, (∀ x ∈ xs, x.weight + 1 ≤ m) → PyData.weightAll xs ≤ m * xs.length
  | [], _ => by simp only [PyData.weightAll]; omega
  | x :: xs, h => by
    have h1 := h x (by simp)
    have h2 := weight_all (xs := xs) fun y hy => h y (List.mem_cons_of_mem _ hy)
    simp only [PyData.weightAll, List.length_cons]
    rw [Nat.mul_add, Nat.mul_one]
    omega
theorem weight_int {i : Int} (h : i.natAbs < 10 ^ 39) : (PyData.int i).weight ≤ 130 := by
  show (if i == 0 then 0 else i.natAbs.log2 + 1) ≤ 130
  split
  · omega
  · next z =>
    have z0 : i.natAbs ≠ 0 := by
      intro e
      exact z (by rw [Int.natAbs_eq_zero.mp e]; rfl)
    have : i.natAbs.log2 < 130 := (Nat.log2_lt z0).mpr (Nat.lt_of_lt_of_le h (by decide +kernel))
    omega
end Rp
/-- repr(x) of data -/
def rRepr (K : PySem.W.Frag) : List V → Hp → VK → Prop := fun vs H Q => ∃ a d, vs = [.ref a] ∧ Dp K H (.ref a) d ∧ Rp.okD d = true ∧ d.depth ≤ 20 ∧ d.weight ≤ 390000 ∧ Q (.str d.shown) H
theorem call_reprG {X : Cx} (gd : X.A.guards = some []) (hu : X.A.units + 64 < cLine) : CallR X (.builtin "repr") (rRepr X.K) := by
  intro pins s σ H xs us Q I r h
  obtain ⟨a, d, rfl, hd, ok, dp, hw, q⟩ := h
  obtain rfl := Vals.ref1 r
  obtain ⟨as, rd⟩ := Dp.reads I d (.ref a) (.ref a) hd rfl
  obtain ⟨cl, sh, _⟩ := Rp.ok_facts d ok
  exact repr_of_reads' rd sh (PyData.noDict_hsm (PyData.hasDict_of_canLay d cl)) gd (by omega) (fun _ _ z => z) (fun h' u tk k => ⟨.str d.shown, H, I.kept (t' := tk) k, ⟨u, rfl⟩, q⟩) (Rp.ok_fits ok hw)
theorem cReprG {K : PySem.W.Frag} {X : Cx} (gd : X.A.guards = some []) (hu : X.A.units + 64 < cLine) (e : X.K = K := by rfl) : CallR X (.builtin "repr") (rRepr K) := by cases e; exact call_reprG gd hu
end Vw

set_option Elab.async false
set_option linter.all false
set_option maxRecDepth 100000
set_option maxHeartbeats 1000000
namespace Vw
open PySem PySem.Spec PyProof.Rows L2 RT
/-! ### data, dicts among them -/
def keyD : Key → PyData
  | .inl i => .int i
  | .inr x => .str x
mutual
inductive Dq (K : PySem.W.Frag) (N : Addr → Prop) (H : Hp) : V → PyData → Prop
  | non : Dq K N H .non .none
  | bl (b : Bool) : Dq K N H (.bl b) (.bool b)
  | int (i : Int) : Dq K N H (.int i) (.int i)
  | str (x : Str) : Dq K N H (.str x) (.str x)
  | lst {a : Addr} {xs : List V} {ds : List PyData} : SqL K H a xs → N a → DqAll K N H xs ds → Dq K N H (.ref a) (.list ds)
  | tup {a : Addr} {xs : List V} {ds : List PyData} : SqT K H a xs → DqAll K N H xs ds → Dq K N H (.ref a) (.tuple ds)
  | dct {a : Addr} {kvs : List (Key × V)} {D : List (PyData × PyData)} : H a = some (.dK kvs) → N a → D.map (·.1) = kvs.map (fun p => keyD p.1) → DqAll K N H (kvs.map (·.2)) (D.map (·.2)) → Dq K N H (.ref a) (.dict D)
inductive DqAll (K : PySem.W.Frag) (N : Addr → Prop) (H : Hp) : List V → List PyData → Prop
  | nil : DqAll K N H [] []
  | cons {v : V} {vs : List V} {d : PyData} {ds : List PyData} : Dq K N H v d → DqAll K N H vs ds → DqAll K N H (v :: vs) (d :: ds)
end
section
variable {X : Cx} {pins : List (Addr × Obj)} {σ : L2.St} {H : Hp} {s : Shared} {N : Addr → Prop}
theorem keys_read {P : Program} {w : World} {h : Heap} : ∀ {es : List DictEntry} {kvs : List (Key × V)} {vs : List (Key × Value)}, Pairs (mixKind P w) es vs → KV kvs vs → ReadsAll h (es.map (·.key)) (kvs.map fun p => keyD p.1) [] ∧ Vals (kvs.map (·.2)) (es.map (·.val))
  | _, _, _, .nil, r => by
    cases r
    exact ⟨.nil, .nil⟩
  | e :: es, _, _, .cons h1 h2 p, r => by
    cases r with
    | @cons a b l1 l2 r1 r =>
    obtain ⟨e1, e2⟩ := r1
    obtain ⟨q1, q2⟩ := keys_read p r
    refine ⟨?_, .cons (by show L2.RelV a.2 e.val; rw [h2]; exact e2) q2⟩
    rw [← e1] at h1
    rcases keyIs_shape h1 with ⟨i, t, z1, z2⟩ | ⟨x, t, z1, z2⟩
    · show ReadsAll h (e.key :: _) (keyD a.1 :: _) ([] ++ [])
      rw [z1, z2]
      exact .cons (.int i t) q1
    · show ReadsAll h (e.key :: _) (keyD a.1 :: _) ([] ++ [])
      rw [z1, z2]
      exact .cons (.str x t) q1
/-- the place of the modules' dict is known -/
def SysK (K : PySem.W.Frag) : Prop := ∃ o, K.lookup sysModules = some o ∧ o.cls = .type "dict"
mutual
theorem Dq.reads (I : Inv X pins σ H s) (S : SysK X.K) : ∀ (d : PyData) (v : V) (u : Value), Dq X.K N H v d → RelV v u → ∃ as, Reads s.heap u d as ∧ sysModules ∉ as
  | .none, _, _, h, r => by
    cases h
    cases r
    exact ⟨_, Reads.none, by simp⟩
  | .bool b, _, _, h, r => by
    cases h
    cases r
    exact ⟨_, Reads.bool b, by simp⟩
  | .int i, _, _, h, r => by
    cases h
    obtain ⟨t, rfl⟩ := r
    exact ⟨_, Reads.int i t, by simp⟩
  | .str x, _, _, h, r => by
    cases h
    obtain ⟨t, rfl⟩ := r
    exact ⟨_, Reads.str x t, by simp⟩
  | .list ds, _, _, h, r => by
    cases h with
    | lst hs _ ha =>
      cases r
      obtain ⟨its, rv, ⟨o, n, ho, hc, _, hd⟩, _⟩ := I.list hs
      obtain ⟨as, hr, nm⟩ := Dq.readsAll I S ds _ its ha rv
      refine ⟨_, Reads.list ho hc hd hr, fun m => (List.mem_cons.mp m).elim (fun z => ?_) nm⟩
      obtain ⟨o2, l2, c2⟩ := S
      have := I.kIn _ o2 l2
      rw [z, ho] at this
      cases this
      rw [hc] at c2
      exact absurd c2 (by decide)
  | .tuple ds, _, _, h, r => by
    cases h with
    | tup hs ha =>
      cases r
      obtain ⟨its, rv, ⟨o, ho, hc, n, hd⟩, _⟩ := I.tuple hs
      obtain ⟨as, hr, nm⟩ := Dq.readsAll I S ds _ its ha rv
      exact ⟨_, Reads.tuple ho hc hd hr, nm⟩
  | .dict D, _, _, h, r => by
    cases h with
    | @dct a kvs _ hd _ hk hv =>
      cases r
      obtain ⟨_, ne, vs, kv, o, es, ep, ho, hc, hdt, _, hp, _⟩ := dk_of I.hok hd
      obtain ⟨k1, k2⟩ := keys_read (h := s.heap) hp kv
      obtain ⟨bs, hr, nm⟩ := Dq.readsKv I S D _ _ hv k2
      rw [← hk] at k1
      refine ⟨_, Reads.dict ho hc.1 hdt k1 hr, fun m => ?_⟩
      rcases List.mem_append.mp m with m | m
      · rcases List.mem_cons.mp m with z | z
        · rw [← z] at ne
          simp at ne
        · cases z
      · exact nm m
theorem Dq.readsKv (I : Inv X pins σ H s) (S : SysK X.K) : ∀ (D : List (PyData × PyData)) (vs : List V) (us : List Value), DqAll X.K N H vs (D.map (·.2)) → Vals vs us → ∃ as, ReadsAll s.heap us (D.map (·.2)) as ∧ sysModules ∉ as
  | [], _, _, h, r => by
    cases h
    cases r
    exact ⟨_, ReadsAll.nil, by simp⟩
  | (k, d) :: D, _, _, h, r => by
    cases h with
    | cons h1 h2 =>
      cases r with
      | cons r1 r2 =>
        obtain ⟨as, q1, n1⟩ := Dq.reads I S d _ _ h1 r1
        obtain ⟨bs, q2, n2⟩ := Dq.readsKv I S D _ _ h2 r2
        exact ⟨_, ReadsAll.cons q1 q2, fun m => (List.mem_append.mp m).elim n1 n2⟩
theorem Dq.readsAll (I : Inv X pins σ H s) (S : SysK X.K) : ∀ (ds : List PyData) (vs : List V) (us : List Value), DqAll X.K N H vs ds → Vals vs us → ∃ as, ReadsAll s.heap us ds as ∧ sysModules ∉ as
  | [], _, _, h, r => by
    cases h
    cases r
    exact ⟨_, ReadsAll.nil, by simp⟩
  | d :: ds, _, _, h, r => by
    cases h with
    | cons h1 h2 =>
      cases r with
      | cons r1 r2 =>
        obtain ⟨as, q1, n1⟩ := Dq.reads I S d _ _ h1 r1
        obtain ⟨bs, q2, n2⟩ := Dq.readsAll I S ds _ _ h2 r2
        exact ⟨_, ReadsAll.cons q1 q2, fun m => (List.mem_append.mp m).elim n1 n2⟩
end
end
/-- repr(x) of data, dicts among them -/
def rReprA (K : PySem.W.Frag) : List V → Hp → VK → Prop := fun vs H Q => ∃ x N d, vs = [x] ∧ Dq K N H x d ∧ d.showable = true ∧ d.depth ≤ 40 ∧ d.shown.length ≤ sizeLine ∧ Q (.str d.shown) H
theorem call_reprA {X : Cx} (S : SysK X.K) (gd : X.A.guards = some []) (hu : X.A.units + 64 < cLine) : CallR X (.builtin "repr") (rReprA X.K) := by
  intro pins s σ H xs us Q I r h
  obtain ⟨x, N, d, rfl, hd, sh, dp, sz, q⟩ := h
  obtain ⟨u, rfl, rv⟩ := vals1 r
  have big : ∀ {a : Addr}, u = .ref a → Dq X.K N H x d → wpAny (model X.prog X.w) X.A (call (.builtin "repr") [u]) (EP X pins σ Q) X.xe s := fun {a} e hd => by
    obtain ⟨as, rd, nm⟩ := Dq.reads I S d x u hd rv
    rw [e] at rd ⊢
    exact repr_of_reads' rd sh (fun _ => nm) gd (by omega) (fun _ _ z => z) (fun h' u tk k => ⟨.str d.shown, H, I.kept (t' := tk) k, ⟨u, rfl⟩, q⟩) sz
  cases hd with
  | non =>
    cases rv
    exact P.repr_of_none ⟨.str _, H, I.tok _, ⟨_, rfl⟩, q⟩
  | bl b =>
    cases rv
    exact P.repr_of_bool ⟨.str _, H, I.tok _, ⟨_, rfl⟩, q⟩
  | int i =>
    obtain ⟨t, rfl⟩ := rv
    exact P.repr_of_int (by simpa [PyData.showable] using sh) ⟨.str _, H, I.tok _, ⟨_, rfl⟩, q⟩
  | str z =>
    obtain ⟨t, rfl⟩ := rv
    exact P.repr_of_str ⟨.str _, H, I.tok _, ⟨_, rfl⟩, q⟩ sz
  | lst a c b => cases rv; exact big rfl (.lst a c b)
  | tup a b => cases rv; exact big rfl (.tup a b)
  | dct a z b c => cases rv; exact big rfl (.dct a z b c)
theorem cReprA {K : PySem.W.Frag} {X : Cx} (S : SysK K) (gd : X.A.guards = some []) (hu : X.A.units + 64 < cLine) (e : X.K = K := by rfl) : CallR X (.builtin "repr") (rReprA K) := by cases e; exact call_reprA S gd hu
/-! ### what keeps data -/
section
variable {K : PySem.W.Frag} {N : Addr → Prop} {H H' : Hp}
mutual
theorem Dq.mv (k1 : ∀ a xs, N a → SqL K H a xs → SqL K H' a xs) (k2 : ∀ a xs, SqT K H a xs → SqT K H' a xs) (k3 : ∀ a kvs, N a → H a = some (.dK kvs) → H' a = some (.dK kvs)) : ∀ (d : PyData) (x : V), Dq K N H x d → Dq K N H' x d
  | .none, _, h => by cases h; exact .non
  | .bool _, _, h => by cases h; exact .bl _
  | .int _, _, h => by cases h; exact .int _
  | .str _, _, h => by cases h; exact .str _
  | .list ds, _, h => by
    cases h with
    | lst a n b => exact .lst (k1 _ _ n a) n (Dq.mvAll k1 k2 k3 ds _ b)
  | .tuple ds, _, h => by
    cases h with
    | tup a b => exact .tup (k2 _ _ a) (Dq.mvAll k1 k2 k3 ds _ b)
  | .dict D, _, h => by
    cases h with
    | dct a n b c => exact .dct (k3 _ _ n a) n b (Dq.mvKv k1 k2 k3 D _ c)
theorem Dq.mvKv (k1 : ∀ a xs, N a → SqL K H a xs → SqL K H' a xs) (k2 : ∀ a xs, SqT K H a xs → SqT K H' a xs) (k3 : ∀ a kvs, N a → H a = some (.dK kvs) → H' a = some (.dK kvs)) : ∀ (D : List (PyData × PyData)) (xs : List V), DqAll K N H xs (D.map (·.2)) → DqAll K N H' xs (D.map (·.2))
  | [], _, h => by cases h; exact .nil
  | (_, d) :: D, _, h => by
    cases h with
    | cons a b => exact .cons (Dq.mv k1 k2 k3 d _ a) (Dq.mvKv k1 k2 k3 D _ b)
theorem Dq.mvAll (k1 : ∀ a xs, N a → SqL K H a xs → SqL K H' a xs) (k2 : ∀ a xs, SqT K H a xs → SqT K H' a xs) (k3 : ∀ a kvs, N a → H a = some (.dK kvs) → H' a = some (.dK kvs)) : ∀ (ds : List PyData) (xs : List V), DqAll K N H xs ds → DqAll K N H' xs ds
  | [], _, h => by cases h; exact .nil
  | d :: ds, _, h => by
    cases h with
    | cons a b => exact .cons (Dq.mv k1 k2 k3 d _ a) (Dq.mvAll k1 k2 k3 ds _ b)
end
theorem Dq.same {d : PyData} {x : V} (h : Dq K N H x d) (s : Same H H') : Dq K N H' x d := Dq.mv (fun _ _ _ => sl_ s) (fun _ _ => st_ s) (fun _ _ _ z => s _ _ z) d x h
theorem DqAll.same {ds : List PyData} {xs : List V} (h : DqAll K N H xs ds) (s : Same H H') : DqAll K N H' xs ds := Dq.mvAll (fun _ _ _ => sl_ s) (fun _ _ => st_ s) (fun _ _ _ z => s _ _ z) ds xs h
theorem DqAll.len : ∀ {ds : List PyData} {xs : List V}, DqAll K N H xs ds → xs.length = ds.length
  | [], _, h => by cases h; rfl
  | d :: ds, _, h => by
    cases h with
    | cons a b => rw [List.length_cons, List.length_cons, b.len]
theorem DqAll.get : ∀ {ds : List PyData} {xs : List V} {i : Nat} {x : V}, DqAll K N H xs ds → xs[i]? = some x → ∃ d, ds[i]? = some d ∧ Dq K N H x d
  | [], _, i, x, h, e => by cases h; cases e
  | d :: ds, _, i, x, h, e => by
    cases h with
    | cons a b =>
      cases i with
      | zero => cases e; exact ⟨d, rfl, a⟩
      | succ i => exact b.get e
def tyD : PyData → String
  | .none => "NoneType" | .bool _ => "bool" | .int _ => "int" | .str _ => "str" | .list _ => "list" | .tuple _ => "tuple" | .dict _ => "dict"
theorem dq_ty {d : PyData} {x : V} (h : Dq K N H x d) : TyX K H x (.type (tyD d)) := by
  cases h with
  | non => exact .base .non
  | bl b => exact .base (.bl b)
  | int i => exact .base (.int i)
  | str z => exact .base (.str z)
  | lst a n b => exact tyx_sl a
  | tup a b => exact tyx_st a
  | dct a n b c => exact .base (.dK a)
theorem dq_isi {d : PyData} {x : V} {n : String} {Q : VK} (b : Bool) (h : Dq K N H x d) (e : kitB (tyD d) n = some b) (q : Q (.bl b) H) : rIsi K [x, .ty n] H Q := isi_ (dq_ty h) e q
end
end Vw

set_option Elab.async false
set_option linter.all false
set_option maxRecDepth 100000
set_option maxHeartbeats 1000000
namespace Vw
open PySem PySem.Spec PyProof.Rows L2 RT
/-! ### three lists side by side -/
/-- the lists that lie at three places -/
structure Tri (K : PySem.W.Frag) (H : Hp) (a b c : Addr) (xs ys us : List V) : Prop where
  one : SqL K H a xs
  two : SqL K H b ys
  three : SqL K H c us
theorem Tri.same {K : PySem.W.Frag} {H H' : Hp} {a b c : Addr} {xs ys us : List V} (t : Tri K H a b c xs ys us) (ss : Same H H') : Tri K H' a b c xs ys us := ⟨sl_ ss t.one, sl_ ss t.two, sl_ ss t.three⟩
/-- lists of one length, one from each at a turn -/
def ItTri (K : PySem.W.Frag) (a b c : Addr) : It where
  go := fun n H => ∃ xs ys us, Tri K H a b c xs ys us ∧ n < xs.length ∧ n < ys.length ∧ n < us.length
  yld := fun n H v H' => ∃ T x y u, v = .ref T ∧ H T = none ∧ H' = upd H T (.tup [x, y, u]) ∧ ∀ xs ys us, Tri K H a b c xs ys us → xs[n]? = some x ∧ ys[n]? = some y ∧ us[n]? = some u
  stop := fun n H => ∃ xs ys us, Tri K H a b c xs ys us ∧ xs.length = n ∧ ys.length = n ∧ us.length = n
/-- how the machine's own cells stand at a turn -/
structure TriAt (h : Heap) (z TI TO j k l a b c : Addr) (n : Nat) : Prop where
  zip : IsZip h z TI TO .none
  ins : IsTupOf3 h TI (.ref j) (.ref k) (.ref l)
  out : ∃ p q r, IsTupOf3 h TO p q r
  one : h.IsListIter j a n
  two : h.IsListIter k b n
  three : h.IsListIter l c n
section
variable {P : Program} {w : World} {K : PySem.W.Frag} {z TI TO j k l a b c : Addr}
theorem tri_mem {x : Addr} (h : x ∈ [z, TI, TO, j, k, l]) {p : Addr → Prop} (h1 : p z) (h2 : p TI) (h3 : p TO) (h4 : p j) (h5 : p k) (h6 : p l) : p x := by
  simp only [List.mem_cons, List.mem_nil_iff, or_false] at h
  rcases h with e | e | e | e | e | e <;> (rw [e]; assumption)
theorem TriAt.obj {h : Heap} {n : Nat} (t : TriAt h z TI TO j k l a b c n) {x : Addr} (hx : x ∈ [z, TI, TO, j, k, l]) : ∃ o, h.get? x = some o ∧ ∀ v, o.data ≠ .cell v := by
  have it : ∀ {y d : Addr} {m : Nat}, h.IsListIter y d m → ∃ o, h.get? y = some o ∧ ∀ v, o.data ≠ .cell v := fun q => by
    obtain ⟨o, e, _, d⟩ := q
    exact ⟨o, e, fun v e' => by rw [d] at e'; cases e'⟩
  obtain ⟨p, q, r, to⟩ := t.out
  exact tri_mem (p := fun y => ∃ o, h.get? y = some o ∧ ∀ v, o.data ≠ .cell v) hx ⟨_, t.zip, fun v e => nomatch e⟩ ⟨_, t.ins, fun v e => nomatch e⟩ ⟨_, to, fun v e => nomatch e⟩ (it t.one) (it t.two) (it t.three)
theorem TriAt.keep {h h' : Heap} {n : Nat} (t : TriAt h z TI TO j k l a b c n) (q : ∀ x ∈ [z, TI, TO, j, k, l], ∀ o, h.get? x = some o → h'.get? x = some o) : TriAt h' z TI TO j k l a b c n := by
  obtain ⟨t1, t2, ⟨p, r, s, t3⟩, t4, t5, t6⟩ := t
  exact ⟨q _ (by simp) _ t1, q _ (by simp) _ t2, ⟨p, r, s, q _ (by simp) _ t3⟩, t4.at (q _ (by simp)), t5.at (q _ (by simp)), t6.at (q _ (by simp))⟩
theorem turn_tri {elts : List Expr} {kk : Nat} {tpos : Pos} (S : ZipSep3 z TI TO j k l [j, a] [k, b] [l, c]) (na : a ≠ j) (nb : b ≠ k) (nc : c ≠ l) :
    Turn P w K (.Tuple elts kk tpos) (ItTri K a b c) [z, TI, TO, j, k, l] z (fun n h => TriAt h z TI TO j k l a b c n) where
  mem := by simp
  obj := fun n h t x hx => t.obj hx
  keep := fun n h h' t q => t.keep q
  item := by
    intro X hP hw hK hc n pins s σ H E I hf t hg
    subst hP hw hK
    obtain ⟨xs, ys, us, g, gx, gy, gu⟩ := hg
    obtain ⟨is1, r1, p1, _⟩ := I.list g.one
    obtain ⟨is2, r2, p2, _⟩ := I.list g.two
    obtain ⟨is3, r3, p3, _⟩ := I.list g.three
    have hd : X.A.in1.handled = none := I.ok.hd hc
    obtain ⟨t1, t2, ⟨q1, q2, q3, t3⟩, t4, t5, t6⟩ := id t
    refine wpAny_pyNext_zipD3_item (n1 := is1.toArray.size) (n2 := is2.toArray.size) (n3 := is3.toArray.size) (i := n) S (Draws.list hd j a na is1.toArray) (Draws.list hd k b nb is2.toArray) (Draws.list hd l c nc is3.toArray) t1 t2 t3
      ⟨t4, p1.isList⟩ ⟨t5, p2.isList⟩ ⟨t6, p3.isList⟩ (by have := r1.length; simp; omega) (by have := r2.length; simp; omega) (by have := r3.length; simp; omega) fun x y u h1 tk ex ey eu z1 o1 s1 s2 s3 new sz kp => ?_
    have ex' : is1[n]? = some x := by simpa using ex
    have ey' : is2[n]? = some y := by simpa using ey
    have eu' : is3[n]? = some u := by simpa using eu
    obtain ⟨x0, hx0, rx⟩ := r1.get (List.getElem?_eq_getElem gx)
    obtain ⟨y0, hy0, ry⟩ := r2.get (List.getElem?_eq_getElem gy)
    obtain ⟨u0, hu0, ru⟩ := r3.get (List.getElem?_eq_getElem gu)
    rw [ex'] at hx0; rw [ey'] at hy0; rw [eu'] at hu0
    cases hx0; cases hy0; cases hu0
    refine ⟨_, rfl, wpAny_letOwnedTupleGo_zip (s := { s with heap := h1, toks := tk }) z1 fun h2 z2 sb => ?_⟩
    have up : ∀ d o, d ∉ [z, TI, TO, j, k, l] → s.heap.get? d = some o → h2.get? d = some o := fun d o hn e => by
      simp only [List.mem_cons, List.mem_nil_iff, or_false, not_or] at hn
      exact (sb.2 d hn.1).trans (kp d o hn.1 hn.2.2.1 hn.2.2.2.1 hn.2.2.2.2.1 hn.2.2.2.2.2 e)
    have zlt : z < s.heap.objs.size := Heap.lt_size t1
    have cell : ObjOk X.prog X.w (upd H s.heap.objs.size (.tup [xs[n], ys[n], us[n]])) h2 s.heap.objs.size (.tup [xs[n], ys[n], us[n]]) :=
      ⟨by show 3 ≤ sizeLine; decide, [x, y, u], .cons rx (.cons ry (.cons ru .nil)), ⟨_, (sb.2 _ (Nat.ne_of_gt zlt)).trans new, rfl, _, rfl⟩⟩
    refine ⟨.ref s.heap.objs.size, _, I.turnedNew (t' := tk) (ch := [z, TI, TO, j, k, l]) up hf (Nat.le_refl _) cell, rfl, ⟨_, _, _, _, rfl, I.hok.fresh (Nat.le_refl _), rfl, fun xs' ys' us' g' => ?_⟩, ⟨z2, ?_, ⟨x, y, u, ?_⟩, ?_, ?_, ?_⟩, fun d hdm => ?_⟩
    · rw [I.list_inj g'.one g.one, I.list_inj g'.two g.two, I.list_inj g'.three g.three]
      exact ⟨List.getElem?_eq_getElem gx, List.getElem?_eq_getElem gy, List.getElem?_eq_getElem gu⟩
    · exact (sb.2 _ S.TIz).trans (kp _ _ S.TIz S.TITO S.TIi1 S.TIi2 S.TIi3 t2)
    · exact (sb.2 _ S.TOz).trans o1
    · exact s1.1.at fun o e => (sb.2 _ S.zi1.symm).trans e
    · exact s2.1.at fun o e => (sb.2 _ S.zi2.symm).trans e
    · exact s3.1.at fun o e => (sb.2 _ S.zi3.symm).trans e
    · obtain ⟨o, eo, _⟩ := t.obj hdm
      rw [upd_ne (Nat.ne_of_lt (Heap.lt_size eo))]
      exact (hf d hdm).1
  done := by
    intro X hP hw hK hc n pins s σ H E I hf t hg
    subst hP hw hK
    obtain ⟨xs, ys, us, g, gx, gy, gu⟩ := hg
    obtain ⟨is1, r1, p1, _⟩ := I.list g.one
    obtain ⟨is2, r2, p2, _⟩ := I.list g.two
    obtain ⟨is3, r3, p3, _⟩ := I.list g.three
    have hd : X.A.in1.handled = none := I.ok.hd hc
    obtain ⟨t1, t2, ⟨q1, q2, q3, t3⟩, t4, t5, t6⟩ := t
    refine wpAny_pyNext_zipD3_end (n1 := is1.toArray.size) (n2 := is2.toArray.size) (n3 := is3.toArray.size) (i := n) S (Draws.list hd j a na is1.toArray) (Draws.list hd k b nb is2.toArray) (Draws.list hd l c nc is3.toArray) t1 t2 t3
      ⟨t4, p1.isList⟩ ⟨t5, p2.isList⟩ ⟨t6, p3.isList⟩ (by have := r1.length; simp; omega) (by have := r2.length; simp; omega) (by have := r3.length; simp; omega) (.inl (by have := r1.length; simp; omega)) fun h1 tk kp => ⟨rfl, ?_⟩
    refine I.turnedL (t' := tk) (ch := [z, TI, TO, j, k, l]) (fun d o hn e => ?_) hf
    simp only [List.mem_cons, List.mem_nil_iff, or_false, not_or] at hn
    exact kp d o hn.1 hn.2.2.1 hn.2.2.2.1 hn.2.2.2.2.1 hn.2.2.2.2.2 e
  self := fun A n s Q E t q => wpAny_pyIter_zip t.zip q
end
/-- what three arguments give: the lists at their places -/
def TriQ (K : PySem.W.Frag) (R : It → Hp → Prop) (vs : List V) (H : Hp) : Prop := ∃ a b c xs ys us, vs = [V.ref a, V.ref b, V.ref c] ∧ Tri K H a b c xs ys us ∧ R (ItTri K a b c) H
def iTri (K : PySem.W.Frag) (ta : TA) : TI := fun σ H R => ta σ H (TriQ K R)
theorem piTri {X : Cx} {K : PySem.W.Frag} {e1 e2 e3 : Expr} {ta : TA} {p pos tpos : Pos} {elts : List Expr} {kk : Nat} (hg : Gl X "zip") (hm : X.mg "zip" = none) (ha : PA X [e1, e2, e3] ta) (eK : X.K = K := by rfl)
    (hs : starEach [e1, e2, e3] X.env = (false, eval e1 X.env) :: starEach [e2, e3] X.env := by rfl) (hb : ((backTo pos (starEach [e2, e3] X.env)).any fun x => x.fst) = false := by rfl) :
    PI X (.Tuple elts kk tpos) (.Call (.Name "zip" p) [e1, e2, e3] [] pos) (iTri K ta) := by
  subst eK
  refine ⟨fun pins s σ H R I h => Call_ (ld_blt I hg hm PyProof.Rows.boot_zip (PyProof.Rows.callWith_type1 (thn (ha.run pos pins s σ H _ I h) fun vs' s1 q => ?_) hs hb))⟩
  obtain ⟨vs, H1, I1, rel, a, b, c, xs, ys, us, ev, t, q⟩ := q
  subst ev
  cases rel with
  | cons ra rel =>
    cases rel with
    | cons rb rel =>
      cases rel with
      | cons rc rel =>
        cases rel; cases ra; cases rb; cases rc
        obtain ⟨is1, _, p1, _⟩ := I1.list t.one
        obtain ⟨is2, _, p2, _⟩ := I1.list t.two
        obtain ⟨is3, _, p3, _⟩ := I1.list t.three
        refine zip_begins3 (begins_list a is1.toArray) (begins_list b is2.toArray) (begins_list c is3.toArray) p1.isList p2.isList p3.isList fun h' hz hi ho h1 h2 h3 hsz hk => wpAny_pyIter_zip hz ?_
        have below : ∀ {d : Addr}, d < s1.heap.objs.size → ∀ x ∈ [d], x < s1.heap.objs.size := fun hd x hx => by rw [List.mem_singleton.mp hx]; exact hd
        have ne : ∀ {d : Addr} (m : Nat), d < s1.heap.objs.size → d ≠ s1.heap.objs.size + m := fun m hd e => by
          have e' : (_ : Nat) = s1.heap.objs.size + m := e
          have hd' : (_ : Nat) < s1.heap.objs.size := hd
          omega
        refine ⟨_, _, _, _, H1, rfl, I1.kept (t' := s1.toks) hk, turn_tri (zip_sep3 (below p1.lt) (below p2.lt) (below p3.lt)) (ne 0 p1.lt) (ne 1 p2.lt) (ne 2 p3.lt), ⟨hz, hi, ⟨_, _, _, ho⟩, ⟨_, h1, rfl, rfl⟩, ⟨_, h2, rfl, rfl⟩, ⟨_, h3, rfl, rfl⟩⟩, fun x hx => ?_, q⟩
        have up : ∀ m : Nat, s1.heap.objs.size ≤ s1.heap.objs.size + m := fun m => Nat.le_add_right _ _
        have le : s1.heap.objs.size ≤ x := tri_mem (p := fun x => s1.heap.objs.size ≤ x) hx (up 5) (up 3) (up 4) (up 0) (up 1) (up 2)
        exact I1.fpOk le (I1.hok.fresh le)
theorem i_tri {K : PySem.W.Frag} {R : It → Hp → Prop} {H : Hp} {a b c : Addr} {xs ys us : List V} (t : Tri K H a b c xs ys us) (q : R (ItTri K a b c) H) : TriQ K R [.ref a, .ref b, .ref c] H := ⟨a, b, c, xs, ys, us, rfl, t, q⟩
/-- a new triple of what stands at a turn in each -/
def YTri (xs ys us : List V) : Nat → Hp → V → Hp → Prop := fun n H v H' => ∃ T x y u, v = .ref T ∧ H T = none ∧ H' = upd H T (.tup [x, y, u]) ∧ xs[n]? = some x ∧ ys[n]? = some y ∧ us[n]? = some u
theorem walk_tri {K : PySem.W.Frag} {a b c : Addr} {xs ys us : List V} {n : Nat} (e1 : xs.length = n) (e2 : ys.length = n) (e3 : us.length = n) : Walk (ItTri K a b c) n (fun H => Tri K H a b c xs ys us) (YTri xs ys us) where
  goes := fun i H hi t => ⟨xs, ys, us, t, by omega, by omega, by omega⟩
  stops := fun H t => ⟨xs, ys, us, t, e1, e2, e3⟩
  yields := fun i H v H' _ t ⟨T, x, y, u, ev, hT, eH, g⟩ => ⟨T, x, y, u, ev, hT, eH, g xs ys us t⟩
end Vw

set_option Elab.async false
set_option linter.all false
set_option maxRecDepth 100000
set_option maxHeartbeats 1000000
namespace Vw
open PySem PySem.Spec PyProof.Rows L2 RT
/-! ### isinstance of a caught error, whether it has fields or none -/
section
open PySem.W PySem.Calls
variable {prog : Program} {w : World} {A : Around} {E : Value → Shared → Prop} {K : Frag} {x D : Addr} {ox : Obj} {od : Option Obj}
theorem own_class (C : ExcC K D) : findObj K D od "__class__" = some (.bind (.builtin "getset_descriptor.__get__") (.builtin "object.__class__")) := by
  obtain ⟨cd, ec, _⟩ := any_some C.hd
  unfold findObj
  rw [show (clsIn K D).bind _ = _ from congrArg (Option.bind · _) ec, Option.bind_some, C.ha, Option.bind_some]
  simp only [C.hn, C.ht, Option.bind_some]
theorem err_class {s : Shared} {Q : Option Value → Shared → Prop} (C : ExcC K D) (kin : K.In s.heap) (at_ : InstAt s.heap x ox D od) (q : Q (some (.ref D)) { s with toks := s.toks + 1 }) : wpAny (model prog w) A (getAttr? (.ref x) "__class__") Q E s := by
  obtain ⟨hp, g, d, t, os⟩ := s
  have type_is := at_.type (M := model prog w)
  have finds := looks_find (M := model prog w) kin at_ (own_class (od := od) C)
  have base : Looks (model prog w) hp (isInstance (.ref x) (.type "BaseException")) true := type_is.andThen (looks_subIn kin C.hs)
  have differ : (Value.builtin "BaseException.__getattribute__" == Value.builtin "object.__getattribute__") = false := by decide +kernel
  unfold getAttr? getAttrBy? getAttrBy
  refine wpAny_bind (wpAny_mkText (wpAny_bind (wpAny_attempt (wpAny_holding (wpAny_bind (type_is.at (wpAny_bind ((looks_findIn (M := model prog w) kin C.hg).at ?_))))))))
  dsimp only
  rw [show (onTheHeap (Value.ref D) && Value.builtin "BaseException.__getattribute__" == Value.builtin "object.__getattribute__") = false by rw [differ]; rfl, if_neg Bool.false_ne_true]
  unfold getAttrByItsOwn hookBefore
  rw [if_pos (show onTheHeap (Value.ref D) = true from rfl)]
  refine wpAny_bind ((looks_findIn (M := model prog w) kin C.hk).at (wpAny_bind (wpAny_attempt (wpAny_holding ?_))))
  unfold callGetattribute
  rw [show (false && onTheHeap (Value.builtin "BaseException.__getattribute__")) = false from rfl, if_neg Bool.false_ne_true]
  unfold boundAndCalled
  rw [PySem.F.excAttr_ValueError.ga.bind (.ref x)]
  refine wpAny_bind (wpAny_pure ?_)
  dsimp only
  refine (wpAny_call (codeAny_call_builtin PySem.F.excAttr_ValueError.ga.plain PySem.F.entry_bexc_ga ?_))
  refine @check_slot (model prog w) _ _ ⟨hp, g, d, t + 1, os⟩ _ "BaseException" "__getattribute__" (.ref x) [.str "__class__" t] [] _ (by decide +kernel) (by decide +kernel) base (PySem.F.args_bexc_ga (.ref x) (.str "__class__" t)) ?_
  unfold Builtin.«object.__getattribute__»
  refine wpAny_bind (wpAny_of_eq (a := ((Value.ref x : Value), [Value.str "__class__" t])) (by first | rfl | (simp only [slotArgs]; rfl)) (wpAny_bind (wpAny_pure (wpAny_bind (type_is.at (wpAny_bind (finds.at ?_)))))))
  dsimp only
  refine wpAny_bind (wpAny_holding (wpAny_call (class_get (s := ⟨hp, g, d, t + 1, os⟩) (ox := ox) (od := od) kin at_ C.hm (wpAny_pure ?_))))
  show wpAny _ _ (handedOut (.ref D)) _ _ _
  rw [handedOut_of (v := .ref D) rfl]
  first
    | exact wpAny_pure (wpAny_pure q)
    | exact wpAny_pure q
    | exact wpAny_pure (wpAny_bind (wpAny_pure (wpAny_pure q)))
theorem kit_any (C : ExcC K D) : KitX K (.ref x) (.ref D) (fun h => InstAt h x ox D od) where
  ty := fun _ _ _ at_ => at_.type
  it := fun M h kin _ => by
    obtain ⟨cd, ec, _⟩ := any_some C.hd
    unfold clsIn at ec
    split at ec
    · rename_i c' d' cd' sl' ho
      intro A' Q' E' s' k q
      unfold isType loadHead
      exact wpAny_bind (wpAny_loadPart (k _ _ (kin _ _ ho)) (wpAny_pure q))
    · cases ec
  ne := fun h tp dd its n sl kin htp => by
    refine Bool.eq_false_iff.mpr fun q => ?_
    obtain rfl : D = tp := Value.ref.inj (beq_iff_eq.mp q)
    obtain ⟨cd, ec, _⟩ := any_some C.hd
    unfold clsIn at ec
    split at ec
    · rename_i c' d' cd' sl' ho
      exact absurd ((kin _ _ ho).symm.trans htp) (fun z => nomatch z)
    · cases ec
  ca := fun kin at_ q => err_class C kin at_ q
end
/-- isinstance(e, c), e the caught error, d its dict's place -/
def rIsEA (K : PySem.W.Frag) (D a : Addr) (d : Option Addr) : List V → Hp → VK → Prop := fun xs H Q => ∃ (c : V) (cv : Value) (b : Bool), xs = [.ref a, c] ∧ (∀ u, RelV c u → u = cv) ∧ PySem.W.kitOne K (.ref D) cv = some b ∧ (∀ dd, d = some dd → ∃ fs, H dd = some (.xd fs)) ∧ Q (.bl b) H
theorem call_isEA {X : Cx} {a D : Addr} {d : Option Addr} {oe : Obj} {pn : List (Addr × Obj)} (C : ExcC X.K D) (hz : Zc (.ref D) d oe) (hf : ∃ vs, oe.data = .fields vs) : CallR (X.suite a ((a, oe) :: pn)) (.builtin "isinstance") (rIsEA X.K D a d) := by
  intro pins s σ H xs us Q I rel h
  obtain ⟨c, cv, b, rfl, hcv, e, hd, q⟩ := h
  cases rel with
  | cons rx rel =>
    cases rel with
    | cons rt rel =>
      cases rel; cases rx
      obtain rfl := hcv _ rt
      obtain ⟨hget, _⟩ := I.pin (a, oe) (List.mem_append_left _ List.mem_cons_self)
      obtain ⟨vs, hv⟩ := hf
      have J : ∃ od, PySem.W.InstAt s.heap a oe D od := by
        obtain ⟨z1, z2⟩ := hz
        cases d with
        | none =>
          refine ⟨none, hget, z1, by unfold PySem.W.notCls; rw [hv] <;> rfl, ?_⟩
          rw [z2]; trivial
        | some dd =>
          obtain ⟨fs, ex⟩ := hd dd rfl
          obtain ⟨mA, hns, _⟩ : ObjOk X.prog X.w H s.heap dd (.xd fs) := I.hok dd _ ex
          obtain ⟨od, ho, _⟩ := lookIn_ns hns
          exact ⟨some od, hget, z1, by unfold PySem.W.notCls; rw [hv] <;> rfl, by rw [z2]; exact ho⟩
      obtain ⟨od, J⟩ := J
      exact PySem.W.kia_one (kit_any (od := od) C) I.kIn J e (fun z => nomatch z) fun tk => ⟨.bl b, H, I.kept (t' := tk) fun _ _ z => z, rfl, q⟩
/-- the same, the class learnt from the reading -/
def rIsEK (K : PySem.W.Frag) (D a : Addr) (k : Value) (d : Option Addr) : List V → Hp → VK → Prop := fun xs H Q => k = .ref D ∧ rIsEA K D a d xs H Q
theorem call_isEK {X : Cx} {a D : Addr} {k : Value} {d : Option Addr} {oe : Obj} {pn : List (Addr × Obj)} (C : ExcC X.K D) (hz : Zc k d oe) (hf : ∃ vs, oe.data = .fields vs) : CallR (X.suite a ((a, oe) :: pn)) (.builtin "isinstance") (rIsEK X.K D a k d) := by
  intro pins s σ H xs us Q I rel h
  obtain ⟨rfl, h⟩ := h
  exact call_isEA C hz hf pins s σ H xs us Q I rel h
end Vw

set_option Elab.async false
set_option linter.all false
set_option maxRecDepth 100000
set_option maxHeartbeats 1000000
namespace Vw
open PySem PySem.Spec PyProof.Rows L2 RT
/-! ### what repr shows is a text of good signs -/
theorem sOk_app {a b : Str} (ha : PyData.strOk a = true) (hb : PyData.strOk b = true) : PyData.strOk (a ++ b) = true := by
  show (a.cps ++ b.cps).all _ = true
  rw [Array.all_append]
  have ha : a.cps.all (· < 0x110000) = true := ha
  have hb : b.cps.all (· < 0x110000) = true := hb
  rw [ha, hb]; rfl
theorem sOk_from : ∀ (ts : List Str) (k : Nat) (acc : Str), PyData.strOk acc = true → (∀ t ∈ ts, PyData.strOk t = true) → PyData.strOk (textFrom k acc ts) = true
  | [], _, _, h, _ => h
  | t :: r, k, acc, h, ht => by
    refine sOk_from r (k + 1) _ (sOk_app (sOk_app h ?_) (ht t List.mem_cons_self)) fun u hu => ht u (List.mem_cons_of_mem _ hu)
    split <;> decide +kernel
theorem sOk_join : ∀ (ts : List Str), (∀ t ∈ ts, PyData.strOk t = true) → PyData.strOk (Str.join ", " ts) = true
  | [], _ => by decide +kernel
  | [x], h => h x List.mem_cons_self
  | x :: y :: r, h => by
    have ih := sOk_join (y :: r) fun u hu => h u (List.mem_cons_of_mem _ hu)
    show PyData.strOk (x ++ ", " ++ Str.join ", " (y :: r)) = true
    exact sOk_app (sOk_app (h x List.mem_cons_self) (by decide +kernel)) ih
theorem sOk_int (i : Int) : PyData.strOk (PyData.int i).shown = true := by
  show Array.all _ _ = true
  rw [Array.all_eq_true_iff_forall_mem]
  intro k hk
  by_cases q : k ≠ 45 ∧ (k < 48 ∨ 57 < k)
  · exact absurd (Array.mem_toList_iff.mpr hk) (shown_int_free' q i)
  · exact decide_eq_true (by omega)
mutual
/-- data whose texts show well -/
inductive TxD : PyData → Prop
  | non : TxD .none
  | bl (b : Bool) : TxD (.bool b)
  | int (i : Int) : TxD (.int i)
  | str (x : Str) : PyData.strOk (PyData.str x).shown = true → TxD (.str x)
  | lst (xs : List PyData) : TxA xs → TxD (.list xs)
  | tup (xs : List PyData) : TxA xs → TxD (.tuple xs)
  | dct (D : List (PyData × PyData)) : TxA (D.map (·.1)) → TxA (D.map (·.2)) → TxD (.dict D)
inductive TxA : List PyData → Prop
  | nil : TxA []
  | cons {d : PyData} {ds : List PyData} : TxD d → TxA ds → TxA (d :: ds)
end
mutual
theorem tx_ok : ∀ d : PyData, TxD d → PyData.strOk d.shown = true
  | .none, _ => by decide +kernel
  | .bool b, _ => by cases b <;> decide +kernel
  | .int i, _ => sOk_int i
  | .str x, h => by cases h; assumption
  | .list xs, h => by
    cases h with
    | lst _ h => exact sOk_app (sOk_from _ 0 _ (by decide +kernel) (tx_all xs h)) (by decide +kernel)
  | .tuple xs, h => by
    cases h with
    | tup _ h =>
      refine sOk_app (sOk_app (by decide +kernel) (sOk_join _ (tx_all xs h))) ?_
      split <;> decide +kernel
  | .dict D, h => by
    cases h with
    | dct _ h1 h2 => exact sOk_app (sOk_app (by decide +kernel) (sOk_join _ (tx_kv D h1 h2))) (by decide +kernel)
theorem tx_all : ∀ ds : List PyData, TxA ds → ∀ t ∈ PyData.shownAll ds, PyData.strOk t = true
  | [], _, t, ht => nomatch ht
  | d :: ds, h, t, ht => by
    cases h with
    | cons h1 h2 =>
      rcases List.mem_cons.mp ht with e | e
      · rw [e]; exact tx_ok d h1
      · exact tx_all ds h2 t e
theorem tx_kv : ∀ D : List (PyData × PyData), TxA (D.map (·.1)) → TxA (D.map (·.2)) → ∀ t ∈ PyData.shownKv D, PyData.strOk t = true
  | [], _, _, t, ht => nomatch ht
  | (k, v) :: D, h1, h2, t, ht => by
    cases h1 with
    | cons a1 b1 =>
      cases h2 with
      | cons a2 b2 =>
        rcases List.mem_cons.mp ht with e | e
        · rw [e]; exact sOk_app (sOk_app (tx_ok k a1) (by decide +kernel)) (tx_ok v a2)
        · exact tx_kv D b1 b2 t e
end
/-! ### small data -/
mutual
def smB : PyData → Bool
  | .none => true
  | .bool _ => true
  | .int i => decide (i.natAbs < 10 ^ 41)
  | .str x => PyData.strOk (PyData.str x).shown && x.cps.toList.all fun c => decide (c < 16 ^ 8)
  | .list xs => smA xs
  | .tuple xs => smA xs
  | .dict D => smK D
def smA : List PyData → Bool
  | [] => true
  | d :: ds => smB d && smA ds
def smK : List (PyData × PyData) → Bool
  | [] => true
  | (k, v) :: D => smB k && smB v && smK D
end
theorem log_lt41 {n : Nat} (h : n < 10 ^ 41) : n.log2 < 1920 := by
  by_cases z : n = 0
  · subst z; decide
  · refine (Nat.log2_lt z).mpr (Nat.lt_of_lt_of_le h ?_)
    decide +kernel
mutual
theorem sm_facts : ∀ d : PyData, smB d = true → TxD d ∧ d.showable = true ∧ d.leavesShort 50 = true
  | .none, _ => ⟨.non, by simp only [PyData.showable], rfl⟩
  | .bool b, _ => ⟨.bl b, by simp only [PyData.showable], rfl⟩
  | .int i, h => by
    have h : i.natAbs < 10 ^ 41 := of_decide_eq_true h
    refine ⟨.int i, by simp only [PyData.showable, decide_eq_true (log_lt41 h)], ?_⟩
    show decide ((PyData.shown (.int i)).length ≤ 50) = true
    refine decide_eq_true (Nat.le_trans (m := 42) ?_ (by decide))
    show (Str.ofString (toString i)).length ≤ 42
    rw [PySem.ofString_length]
    exact int_text_length_le10 (k := 41) (by decide) h
  | .str x, h => by
    have h : (PyData.strOk (PyData.str x).shown && x.cps.toList.all fun c => decide (c < 16 ^ 8)) = true := h
    rw [Bool.and_eq_true] at h
    exact ⟨.str x h.1, by simp only [PyData.showable], h.2⟩
  | .list xs, h => by
    obtain ⟨a, b, c⟩ := sm_all xs h
    exact ⟨.lst xs a, by simpa only [PyData.showable] using b, by simpa only [PyData.leavesShort] using c⟩
  | .tuple xs, h => by
    obtain ⟨a, b, c⟩ := sm_all xs h
    exact ⟨.tup xs a, by simpa only [PyData.showable] using b, by simpa only [PyData.leavesShort] using c⟩
  | .dict D, h => by
    obtain ⟨a1, a2, b, c⟩ := sm_kv D h
    exact ⟨.dct D a1 a2, by simpa only [PyData.showable] using b, by simpa only [PyData.leavesShort] using c⟩
theorem sm_all : ∀ ds : List PyData, smA ds = true → TxA ds ∧ PyData.showableAll ds = true ∧ PyData.leavesShortAll 50 ds = true
  | [], _ => ⟨.nil, by simp only [PyData.showableAll], rfl⟩
  | d :: ds, h => by
    have h : (smB d && smA ds) = true := h
    rw [Bool.and_eq_true] at h
    obtain ⟨a, b, c⟩ := sm_facts d h.1
    obtain ⟨a2, b2, c2⟩ := sm_all ds h.2
    exact ⟨.cons a a2, by simp only [PyData.showableAll, b, b2, Bool.and_self], by simp only [PyData.leavesShortAll, c, c2, Bool.and_self]⟩
theorem sm_kv : ∀ D : List (PyData × PyData), smK D = true → TxA (D.map (·.1)) ∧ TxA (D.map (·.2)) ∧ PyData.showableKv D = true ∧ PyData.leavesShortKv 50 D = true
  | [], _ => ⟨.nil, .nil, by simp only [PyData.showableKv], rfl⟩
  | (k, v) :: D, h => by
    have h : ((smB k && smB v) && smK D) = true := h
    rw [Bool.and_eq_true, Bool.and_eq_true] at h
    obtain ⟨a, b, c⟩ := sm_facts k h.1.1
    obtain ⟨a2, b2, c2⟩ := sm_facts v h.1.2
    obtain ⟨a3, a4, b3, c3⟩ := sm_kv D h.2
    exact ⟨.cons a a3, .cons a2 a4, by simp only [PyData.showableKv, b, b2, b3, Bool.and_self], by simp only [PyData.leavesShortKv, c, c2, c3, Bool.and_self]⟩
end
theorem sm_fits {d : PyData} (h : smB d = true) (w : d.weight ≤ 300000) : d.shown.length ≤ sizeLine := by
  have := PyData.shown_le 50 (by decide) d (sm_facts d h).2.2
  have e : sizeLine = 16777216 := by decide +kernel
  rw [e]
  omega
theorem smA_of {ds : List PyData} (h : ∀ d ∈ ds, smB d = true) : smA ds = true := by
  induction ds with
  | nil => rfl
  | cons d ds ih =>
    show (smB d && smA ds) = true
    rw [h d List.mem_cons_self, ih fun y hy => h y (List.mem_cons_of_mem _ hy)]; rfl
/-! ### data over more addresses -/
section
variable {K : PySem.W.Frag} {N N' : Addr → Prop} {H : Hp}
mutual
theorem dq_mono (h : ∀ a, N a → N' a) : ∀ (d : PyData) (x : V), Dq K N H x d → Dq K N' H x d
  | .none, _, q => by cases q; exact .non
  | .bool _, _, q => by cases q; exact .bl _
  | .int _, _, q => by cases q; exact .int _
  | .str _, _, q => by cases q; exact .str _
  | .list ds, _, q => by
    cases q with
    | lst a n b => exact .lst a (h _ n) (dq_monoA h ds _ b)
  | .tuple ds, _, q => by
    cases q with
    | tup a b => exact .tup a (dq_monoA h ds _ b)
  | .dict D, _, q => by
    cases q with
    | dct a n b c => exact .dct a (h _ n) b (dq_monoK h D _ c)
theorem dq_monoK (h : ∀ a, N a → N' a) : ∀ (D : List (PyData × PyData)) (xs : List V), DqAll K N H xs (D.map (·.2)) → DqAll K N' H xs (D.map (·.2))
  | [], _, q => by cases q; exact .nil
  | (_, d) :: D, _, q => by
    cases q with
    | cons a b => exact .cons (dq_mono h d _ a) (dq_monoK h D _ b)
theorem dq_monoA (h : ∀ a, N a → N' a) : ∀ (ds : List PyData) (xs : List V), DqAll K N H xs ds → DqAll K N' H xs ds
  | [], _, q => by cases q; exact .nil
  | d :: ds, _, q => by
    cases q with
    | cons a b => exact .cons (dq_mono h d _ a) (dq_monoA h ds _ b)
end
end
end Vw

set_option Elab.async false
set_option linter.all false
set_option maxRecDepth 100000
set_option maxHeartbeats 4000000
namespace Vw
open PySem PySem.Spec PyProof.Rows L2 RT
/-! ### an own error kept as a value -/
/-- C(e, ..) as a value: the error stays -/
def tVkO (C : Addr) (sp : Sp) (dvs : List V) (ta : TA) : TE := fun σ H Q => ta σ H fun vs H1 => vs.length ≤ 1000 ∧ ∀ a, H1 a = none → sp (.ref a :: (vs ++ dvs)) (upd H1 a (exo a C none)) (fun v H2 => v = .non ∧ Q (.ref a) H2) (fun _ _ _ => False)
def tVkN (C : Addr) (sp : Sp) : TE := fun σ H Q => ∀ a, H a = none → sp [.ref a] (upd H a (exo a C none)) (fun v H2 => v = .non ∧ Q (.ref a) H2) (fun _ _ _ => False)
theorem value_end {X : Cx} {pins : List (Addr × Obj)} {σ : L2.St} {H : Hp} {s s' : Shared} {Q : VK} {u : Value} {a : Addr} (I : Inv X pins σ H s) (h : CE X.stack X.prog X.w H s (fun v H2 => v = .non ∧ Q (.ref a) H2) u s') : u = .none ∧ EP X pins σ Q (.ref a) s' := by
  obtain ⟨v, H2, J, r, rfl, q⟩ := I.after h
  exact ⟨r, .ref a, H2, J, rfl, q⟩
section
variable {X : Cx} {CX : CXT} {x : Str} {C m : Addr} {k : Nat} {fd : FuncData} {ps : List Str} {sp : Sp} {ds : List Value} {dvs : List V} {e : Expr} {es : List Expr} {ta : TA} {p pos : Pos}
/-- the class called: its instance is laid, tracked while __init__ runs on it, and stays tracked -/
theorem class_called {pins : List (Addr × Obj)} {σ : L2.St} {H : Hp} {s : Shared} {Q : VK} {us : List Value} {vs : List V} (T : OexC X.K C) (has : PySem.W.findIn X.K (.ref C) "__init__" = some (some (.ref m))) (isf : PySem.W.typeIn X.K (.ref m) = some (.type "function"))
    (it : FnOk X.prog X.w X.K X.mg X.base CX k m fd ps sp) (room : Room (k + 1) X.A) (bd : Binds X.K fd ps ds) (dd : Vals dvs ds) (calm : Passes CX X (fun _ _ _ => False)) (I : Inv X pins σ H s) (rel : Vals vs us) (few : vs.length ≤ 1000)
    (ask : ∀ a, H a = none → sp (.ref a :: (vs ++ dvs)) (upd H a (exo a C none)) (fun v H2 => v = .non ∧ Q (.ref a) H2) (fun _ _ _ => False)) : wpAny (model X.prog X.w) X.A (call (.ref C) us) (EP X pins σ Q) X.xe s := by
  obtain ⟨h, gs, dr, tk, os⟩ := s
  obtain ⟨_, _, _, _, bm, _, _, _, _, _, _, _, _, _, _, look, refs⟩ := T.cls
  -- the instance lies behind the tuple of what was passed
  obtain ⟨b, eb⟩ : ∃ b, b = h.objs.size + 1 := ⟨_, rfl⟩
  obtain ⟨h2, e2⟩ : ∃ h2 : Heap, h2 = (h.push (PySem.W.kdv_tup us)).push (PySem.HandSPX.excO C h.objs.size) := ⟨_, rfl⟩
  have above : h.objs.size ≤ b := by omega
  have old : ∀ c o, h.get? c = some o → h2.get? c = some o := fun c o q => by
    rw [e2]
    exact Heap.get?_push_of_some _ (Heap.get?_push_of_some _ q)
  have there : h2.get? b = some (PySem.HandSPX.excO C h.objs.size) := by
    rw [e2, eb]
    heap_get
  have J : Inv X pins σ (upd H b (exo b C none)) ⟨h2, gs, dr, tk, os⟩ := I.laid (t' := tk) old above (exo_ok there)
  have due := ask b (I.hok.fresh above)
  have all : Vals (V.ref b :: (vs ++ dvs)) (Value.ref b :: (us ++ ds)) := .cons rfl (rel.append dd)
  have count : (Value.ref b :: us ++ ds).length = ps.length := all.length.symm.trans (it.len _ _ _ _ due)
  have short : us.length ≤ sizeLine := by
    have := Paired.length rel
    rw [sizeLine_eq]; omega
  subst eb e2
  refine wpAny_call (PySem.HandSPX.call_own F.excBase_ValueError (fun Y => PySem.HandSPX.refsVE_contains Y bm refs) (I.kIn _ _ look) (PySem.W.looks_findIn I.kIn has) (fun self => PySem.W.bind_fn I.kIn self isf) short ?_)
  refine codeAny_mono (it.run _ X.stack _ _ ⟨_ :: us, []⟩ _ _ _ _ (room.make C us []) (J.env0.make C us []) (bd _ (_ :: us) J.kIn count) all due) fun res s' got => ?_
  match res, got with
  | .error er, got => exact calm pins σ _ _ er s' J got
  | .ok (.ret u), got => exact value_end J got
  | .ok .next, got => exact got.elim
  | .ok .brk, got => exact got.elim
  | .ok .cont, got => exact got.elim
theorem pe_vko (T : OexC X.K C) (has : PySem.W.findIn X.K (.ref C) "__init__" = some (some (.ref m))) (isf : PySem.W.typeIn X.K (.ref m) = some (.type "function")) (F : FnOk X.prog X.w X.K X.mg X.base CX k m fd ps sp) (room : Room (k + 1) X.A) (bd : Binds X.K fd ps ds) (dd : Vals dvs ds)
    (calm : Passes CX X (fun _ _ _ => False)) (glob : Gl X x) (names : X.mg x = some (.ref C)) (args : PA X (e :: es) ta) (nd : (x == ("__debug__" : Str)) = false := by decide) (st1 : starEach (e :: es) X.env = (false, eval e X.env) :: starEach es X.env := by rfl) (st2 : (backTo pos (starEach es X.env)).any (·.1) = false := by rfl) :
    PE X (.Call (.Name x p) (e :: es) [] pos) (tVkO C sp dvs ta) :=
  ⟨fun pins s σ H Q I h => wpAny_Call_Name_kw (ld_glob I glob names (PySem.W.callWith_K (h₀ := X.base) I.mod.kin T.kC (thn (args.run pos pins s σ H _ I h) fun _ _ ⟨_, _, J, r, few, q⟩ => ⟨J.kIn, class_called T has isf F room bd dd calm J r few q⟩) st1 st2) nd)⟩
theorem pe_vkn (T : OexC X.K C) (has : PySem.W.findIn X.K (.ref C) "__init__" = some (some (.ref m))) (isf : PySem.W.typeIn X.K (.ref m) = some (.type "function")) (F : FnOk X.prog X.w X.K X.mg X.base CX k m fd ps sp) (room : Room (k + 1) X.A) (bd : Binds X.K fd ps [])
    (calm : Passes CX X (fun _ _ _ => False)) (glob : Gl X x) (names : X.mg x = some (.ref C)) (nd : (x == ("__debug__" : Str)) = false := by decide) : PE X (.Call (.Name x p) [] [] pos) (tVkN C sp) :=
  ⟨fun pins s σ H Q I h => wpAny_Call_Name_kw (ld_glob I glob names (PySem.W.callWith_K0 I.kIn T.kC (class_called (vs := []) (us := []) (dvs := []) T has isf F room bd .nil calm I .nil (Nat.zero_le _) h)) nd)⟩
/-- e.f, e an error that is kept -/
def tXv (C : Addr) (f : Str) (te : TE) : TE := fun σ H Q => te σ H fun x H1 => ∃ (a d : Addr) (fs : List (Str × V)) (v : V), x = .ref a ∧ H1 a = some (exo a C (some d)) ∧ H1 d = some (exd d fs) ∧ fs.lookup f = some v ∧ Q v H1
theorem pe_xv {C : Addr} {te : TE} {pos : Pos} {n : Str} (T : XfC X.K C) (hno : PySem.W.findIn X.K (.ref C) n = some none) (he : PE X e te) (hb : attributeBase e n X.env (eval e X.env) = eval e X.env := by rfl) :
    PE X (.Attribute e n pos) (tXv C n te) := by
  refine ⟨fun pins s σ H Q I h => ?_⟩
  refine attr_of hb (thn (he.run pins s σ H _ I h) fun _ s1 ⟨_, H1, J, same, a, d, fs, v, ex, err, row, is, q⟩ => ?_)
  subst ex
  cases same
  obtain ⟨_, lies⟩ := exo_at J.hok err
  obtain ⟨names, space, told⟩ := exd_at J.hok row
  obtain ⟨od, dict, looks⟩ := lookIn_ns space
  obtain ⟨w1, e1, rel⟩ := RelO.some_of (v := v) (o := names n) (is ▸ told n)
  have inst : PySem.W.InstAt s1.heap a _ C (some od) := ⟨lies, rfl, rfl, dict⟩
  have own := PySem.W.findObj_own (K := X.K) (od := od) T.hdC hno rfl ((looks n).trans (congrArg some e1))
  exact HandSPX.exc_get J.kIn inst T.ga T.gg T.exC own (handed_of rel) ⟨v, H1, J.tok _, rel, q⟩
/-- isinstance(e, c), e an error that is kept -/
def rIsV (K : PySem.W.Frag) : List V → Hp → VK → Prop := fun xs H Q => ∃ (a D : Addr) (d : Option Addr) (c : V) (cv : Value) (b : Bool), xs = [.ref a, c] ∧ ExcC K D ∧ H a = some (exo a D d) ∧ (∀ dd, d = some dd → ∃ fs, H dd = some (exd dd fs)) ∧ (∀ u, RelV c u → u = cv) ∧ PySem.W.kitOne K (.ref D) cv = some b ∧ Q (.bl b) H
theorem call_isV : CallR X (.builtin "isinstance") (rIsV X.K) := by
  intro pins s σ H xs us Q I rel h
  obtain ⟨a, D, d, c, cv, b, rfl, C, ha, hd, hcv, e, q⟩ := h
  cases rel with
  | cons rx rel =>
    cases rel with
    | cons rt rel =>
      cases rel; cases rx
      obtain rfl := hcv _ rt
      obtain ⟨t1, ho⟩ := exo_at I.hok ha
      have J : ∃ ox od, PySem.W.InstAt s.heap a ox D od := by
        cases d with
        | none => exact ⟨_, none, ho, rfl, rfl, trivial⟩
        | some dd =>
          obtain ⟨fs, ex⟩ := hd dd rfl
          obtain ⟨mA, hns, _⟩ := exd_at I.hok ex
          obtain ⟨od, hod, _⟩ := lookIn_ns hns
          exact ⟨_, some od, ho, rfl, rfl, hod⟩
      obtain ⟨ox, od, J⟩ := J
      exact PySem.W.kia_one (kit_any (ox := ox) (od := od) C) I.kIn J e (fun z => nomatch z) fun tk => ⟨.bl b, H, I.kept (t' := tk) fun _ _ z => z, rfl, q⟩
theorem cIsV {K : PySem.W.Frag} (e : X.K = K := by rfl) : CallR X (.builtin "isinstance") (rIsV K) := by cases e; exact call_isV
end
end Vw
namespace Vw
open PySem PySem.Spec PyProof.Rows L2 RT
/-! ### len of a set of ints -/
def rLenS (w : World) : List V → Hp → VK → Prop := fun xs H Q => ∃ (ns : List Int) (a : Addr) (n : Nat), xs = [.ref a] ∧ H a = some (SetO w a (fun j => decide (j ∈ ns)) n) ∧ ns.Nodup ∧ Q (.int (ns.length : Nat)) H
theorem card_eq {ns ms : List Int} (h1 : ns.Nodup) (h2 : ms.Nodup) (h : ∀ k, decide (k ∈ ns) = true ↔ k ∈ ms) : ms.length = ns.length := by
  have e : ms.Perm ns := (List.perm_ext_iff_of_nodup h2 h1).mpr fun k => (h k).symm.trans (by simp)
  exact e.length_eq
theorem cLenS {X : Cx} {w : World} (ew : X.w = w := by rfl) : CallR X (.builtin "len") (rLenS w) := by
  cases ew
  intro pins s σ H xs us Q I r h
  obtain ⟨ns, a, n, rfl, ha, nd, q⟩ := h
  rw [Vals.ref1 r]
  obtain ⟨o, es, ep, t, ho, hx, hd, _, nde, hS, hb, hf, rfl, _⟩ := setO_get I ha
  have el : es.size = ns.length := by
    have := card_eq nd nde hS
    rw [List.length_map, Array.length_toList] at this
    exact this
  refine call_len_set ho hx hd hf (by unfold scanBound at hb; omega) ?_
  exact ⟨.int (ns.length : Nat), H, I.tok _, ⟨_, by rw [← el]⟩, q⟩
/-- what the classes of errors must say -/
def xcB (K : PySem.W.Frag) (D : Addr) : Bool :=
  decide (PySem.W.findIn K (.ref D) "__getattribute__" = some (some (.builtin "BaseException.__getattribute__"))) && (decide (PySem.W.findIn K (.ref D) "__getattr__" = some none) && (decide (PySem.W.subIn K (.ref D) (.type "BaseException") = some true) && (PySem.W.hasDictIn K D &&
  (decide (PySem.W.findIn K (.ref D) "__class__" = some (some (.builtin "object.__class__"))) && (decide (PySem.W.specialIn K (.builtin "object.__class__") "__get__" = some (some (.builtin "getset_descriptor.__get__"))) && (decide (PySem.W.takesIn K (.builtin "object.__class__") = some true) && decide (PySem.W.mroIn K D (.type "object") = some true)))))))
theorem xcB_ok {K : PySem.W.Frag} {D : Addr} (h : xcB K D = true) : ExcC K D := by
  unfold xcB at h
  simp only [Bool.and_eq_true, decide_eq_true_eq] at h
  obtain ⟨h1, h2, h3, h4, h5, h6, h7, h8⟩ := h
  exact ⟨h1, h2, h3, h4, h5, h6, h7, h8⟩
def xcAll (K : PySem.W.Frag) (L : List Addr) : Bool := L.all (xcB K)
def kitAll (K : PySem.W.Frag) (L : List Addr) (v : Value) : Bool := L.all fun D => decide (PySem.W.kitOne K (.ref D) v = some true)
def kitRow (K : PySem.W.Frag) (D : Addr) (i : Nat) : Nat → List Addr → Bool
  | _, [] => true
  | j, C :: L => decide (PySem.W.kitOne K (.ref D) (.ref C) = some (decide (i = j))) && kitRow K D i (j + 1) L
def kitRows (K : PySem.W.Frag) (A : List Addr) : Nat → List Addr → Bool
  | _, [] => true
  | i, D :: L => kitRow K D i 0 A && kitRows K A (i + 1) L
def kitTab (K : PySem.W.Frag) (L : List Addr) : Bool := kitRows K L 0 L
theorem kitRow_at {K : PySem.W.Frag} {D : Addr} {i : Nat} : ∀ {L : List Addr} {n j : Nat} {C : Addr}, kitRow K D i n L = true → L[j]? = some C → PySem.W.kitOne K (.ref D) (.ref C) = some (decide (i = n + j))
  | [], _, _, _, _, e => by simp at e
  | B :: L, n, 0, C, h, e => by
    unfold kitRow at h
    rw [Bool.and_eq_true] at h
    have : B = C := Option.some.inj e
    subst this
    exact of_decide_eq_true h.1
  | B :: L, n, j + 1, C, h, e => by
    unfold kitRow at h
    rw [Bool.and_eq_true] at h
    have := kitRow_at (L := L) (n := n + 1) (j := j) (C := C) h.2 e
    rw [this, show n + 1 + j = n + (j + 1) by omega]
theorem kitRows_at {K : PySem.W.Frag} {A : List Addr} : ∀ {L : List Addr} {n i : Nat} {D : Addr}, kitRows K A n L = true → L[i]? = some D → kitRow K D (n + i) 0 A = true
  | [], _, _, _, _, e => by simp at e
  | B :: L, n, 0, D, h, e => by
    unfold kitRows at h
    rw [Bool.and_eq_true] at h
    have : B = D := Option.some.inj e
    subst this
    exact h.1
  | B :: L, n, i + 1, D, h, e => by
    unfold kitRows at h
    rw [Bool.and_eq_true] at h
    have := kitRows_at (L := L) (n := n + 1) (i := i) (D := D) h.2 e
    rw [show n + (i + 1) = n + 1 + i by omega]
    exact this
theorem kitTab_at {K : PySem.W.Frag} {L : List Addr} {i j : Nat} {D C : Addr} (h : kitTab K L = true) (d : L[i]? = some D) (c : L[j]? = some C) : PySem.W.kitOne K (.ref D) (.ref C) = some (decide (i = j)) := by
  have := kitRow_at (kitRows_at h d) c
  rw [Nat.zero_add, Nat.zero_add] at this
  exact this
theorem kitAll_at {K : PySem.W.Frag} {L : List Addr} {v : Value} {i : Nat} {D : Addr} (h : kitAll K L v = true) (d : L[i]? = some D) : PySem.W.kitOne K (.ref D) v = some true := of_decide_eq_true (List.all_eq_true.mp h D (List.mem_of_getElem? d))
theorem xcAll_at {K : PySem.W.Frag} {L : List Addr} {i : Nat} {D : Addr} (h : xcAll K L = true) (d : L[i]? = some D) : ExcC K D := xcB_ok (List.all_eq_true.mp h D (List.mem_of_getElem? d))
end Vw

set_option Elab.async false
set_option linter.all false
set_option maxRecDepth 100000
set_option maxHeartbeats 4000000
namespace Vw
open PySem PySem.Spec PyProof.Rows L2 RT LamX NdefX
/-! ### a function that is kept, and the one cell that it captured -/
def CelO (c : Addr) (v : V) : HO := .ext fun h => ∃ u, RelV v u ∧ h.IsCell c (some u)
theorem cel_ok {P : Program} {w : World} {H : Hp} {h : Heap} {c : Addr} {v : V} {u : Value} (r : RelV v u) (e : h.IsCell c (some u)) : ObjOk P w H h c (CelO c v) := by
  obtain ⟨o, ho, hd⟩ := e
  exact ⟨⟨u, r, o, ho, hd⟩, ⟨o, ho⟩, fun h1 h2 z k => by
    obtain ⟨u, r, o, q, d⟩ := z
    exact ⟨u, r, o, k _ q, d⟩⟩
theorem cel_at {P : Program} {w : World} {H : Hp} {h : Heap} {c : Addr} {v : V} (hok : HOk P w H h) (e : H c = some (CelO c v)) : ∃ u, RelV v u ∧ h.IsCell c (some u) := by
  have x : ObjOk P w H h c (.ext fun h => ∃ u, RelV v u ∧ h.IsCell c (some u)) := hok c _ e
  exact x.1
theorem cel_own {c x : Addr} {v : V} : CelO c v ≠ .own x := fun z => by
  have z' : HO.ext _ = HO.own x := z
  cases z'
theorem cel_tup {c : Addr} {v : V} {xs : List V} : CelO c v ≠ .tup xs := fun z => by
  have z' : HO.ext _ = HO.tup xs := z
  cases z'
theorem cel_frz {c : Addr} {v : V} {o : Obj} {u : HO} : CelO c v ≠ .frz o u := fun z => by
  have z' : HO.ext _ = HO.frz o u := z
  cases z'
theorem cel_tbl {c : Addr} {v : V} {ps : Array Value} : CelO c v ≠ .tbl ps := fun z => by
  have z' : HO.ext _ = HO.tbl ps := z
  cases z'
theorem hok_del {P : Program} {w : World} {H : Hp} {h : Heap} {c : Addr} {v : V} (hok : HOk P w H h) (e : H c = some (CelO c v)) : HOk P w (del H c) h := fun b o z => by
  have hb : b ≠ c := fun q => by rw [q, del_same] at z; cases z
  rw [del_ne hb] at z
  exact (hok b o z).stay (fun _ _ _ y => y) (fun d hd => by rw [del_ne (at_ne e hd cel_own)]; exact hd) (fun d xs hd => by rw [del_ne (at_ne e hd cel_tup)]; exact hd)
theorem hok_add {P : Program} {w : World} {H : Hp} {h : Heap} {c : Addr} {v : V} {u : Value} (hok : HOk P w H h) (n : H c = none) (r : RelV v u) (e : h.IsCell c (some u)) : HOk P w (upd H c (CelO c v)) h := fun b o z => by
  by_cases hb : b = c
  · subst hb
    rw [upd_same] at z
    cases z
    exact cel_ok r e
  · rw [upd_ne hb] at z
    exact (hok b o z).stay (fun _ _ _ y => y) (fun d hd => by rw [upd_ne (ne_of_none hd n)]; exact hd) (fun d xs hd => by rw [upd_ne (ne_of_none hd n)]; exact hd)
theorem un_back {fs : List Addr} {H H2 : Hp} {h h2 : Heap} {c : Addr} {v : V} (u : Un fs [] (del H c) H2 h h2) (e : H c = some (CelO c v)) : Un fs [] H (upd H2 c (CelO c v)) h h2 where
  keep := fun b o z n hf hx => u.keep b o z (by rw [del_ne (ne_of_none e n).symm]; exact n) hf hx
  slot := fun b o z n hf hx => u.slot b o z (by rw [del_ne (ne_of_none e n).symm]; exact n) hf hx
  free := fun b o z n hx => by rw [upd_ne (ne_of_none e n).symm]; exact u.free b o z (by rw [del_ne (ne_of_none e n).symm]; exact n) hx
  there := fun b o z hx => u.there b o z hx
  tups := fun b xs z => by
    have hb : b ≠ c := at_ne e z cel_tup
    rw [upd_ne hb]; exact u.tups b xs (by rw [del_ne hb]; exact z)
  frzs := fun b o y z => by
    have hb : b ≠ c := at_ne e z cel_frz
    rw [upd_ne hb]; exact u.frzs b o y (by rw [del_ne hb]; exact z)
  tbls := fun b ps z => by
    have hb : b ≠ c := at_ne e z cel_tbl
    rw [upd_ne hb]; exact u.tbls b ps (by rw [del_ne hb]; exact z)
/-! ### a lambda with parameters -/
def FnL (f : Addr) (F : NF) (b : Expr) : HO := .ext fun h => ∃ pm ctv : Value, h.get? f = some (PySem.W.kla_obj "<lambda>" F.qual F.params b F.scope F.cl pm F.c ctv)
theorem fnL_at {P : Program} {w : World} {H : Hp} {h : Heap} {f : Addr} {F : NF} {b : Expr} (hok : HOk P w H h) (e : H f = some (FnL f F b)) : ∃ pm ctv : Value, h.get? f = some (PySem.W.kla_obj "<lambda>" F.qual F.params b F.scope F.cl pm F.c ctv) := by
  have x : ObjOk P w H h f (.ext fun h => ∃ pm ctv : Value, h.get? f = some (PySem.W.kla_obj "<lambda>" F.qual F.params b F.scope F.cl pm F.c ctv)) := hok f _ e
  exact x.1
structure NOkL (P : Program) (w : World) (K : PySem.W.Frag) (mg : Str → Option Value) (base : Heap) (k : Nat) (f : Addr) (F : NF) (b : Expr) (ps fr : List Str) (sp : List (Option V) → Sp) : Prop where
  len : ∀ ws vs H Q E, sp ws vs H Q E → vs.length = ps.length
  run : ∀ (A : Around) (outer : List Env) (s : Shared) (H : Hp) (us : List Value) (vs : List V) (ws : List (Option V)) (Q : VK) (E : XK), Room k A → Env0 P w K mg base A outer s H → H f = some (FnL f F b) → H F.c = some (CodeO F.c F.qual) →
    CellsAt F.cl fr ws s.heap H → Vals vs us → sp ws vs H Q E → codeAny (model P w) A (.call (.ref f) ⟨us, []⟩) (CR CX0 outer P w H s Q E) s
section
variable {P : Program} {w : World} {K : PySem.W.Frag} {mg : Str → Option Value} {base : Heap} {N ps fr : List Str} {F : NF} {b : Expr} {f : Addr} {k j : Nat} {sp : List (Option V) → Sp}
theorem nokL_of (S : NScope N ps fr F.scope) (hb : ∀ (pm ctv : Value) (us : List Value), us.length = ps.length → bindArgs (PySem.W.kla_fn "<lambda>" F.qual F.params b F.scope F.cl pm (.ref F.c) ctv) ⟨us, []⟩ = pure (ps.zip us)) (len : ∀ ws vs H Q E, sp ws vs H Q E → vs.length = ps.length)
    (hbody : ∀ (A : Around) (outer : List Env) (s : Shared) (H : Hp) (vs : List V) (ws : List (Option V)) (Q : VK) (E : XK), Room k (A.deeper (envF F f s.heap.objs.size)) → ws.length = fr.length → sp ws vs H Q E →
      ∃ te, PE (ncx CX0 P w K mg base N F f A outer s H E) b te ∧ te (startF N vs ws) H Q) :
    NOkL P w K mg base (k + 1) f F b ps fr sp := by
  refine ⟨len, fun A outer s H us vs ws Q E hr e0 hf hc C r hsp => ?_⟩
  have hl := len _ _ _ _ _ hsp
  have lim : s.heap.NoLimit := e0.mod.nolimit.keeps fun b o e => (e0.bs b o e).1
  obtain ⟨pm, ctv, ho⟩ := fnL_at e0.hok hf
  refine PySem.W.kla_callFunE hr.depth ho rfl S.co S.gen rfl (codeO_at e0.hok hc) ?_
  rw [hb pm ctv us (by rw [← r.length]; exact hl)]
  refine wpAny_pure (wpAny_newFunctionEnv S.nocell (fun ⟨n, _⟩ hy => S.par n (List.of_mem_zip hy).1) (fun h₁ hns hsb => ⟨lim.fresh _ hsb, ?_⟩) S.kind)
  show codeAny _ _ (.expr b (envF F f s.heap.objs.size)) _ _
  have kp : ∀ b o, s.heap.get? b = some o → h₁.get? b = some o := fun b o e => hsb.extBut b o (Nat.ne_of_lt (Heap.lt_size e)) (Heap.get?_push_of_some _ e)
  obtain ⟨te, ht, hq⟩ := hbody A outer s H vs ws Q E (hr.deeper _) C.len hsp
  have I : Inv (ncx CX0 P w K mg base N F f A outer s H E) [] (startF N vs ws) H { s with heap := h₁, toks := s.toks + (ps.zip us).length } := inv_startN S hr.hd e0 hl r C hns kp
  refine PySem.W.kla_codeExpr (wpAny_mono (ht.run [] _ (startF N vs ws) H _ I hq) (fun v s' hs => ?_) fun e s' hs => hs)
  obtain ⟨w', H', J, rv, q⟩ := hs
  exact ⟨w', H', J.os, J.bare, J.base, J.hok, rv, q⟩
end
section
variable {X : Cx} {k : Nat} {f c : Addr} {F : NF} {b : Expr} {ps : List Str} {y0 : Str} {v0 : V} {sp : List (Option V) → Sp}
theorem run_kept {pins : List (Addr × Obj)} {σ : L2.St} {H : Hp} {s : Shared} {Q : VK} {us : List Value} {vs : List V} (Fn : NOkL X.prog X.w X.K X.mg X.base k f F b ps [y0] sp) (hr : Room k X.A) (hcl : F.cl = [(y0, c)]) (I : Inv X pins σ H s)
    (hf : H f = some (FnL f F b)) (hc : H F.c = some (CodeO F.c F.qual)) (hv : H c = some (CelO c v0)) (r : Vals vs us) (q : sp [some v0] vs (del H c) (fun v H2 => H2 c = none → Q v (upd H2 c (CelO c v0))) (fun _ _ _ => False)) :
    wpAny (model X.prog X.w) X.A (call (.ref f) us) (EP X pins σ Q) X.xe s := by
  obtain ⟨u0, r0, o0, ho0, hd0⟩ := cel_at I.hok hv
  have fc : f ≠ c := fun z => by
    obtain ⟨pm, ctv, ho⟩ := fnL_at I.hok hf
    rw [z, ho0] at ho
    cases ho
    cases hd0
  have cc : F.c ≠ c := fun z => by
    obtain ⟨c1, oc, us, t, ec, ho, hd, _⟩ := codeO_at I.hok hc
    cases ec
    rw [z, ho0] at ho
    cases ho
    rw [hd0] at hd
    cases hd
  have e0 := I.env0
  have e1 : Env0 X.prog X.w X.K X.mg X.base X.A X.stack s (del H c) := ⟨e0.frames, e0.mod, fun b o z => ⟨(e0.bs b o z).1, by
      have n := (e0.bs b o z).2
      rw [del_ne (ne_of_none hv n).symm]; exact n⟩, e0.bsz, e0.funs, fun b hb => by
      have n := e0.frf b hb
      rw [del_ne (ne_of_none hv n).symm]; exact n, hok_del e0.hok hv, e0.bare⟩
  have C : CellsAt F.cl [y0] [some v0] s.heap (del H c) := by
    rw [hcl]
    refine ⟨rfl, fun y a e => ?_, fun x y a e1 e2 => ?_, fun i y e => ?_⟩
    · have : y = y0 ∧ a = c := by
        rw [List.lookup_cons] at e
        split at e
        · next h => exact ⟨eq_of_beq h, (Option.some.inj e).symm⟩
        · cases e
      rw [this.2]
      exact ⟨del_same, _, o0, ho0, hd0⟩
    · have one : ∀ {z : Str}, ([(y0, c)] : List (Str × Addr)).lookup z = some a → z = y0 := fun {z} e => by
        rw [List.lookup_cons] at e
        split at e
        · next h => exact eq_of_beq h
        · cases e
      rw [one e1, one e2]
    · cases i with
      | zero =>
        cases e
        refine ⟨c, by rw [List.lookup_cons, beq_self_eq_true], fun v ev => ?_⟩
        cases ev
        exact ⟨u0, r0, o0, ho0, hd0⟩
      | succ i => simp at e
  have cf : c ∉ frs X.stack := fun hb => by
    rw [e0.frf c hb] at hv; cases hv
  refine wpAny_call (codeAny_mono (Fn.run X.A X.stack s (del H c) us vs _ _ _ hr e1 (by rw [del_ne fc]; exact hf) (by rw [del_ne cc]; exact hc) C r q) fun res s' hq => ?_)
  cases res with
  | error e => exact False.elim hq
  | ok fl =>
    cases fl with
    | ret u =>
      obtain ⟨v, H2, os, bare, un, hok2, rv, q2⟩ := hq
      have n2 : H2 c = none := un.free c o0 ho0 del_same (List.not_mem_nil)
      have k2 := un.keep c o0 ho0 del_same cf (List.not_mem_nil)
      exact I.after ⟨v, _, os, bare, un_back un hv, hok_add hok2 n2 r0 ⟨o0, k2, hd0⟩, rv, q2 n2⟩
    | next => exact False.elim hq
    | brk => exact False.elim hq
    | cont => exact False.elim hq
end
/-- f(..), the slot i holds a kept lambda; told: its function, its code, its cell -/
def tCallKp (mk : Addr → Addr → NF) (b : Expr) (i : Nat) (sp : List (Option V) → Sp) (t : TA) : TE := fun σ H Q => ∃ (f q c : Addr) (v0 : V), σ[i]? = some (some (.ref f)) ∧ H f = some (FnL f (mk q c) b) ∧
  t σ H fun vs H1 => H1 f = some (FnL f (mk q c) b) ∧ H1 (mk q c).c = some (CodeO (mk q c).c (mk q c).qual) ∧ H1 c = some (CelO c v0) ∧ sp [some v0] vs (del H1 c) (fun v H2 => H2 c = none → Q v (upd H2 c (CelO c v0))) (fun _ _ _ => False)
section
variable {X : Cx} {mk : Addr → Addr → NF} {b : Expr} {i k : Nat} {x y0 : Str} {ps : List Str} {sp : List (Option V) → Sp} {t : TA} {e : Expr} {es : List Expr} {p pos : Pos}
theorem fnL_place {pins : List (Addr × Obj)} {σ : L2.St} {H : Hp} {s : Shared} {f : Addr} {F : NF} (I : Inv X pins σ H s) (at_ : H f = some (FnL f F b)) : PySem.W.FnAt f s.heap := by
  obtain ⟨_, _, ho⟩ := fnL_at I.hok at_
  exact ⟨_, _, _, _, ho⟩
theorem pe_callKp (Fn : ∀ f q c, NOkL X.prog X.w X.K X.mg X.base k f (mk q c) b ps [y0] sp) (hcl : ∀ q c, (mk q c).cl = [(y0, c)]) (room : Room k X.A) (nm : X.N[i]? = some x) (vis : Vis X.env.scope x) (args : PA X (e :: es) t)
    (nd : (x == ("__debug__" : Str)) = false := by decide) (nc : (x == ("__classdict__" : Str)) = false := by decide)
    (st1 : starEach (e :: es) X.env = (false, eval e X.env) :: starEach es X.env := by rfl) (st2 : (backTo pos (starEach es X.env)).any (·.1) = false := by rfl) :
    PE X (.Call (.Name x p) (e :: es) [] pos) (tCallKp mk b i sp t) := by
  refine ⟨fun pins s σ H Q I h => ?_⟩
  obtain ⟨f, q, c, v0, slot, fn, h⟩ := h
  refine wpAny_Call_Name_kw (thn ((pe_var (pos := p) nm vis nd nc).run pins s σ H (fun v H1 => v = .ref f ∧ H1 = H) I ⟨.ref f, slot, rfl, rfl⟩) fun w1 s1 found => ?_)
  obtain ⟨_, H1, J, r1, rfl, rfl⟩ := found
  cases r1
  exact PySem.W.callWith_F (first := []) (fnL_place J fn) (thn (args.run pos pins s1 σ _ _ J h) fun us s2 ⟨vs, H2, J2, rel, k1, k2, k3, ask⟩ => ⟨fnL_place J2 k1, run_kept (Fn f q c) room (hcl q c) J2 k1 k2 k3 rel ask⟩) st1 st2
end
end Vw
namespace Vw
open PySem PySem.Spec PyProof.Rows L2 RT LamX NdefX
/-! ### a lambda made and kept -/
section
variable {X : Cx} {pins : List (Addr × Obj)} {σ : L2.St} {H : Hp} {s : Shared} {T : List (Addr × Str)} {P c : Addr} {q : Str}
theorem fnL_ok {Pg : Program} {w : World} {H : Hp} {h : Heap} {f : Addr} {F : NF} {b : Expr} {pm ctv : Value} (e : h.get? f = some (PySem.W.kla_obj "<lambda>" F.qual F.params b F.scope F.cl pm F.c ctv)) : ObjOk Pg w H h f (FnL f F b) :=
  ⟨⟨pm, ctv, e⟩, ⟨_, e⟩, fun h1 h2 z k => by
    obtain ⟨pm, ctv, z⟩ := z
    exact ⟨pm, ctv, k _ z⟩⟩
/-- the function made by a lambda -/
abbrev lamF (q : Str) (params : Arguments) (scope : Scope) (cl : List (Str × Addr)) (c' : Addr) : NF := ⟨"<lambda>", q, params, [], scope, cl, c'⟩
/-- a code object more in the table of its maker -/
theorem tabs_more {ps : Array Value} {pos : Pos} {c' : Addr} (all : Tabs T H) (at_ : H P = some (.tbl ps)) (ok : TriplesOk ps.toList) (told : ∀ (p' : Pos) (cv : Value), codeAmong p' ps.toList = some cv → ∃ c, cv = .ref c ∧ H c = some (CodeO c q)) (one : ∀ p ∈ T, p.1 = P → p.2 = q) (new : H c' = none) :
    ExtN H (upd (upd H P (.tbl (ps ++ #[rawInt pos.line, rawInt pos.col, .ref c']))) c' (CodeO c' q)) ∧ Tabs T (upd (upd H P (.tbl (ps ++ #[rawInt pos.line, rawInt pos.col, .ref c']))) c' (CodeO c' q)) := by
  have ext : ExtN H (upd (upd H P (.tbl (ps ++ #[rawInt pos.line, rawInt pos.col, .ref c']))) c' (CodeO c' q)) := fun d o z no => by
    have dP : d ≠ P := fun y => by
      rw [y, at_] at z
      exact no ps (Option.some.inj z).symm
    rw [upd_ne (ne_of_none z new), upd_ne dP]
    exact z
  refine ⟨ext, fun p hp => ?_⟩
  obtain ⟨rs, r1, r2, r3⟩ := all p hp
  by_cases same : p.1 = P
  · have eq_ := one p hp same
    rw [same, eq_]
    have split : (ps ++ #[rawInt pos.line, rawInt pos.col, .ref c']).toList = ps.toList ++ [rawInt pos.line, rawInt pos.col, .ref c'] := Array.toList_append
    refine ⟨_, (upd_ne (ne_of_none at_ new)).trans upd_same, split ▸ PySem.TriplesOk_snoc _ _ _ _ ok, fun p' cv found => ?_⟩
    rw [split] at found
    rcases among_app _ ok found with y | y
    · obtain ⟨d, e1, e2⟩ := told p' cv y
      exact ⟨d, e1, ext _ _ e2 codeO_ne⟩
    · exact ⟨c', y, upd_same⟩
  · refine ⟨rs, (upd_ne (ne_of_none r1 new)).trans ((upd_ne same).trans r1), r2, fun p' cv found => ?_⟩
    obtain ⟨d, e1, e2⟩ := r3 p' cv found
    exact ⟨d, e1, ext _ _ e2 codeO_ne⟩
theorem keep_upd {H : Hp} {f : Addr} {u : HO} (n : H f = none) : ∀ d o, H d = some o → upd H f u d = some o := fun d o z => (upd_ne (ne_of_none z n)).trans z
/-- the lambda's function is new, tracked, and stays -/
theorem lam_kept {params : Arguments} {body : Expr} {scope : Scope} {pos : Pos} {E : Value → Shared → Prop} {Q : Value → Shared → Prop} (I : Inv X pins σ H s) (B : LamX.TabB X.base X.mg c P) (code : X.env.code = .ref c) (eq_ : X.env.qual ++ "<lambda>" = q)
    (mine : (P, q) ∈ T) (one : ∀ p ∈ T, p.1 = P → p.2 = q) (all : Tabs T H) (plain : defaultsOf params X.env = ([], [])) (has : ∀ y ∈ scope.names, y.2 = .free → ∃ c, X.env.cells.lookup y.1 = some c)
    (h : ∀ (f c' : Addr) (H1 : Hp) (s' : Shared), Inv X pins σ H1 s' → ExtN H H1 → Tabs T H1 → H f = none → H1 f = some (FnL f (lamF q params scope (cloFrom X.env.cells scope.names []) c') body) → H1 c' = some (CodeO c' q) → Q (.ref f) s') :
    wpAny (model X.prog X.w) X.A (eval (.Lambda params body scope pos) X.env) Q E s := by
  subst eq_
  obtain ⟨ps, at_, ok, told⟩ := all _ mine
  refine PySem.W.kla_eval plain ?_
  have lies := I.hok P _ at_
  have bm : s.heap.BuiltinsAt X.mg P := B.bm.keeps I.bk
  cases found : codeAmong pos ps.toList with
  | some cv =>
    obtain ⟨c', rfl, known⟩ := told pos cv found
    refine PySem.W.kla_makeFunctionHit (mg := X.mg) (c := c) (P := P) (ps := ps) (closure_ok has) I.ok.glob (I.mod.glob.keeps I.bk) code (B.code.keeps I.bk) lies ok found bm fun ctv g tk kept grown => ?_
    have J : Inv X pins σ (upd H g.objs.size (FnL g.objs.size (lamF (X.env.qual ++ "<lambda>") params scope (cloFrom X.env.cells scope.names []) c') body)) _ :=
      I.laid (t' := tk) (fun d o z => Heap.get?_push_of_some (PySem.W.kla_obj "<lambda>" (X.env.qual ++ "<lambda>") params body scope (cloFrom X.env.cells scope.names []) ((X.mg "__name__").getD .none) c' ctv) (kept d o z)) grown (fnL_ok (Heap.get?_push_size _ rfl))
    have new : H g.objs.size = none := I.hok.fresh grown
    have ext : ∀ d o, H d = some o → upd H g.objs.size (FnL g.objs.size (lamF (X.env.qual ++ "<lambda>") params scope (cloFrom X.env.cells scope.names []) c') body) d = some o := fun d o z => (upd_ne (ne_of_none z new)).trans z
    exact h _ c' _ _ J (ExtN.of ext) (all.ext ext) new upd_same (ext _ _ known)
  | none =>
    refine PySem.W.kla_makeFunction (mg := X.mg) (c := c) (P := P) (ps := ps) (closure_ok has) I.ok.glob (I.mod.glob.keeps I.bk) code (B.code.keeps I.bk) lies ok found B.gP bm fun c' ctv g tk kept above below record table => ?_
    obtain ⟨c2, oc, us, t, ec, r1, r2, r3⟩ := record
    cases ec
    have J := inv_table (t' := tk) (q := X.env.qual ++ "<lambda>") (more := #[rawInt pos.line, rawInt pos.col, .ref c']) I at_ kept table above ⟨oc, us, t, r1, r2, r3⟩
    obtain ⟨ext, tabs⟩ := tabs_more (pos := pos) all at_ ok told one (I.hok.fresh above)
    have new := J.hok.fresh (Nat.le_refl g.objs.size)
    have J2 := J.laid (t' := tk) (a := g.objs.size) (o := FnL g.objs.size (lamF (X.env.qual ++ "<lambda>") params scope (cloFrom X.env.cells scope.names []) c') body) (fun d o z => Heap.get?_push_of_some (PySem.W.kla_obj "<lambda>" (X.env.qual ++ "<lambda>") params body scope (cloFrom X.env.cells scope.names []) ((X.mg "__name__").getD .none) c' ctv) z) (Nat.le_refl _) (fnL_ok (Heap.get?_push_size _ rfl))
    exact h _ c' _ _ J2 (ext.trans (ExtN.of (keep_upd new))) (tabs.ext (keep_upd new)) (I.hok.fresh (Nat.le_trans above (Nat.le_of_lt below))) upd_same (keep_upd new _ _ upd_same)
end
end Vw
namespace Vw
open PySem PySem.Spec PyProof.Rows L2 RT LamX NdefX
section
variable {X : Cx} {T : List (Addr × Str)} {P c : Addr} {q : Str}
/-- the reading of a lambda that is kept -/
def tLamK (T : List (Addr × Str)) (q : Str) (params : Arguments) (scope : Scope) (cl : List (Str × Addr)) (b : Expr) : TE := fun _ H Q => Tabs T H ∧ ∀ (f c' : Addr) (H1 : Hp), ExtN H H1 → Tabs T H1 → H f = none → H1 f = some (FnL f (lamF q params scope cl c') b) → H1 c' = some (CodeO c' q) → Q (.ref f) H1
theorem pe_lamK {params : Arguments} {body : Expr} {scope : Scope} {pos : Pos} {cl : List (Str × Addr)} (B : LamX.TabB X.base X.mg c P) (code : X.env.code = .ref c) (eq_ : X.env.qual ++ "<lambda>" = q)
    (mine : (P, q) ∈ T) (one : ∀ p ∈ T, p.1 = P → p.2 = q) (plain : defaultsOf params X.env = ([], [])) (has : ∀ y ∈ scope.names, y.2 = .free → ∃ c, X.env.cells.lookup y.1 = some c) (caps : cloFrom X.env.cells scope.names [] = cl) :
    PE X (.Lambda params body scope pos) (tLamK T q params scope cl body) := by
  subst caps
  exact ⟨fun pins s σ H Q I h => lam_kept I B code eq_ mine one h.1 plain has fun f c' H1 s2 J e1 e2 e3 e4 e5 => ⟨.ref f, H1, J, rfl, h.2 f c' H1 e1 e2 e3 e4 e5⟩⟩
end
/-! ### a def of one return, whose captured parameter is known from its end on -/
theorem un_add {fs ex : List Addr} {H H2 : Hp} {h h2 : Heap} {c : Addr} {o : HO} (u : Un fs ex H H2 h h2) (new : h.objs.size ≤ c) (n : H2 c = none) : Un fs ex H (upd H2 c o) h h2 where
  keep := u.keep
  slot := u.slot
  free := fun b v z k x => by
    have : b ≠ c := fun e => absurd (e ▸ Heap.lt_size z) (Nat.not_lt.mpr new)
    rw [upd_ne this]; exact u.free b v z k x
  there := u.there
  tups := fun b xs z => keep_upd n _ _ (u.tups b xs z)
  frzs := fun b v y z => keep_upd n _ _ (u.frzs b v y z)
  tbls := fun b ps z => (u.tbls b ps z).imp fun _ r => keep_upd n _ _ r
theorem ret_run {X : Cx} {e : Expr} {te : TE} {pos : Pos} {σ : L2.St} {H : Hp} {s : Shared} {R : VK} {Q : Flow → Shared → Prop} (pe : PE X e te) (J : Inv X [] σ H s) (z : te σ H R) (k : ∀ (v : V) (u : Value) (H2 : Hp) (s2 : Shared), Inv X [] σ H2 s2 → RelV v u → R v H2 → Q (.ret u) s2) :
    wpAny (model X.prog X.w) X.A (execs [.Return (some e) pos] X.env) Q X.xe s :=
  wpAny_execs_cons (thn (wpAny_Return_some (Q := fun fl s2 => ∃ u, fl = .ret u ∧ Q (.ret u) s2) (thn (pe.run [] s σ H R J z) fun u s2 ⟨v, H2, J2, r, q⟩ => ⟨u, rfl, k v u H2 s2 J2 r q⟩)) fun fl s2 ⟨u, efl, q⟩ => by
    subst efl
    exact q)
end Vw
namespace Vw
open PySem PySem.Spec PyProof.Rows L2 RT LamX NdefX
section
variable {P : Program} {w : World} {K : PySem.W.Frag} {mg : Str → Option Value} {base : Heap}
theorem fnK_of {CX : CXT} {k : Nat} {f : Addr} {nm ql : Str} {pr : Arguments} {sc : Scope} {dV kV dc pm cv ct oc : Value} {an od : Option Addr} {osl : Array (Option Value)} {N ps : List Str} {sp : Sp} {e : Expr} {pos : Pos} {y : Str}
    (lk : K.lookup f = some ⟨oc, od, .func (PySem.W.fnOf nm ql pr [.Return (some e) pos] sc dV kV dc pm an cv ct), osl⟩) (cd : PySem.W.codeIn K cv ql = true) (S : FnScope N ps sc) (cel : sc.names.lookup y = some .cell) (len : ∀ vs H Q E, sp vs H Q E → vs.length = ps.length)
    (body : ∀ (A : Around) (outer : List Env) (s : Shared) (H : Hp) (vs : List V) (Q : VK) (E : XK), Room k (A.deeper (envOfC ql sc s.heap.objs.size f cv)) → sp vs H Q E →
      ∃ (te : TE) (i : Nat) (v0 : V), PE (cxOf CX P w K mg base N ql sc f cv A outer s H E) e te ∧ N[i]? = some y ∧ (start N vs)[i]? = some (some v0) ∧
        te (start N vs) H (fun v H2 => ∀ c, (cxOf CX P w K mg base N ql sc f cv A outer s H E).env.cells.lookup y = some c → H2 c = none → Q v (upd H2 c (CelO c v0)))) :
    FnOk P w K mg base CX (k + 1) f (PySem.W.fnOf nm ql pr [.Return (some e) pos] sc dV kV dc pm an cv ct) ps sp := by
  refine ⟨len, fun A outer s H args us vs Q E rm e0 bt rv hs => ?_⟩
  have keepK : K.In s.heap := e0.mod.kin.keeps fun b o z => (e0.bs b o z).1
  have limK : s.heap.NoLimit := e0.mod.nolimit.keeps fun b o z => (e0.bs b o z).1
  have par : ∀ y ∈ ps.zip us, sc.names.lookup y.1 = some .local ∨ (sc.names.lookup y.1 = some .cell ∧ ((cellsFrom (s.heap.objs.size + 1) sc.names []).lookup y.1).isSome = true) := by
    rintro ⟨n, v⟩ hy
    exact (S.par n (List.of_mem_zip hy).1).imp id fun q => ⟨q, PySem.W.cellsFrom_some _ _ _ (.inl q)⟩
  refine codeAny_call_function rm.depth (keepK _ _ lk) rfl S.co S.gen rfl (PySem.W.codeRec_of keepK cd) (bt _ _ _ _ (wpAny_newFunctionEnv_cells S.kind par fun env he s1 x => ?_))
  subst he
  refine ⟨limK.keeps x.toInCall.keep, codeAny_func ?_⟩
  obtain ⟨te, i, v0, pe, at_, slot, z⟩ := body A outer s H vs Q E (rm.deeper _) hs
  have J : Inv (cxOf CX P w K mg base N ql sc f cv A outer s H E) [] (start N vs) H s1 := inv_start S rm.hd e0 (len _ _ _ _ hs) rv x
  refine wpAny_mono (ret_run (Q := fun fl s2 => ∃ u, fl = .ret u ∧ CE outer P w H s Q u s2) pe J z fun v u H2 s2 J2 r q => ⟨u, rfl, ?_⟩) (fun fl s2 ⟨u, efl, q⟩ => by
    subst efl
    exact q) fun _ _ q => q
  obtain ⟨m, _, look⟩ := J2.loc
  obtain ⟨u0, r0, l⟩ := look i y v0 at_ slot (.inr (.inl cel))
  rcases l with ⟨l, _⟩ | ⟨_, c, hc, hcell⟩
  · have l : sc.names.lookup y = some .local := l
    rw [cel] at l; cases l
  · have n := J2.freeC y c hc
    exact ⟨v, _, J2.os, J2.bare, un_add J2.base (J2.ok.cab y c rfl hc) n, hok_add J2.hok n r0 hcell, r, q c hc n⟩
end
end Vw
namespace Vw
open PySem PySem.Spec PyProof.Rows L2 RT LamX NdefX
section
variable {P : Program} {w : World} {K : PySem.W.Frag} {mg : Str → Option Value} {base : Heap}
/-- the maker as it stands in the text: one return, y the captured parameter -/
theorem DefAtL.okK {x qual : Str} {st : Stmt} {N ps : List Str} {k : Nat} {sp : Sp} {e : Expr} {pos : Pos} {y : Str} (D : DefAtL K mg x qual st ps) (S : FnScope N ps (defScope st)) (one : defBody st = [.Return (some e) pos]) (cel : (defScope st).names.lookup y = some .cell) (len : ∀ vs H Q E, sp vs H Q E → vs.length = ps.length)
    (body : ∀ (A : Around) (outer : List Env) (s : Shared) (H : Hp) (vs : List V) (Q : VK) (E : XK), Room k (A.deeper (envOfC qual (defScope st) s.heap.objs.size D.f (.ref D.c))) → sp vs H Q E →
      ∃ (te : TE) (i : Nat) (v0 : V), PE (cxOf CX0 P w K mg base N qual (defScope st) D.f (.ref D.c) A outer s H E) e te ∧ N[i]? = some y ∧ (start N vs)[i]? = some (some v0) ∧
        te (start N vs) H (fun v H2 => ∀ c, (cxOf CX0 P w K mg base N qual (defScope st) D.f (.ref D.c) A outer s H E).env.cells.lookup y = some c → H2 c = none → Q v (upd H2 c (CelO c v0)))) :
    FnOk P w K mg base CX0 (k + 1) D.f D.fd ps sp := by
  obtain ⟨_, _, _, _, _, _, _, _, e1, lk, cd⟩ := D.ex
  rw [e1] at lk ⊢
  rw [one] at lk ⊢
  exact fnK_of lk cd S cel len body
end
end Vw

set_option Elab.async false
set_option linter.all false
set_option maxRecDepth 100000
set_option maxHeartbeats 4000000
namespace Vw
open PySem PySem.Spec PyProof.Rows L2 RT
/-! ### dicts keyed by tuples within tuples: their keys are told of, their values are not -/
mutual
inductive Nk (H : Hp) : NestedKey → V → Prop
  | non : Nk H .none .non
  | int (i : Int) : Nk H (.num i) (.int i)
  | str (x : Str) : Nk H (.text x) (.str x)
  | tup {a : Addr} {xs : List V} {ks : List NestedKey} : H a = some (.tup xs) → NkA H ks xs → Nk H (.tup ks) (.ref a)
inductive NkA (H : Hp) : List NestedKey → List V → Prop
  | nil : NkA H [] []
  | cons {k : NestedKey} {ks : List NestedKey} {x : V} {xs : List V} : Nk H k x → NkA H ks xs → NkA H (k :: ks) (x :: xs)
end
section
variable {P : Program} {w : World} {H : Hp} {h : Heap}
mutual
theorem nk_is (ok : HOk P w H h) : ∀ (k : NestedKey) (x : V) (u : Value), Nk H k x → RelV x u → NestedIs h k u
  | .none, _, _, n, r => by
    cases n; cases r
    exact .none
  | .num i, _, _, n, r => by
    cases n
    obtain ⟨t, rfl⟩ := r
    exact .int i t
  | .text x, _, _, n, r => by
    cases n
    obtain ⟨t, rfl⟩ := r
    exact .text x t
  | .tup ks, _, _, n, r => by
    cases n with
    | tup at_ all =>
      cases r
      obtain ⟨_, its, rel, o, ho, hc, m, hd⟩ := (show ObjOk P w H h _ (.tup _) from ok _ _ at_)
      exact .tup ho hc hd (nk_all ok ks _ _ all (by simpa using rel))
theorem nk_all (ok : HOk P w H h) : ∀ (ks : List NestedKey) (xs : List V) (us : List Value), NkA H ks xs → Vals xs us → NestedAll h ks us
  | [], _, _, n, r => by
    cases n; cases r
    exact .nil
  | k :: ks, _, _, n, r => by
    cases n with
    | cons n1 n2 =>
      cases r with
      | cons r1 r2 => exact .cons (nk_is ok k _ _ n1 r1) (nk_all ok ks _ _ n2 r2)
end
end
/-- the dict at a: the keys, and where they lie, in their order -/
def dnO (P : Program) (w : World) (a : Addr) (ents : List (NestedKey × Addr)) : HO := .ext fun h => ∃ (xs : List (NestedKey × Addr × Value)) (o : Obj) (es : Array DictEntry) (ep : Nat), h.get? a = some o ∧ o.ExactDict ∧ o.data = .dict es ep ∧ es.toList = xs.map (entryOfKey (nestedKind P w)) ∧ xs.map (fun x => (x.1, x.2.1)) = ents ∧ (a == sysModules) = false
structure DnAt (P : Program) (w : World) (H : Hp) (a : Addr) (ents : List (NestedKey × Addr)) : Prop where
  at_ : H a = some (dnO P w a ents) ∨ (H a = some (.dK []) ∧ ents = [])
  len : ents.length ≤ 100000
  nd : (ents.map (·.1)).Nodup
  keys : ∀ p ∈ ents, Nk H p.1 (.ref p.2) ∧ p.1.depth ≤ 8
def putN (ents : List (NestedKey × Addr)) (k : NestedKey) (b : Addr) : List (NestedKey × Addr) := if k ∈ ents.map (·.1) then ents else ents ++ [(k, b)]
section
variable {P : Program} {w : World} {H : Hp} {h : Heap} {a b : Addr} {ents : List (NestedKey × Addr)}
theorem dn_of (ok : HOk P w H h) (D : DnAt P w H a ents) : ∃ xs, xs.map (fun x => (x.1, x.2.1)) = ents ∧ (a == sysModules) = false ∧ h.DictOfH (nestedKind P w) a xs := by
  rcases D.at_ with e | ⟨e, rfl⟩
  · obtain ⟨xs, o, es, ep, h1, h2, h3, h4, h5, h6⟩ : ∃ (xs : List (NestedKey × Addr × Value)) (o : Obj) (es : Array DictEntry) (ep : Nat), h.get? a = some o ∧ o.ExactDict ∧ o.data = .dict es ep ∧ es.toList = xs.map (entryOfKey (nestedKind P w)) ∧ xs.map (fun x => (x.1, x.2.1)) = ents ∧ (a == sysModules) = false := by
      have x : ObjOk P w H h a (dnO P w a ents) := ok a _ e
      exact x.1
    refine ⟨xs, h5, h6, o, es, ep, h1, h2, h3, h4, fun x hx => ?_, ?_⟩
    · have hp : (x.1, x.2.1) ∈ ents := h5 ▸ List.mem_map.mpr ⟨x, hx, rfl⟩
      have q := D.keys _ hp
      exact ⟨nk_is ok _ _ _ q.1 rfl, q.2⟩
    · have := D.nd
      rw [← h5, List.map_map] at this
      exact this
  · obtain ⟨_, h6, vs, kv, o, es, ep, h1, h2, h3, _, h4, _⟩ := dk_of ok e
    cases kv
    refine ⟨[], rfl, h6, o, es, ep, h1, h2, h3, ?_, (fun x hx => nomatch hx), List.nodup_nil⟩
    generalize es.toList = l at *
    cases h4
    rfl
theorem keys_put {xs : List (NestedKey × Addr × Value)} {k : NestedKey} {v : Value} : (storedH xs k b v).map (fun x => (x.1, x.2.1)) = putN (xs.map fun x => (x.1, x.2.1)) k b := by
  have e : (xs.map fun x => (x.1, x.2.1)).map (·.1) = xs.map (·.1) := by rw [List.map_map]; rfl
  unfold storedH putN
  rw [e]
  by_cases q : k ∈ xs.map (·.1)
  · have s : (atKey xs k).isSome = true := by
      obtain ⟨x, hx, rfl⟩ := List.mem_map.mp q
      unfold atKey
      rw [Option.isSome_map, List.find?_isSome]
      exact ⟨x, hx, decide_eq_true rfl⟩
    rw [if_pos s, if_pos q, List.map_map]
    refine List.map_congr_left fun x _ => ?_
    show ((putAt k v x).1, (putAt k v x).2.1) = _
    unfold putAt
    split <;> rfl
  · have s : ¬ (atKey xs k).isSome = true := fun s => by
      unfold atKey at s
      rw [Option.isSome_map, List.find?_isSome] at s
      obtain ⟨x, hx, e⟩ := s
      exact q (List.mem_map.mpr ⟨x, hx, of_decide_eq_true e⟩)
    rw [if_neg s, if_neg q, List.map_append]
    rfl
end
section
variable {X : Cx} {pins : List (Addr × Obj)} {σ : L2.St} {H : Hp} {s : Shared} {a b : Addr} {ents : List (NestedKey × Addr)} {k : NestedKey} {v : V} {r : Value}
theorem in1_room {A : Around} (h : A.units + 16 < cLine) : A.in1.units + 8 < cLine := by
  show A.units + 1 + 8 < cLine
  omega
theorem n_setItem {Q : Unit → Shared → Prop} {E : Value → Shared → Prop} (room : X.A.units + 16 < cLine) (I : Inv X pins σ H s) (D : DnAt X.prog X.w H a ents) (n : Nk H k (.ref b)) (dp : k.depth ≤ 8)
    (h : ∀ s2, Inv X pins σ (upd H a (dnO X.prog X.w a (putN ents k b))) s2 → Q () s2) : wpAny (model X.prog X.w) X.A (setItem (.ref a) (.ref b) r) Q E s := by
  obtain ⟨xs, e, ns, dd⟩ := dn_of I.hok D
  have few : xs.length ≤ sizeLine := by
    have e2 : xs.length = ents.length := by rw [← e, List.length_map]
    rw [e2, sizeLine_eq]
    have := D.len
    omega
  refine wpAny_setItem_heap (knd := nestedKind X.prog X.w) (k := k) (hsz := few) (in1_room room) ⟨nk_is I.hok _ _ _ n rfl, dp⟩ dd fun g dd2 same => h _ ?_
  obtain ⟨o, es, ep, h1, h2, h3, h4, _, _⟩ := dd2
  have mu : Mut (H a) := by
    rcases D.at_ with q | ⟨q, _⟩ <;> rw [q] <;> exact True.intro
  refine d_write I mu same ⟨o, h1⟩ ⟨⟨_, o, es, ep, h1, h2, h3, h4, by rw [keys_put, e], ns⟩, ⟨o, h1⟩, fun g1 g2 z st => ?_⟩
  obtain ⟨ys, o, es, ep, z1, z2⟩ := z
  exact ⟨ys, o, es, ep, st _ z1, z2⟩
/-- d[k] = v, d keyed by tuples within tuples -/
def sNPut (P : Program) (w : World) (td ty tv : TE) : TS := fun D σ H => tv σ H fun _ H1 => td σ H1 fun x H2 => ty σ H2 fun y H3 => ∃ (a b : Addr) (ents : List (NestedKey × Addr)) (k : NestedKey), x = .ref a ∧ y = .ref b ∧ DnAt P w H3 a ents ∧ Nk H3 k (.ref b) ∧ k.depth ≤ 8 ∧ D.nx σ (upd H3 a (dnO P w a (putN ents k b)))
theorem ps_nput {o i value : Expr} {td ty tv : TE} {p1 pos : Pos} (room : X.A.units + 16 < cLine) (ho : PE X o td) (hi : PE X i ty) (hv : PE X value tv) (one : swapsWith value (some (.Subscript o i p1)) pos.line X.env = pure false) :
    PS X (.Assign [.Subscript o i p1] value pos) (sNPut X.prog X.w td ty tv) := by
  refine ⟨fun pins s σ H D I h => wpAny_Assign_Subscript (thn (hv.run pins s σ H _ I h) fun r s1 ⟨_, H1, I1, _, q1⟩ => thn (ho.run pins s1 σ H1 _ I1 q1) fun u s2 ⟨x, H2, I2, rx, q2⟩ => thn (hi.run pins s2 σ H2 _ I2 q2) fun iv s3 ⟨y, H3, I3, ry, a, b, ents, k, ex, ey, dn, nk, dp, q⟩ => ?_) one⟩
  subst ex ey
  cases rx; cases ry
  exact n_setItem room I3 dn nk dp fun s4 I4 => ⟨σ, _, I4, q⟩
end
section
variable {P : Program} {w : World} {H : Hp} {a b : Addr} {o : HO} {ents : List (NestedKey × Addr)} {k : NestedKey}
mutual
theorem Nk.upd (no : ∀ xs, H a ≠ some (.tup xs)) : ∀ (k : NestedKey) (x : V), Nk H k x → Nk (upd H a o) k x
  | .none, _, n => by cases n; exact .non
  | .num _, _, n => by cases n; exact .int _
  | .text _, _, n => by cases n; exact .str _
  | .tup ks, _, n => by
    cases n with
    | tup at_ all => exact .tup ((upd_ne fun e => no _ (e ▸ at_)).trans at_) (NkA.upd no ks _ all)
theorem NkA.upd (no : ∀ xs, H a ≠ some (.tup xs)) : ∀ (ks : List NestedKey) (xs : List V), NkA H ks xs → NkA (upd H a o) ks xs
  | [], _, n => by cases n; exact .nil
  | k :: ks, _, n => by
    cases n with
    | cons n1 n2 => exact .cons (Nk.upd no k _ n1) (NkA.upd no ks _ n2)
end
theorem DnAt.no (D : DnAt P w H a ents) (xs : List V) : H a ≠ some (.tup xs) := fun e => by
  rcases D.at_ with q | ⟨q, _⟩
  · have z : dnO P w a ents = HO.tup xs := Option.some.inj (q.symm.trans e)
    have z : HO.ext _ = HO.tup xs := z
    cases z
  · rw [q] at e; cases e
/-- what stands in it behind the writing -/
theorem DnAt.put (D : DnAt P w H a ents) (n : Nk H k (.ref b)) (dp : k.depth ≤ 8) (few : ents.length < 100000) : DnAt P w (L2.upd H a (dnO P w a (putN ents k b))) a (putN ents k b) := by
  refine ⟨.inl upd_same, ?_, ?_, fun p hp => ?_⟩
  · unfold putN
    split
    · exact D.len
    · rw [List.length_append]; exact few
  · unfold putN
    split
    · exact D.nd
    · next q =>
      rw [List.map_append]
      exact List.nodup_append.mpr ⟨D.nd, (List.nodup_cons.mpr ⟨List.not_mem_nil, List.nodup_nil⟩), fun x hx y hy e => q (by
        rw [List.map_singleton, List.mem_singleton] at hy
        have hy : y = k := hy
        rw [← hy, ← e]; exact hx)⟩
  · have old : ∀ p ∈ ents, Nk (L2.upd H a (dnO P w a (putN ents k b))) p.1 (.ref p.2) ∧ p.1.depth ≤ 8 := fun p hp => ⟨Nk.upd D.no _ _ (D.keys p hp).1, (D.keys p hp).2⟩
    unfold putN at hp
    split at hp
    · exact old p hp
    · rcases List.mem_append.mp hp with hp | hp
      · exact old p hp
      · rw [List.mem_singleton.mp hp]
        exact ⟨Nk.upd D.no _ _ n, dp⟩
end
end Vw

set_option Elab.async false
set_option linter.all false
set_option maxRecDepth 100000
set_option maxHeartbeats 1000000
namespace Vw
open PySem PySem.Spec PyProof.Rows L2 RT
/-! ### data that are compared by their order -/
section
variable {X : Cx} {pins : List (Addr × Obj)} {σ : L2.St} {H : Hp} {s : Shared} {N : Addr → Prop}
mutual
theorem Dq.readsA (I : Inv X pins σ H s) : ∀ (d : PyData) (v : V) (u : Value), PySem.W.alike d d = true → Dq X.K N H v d → RelV v u → ∃ as, Reads s.heap u d as
  | .none, _, _, _, h, r => by
    cases h
    cases r
    exact ⟨_, Reads.none⟩
  | .bool b, _, _, _, h, r => by
    cases h
    cases r
    exact ⟨_, Reads.bool b⟩
  | .int i, _, _, _, h, r => by
    cases h
    obtain ⟨t, rfl⟩ := r
    exact ⟨_, Reads.int i t⟩
  | .str x, _, _, _, h, r => by
    cases h
    obtain ⟨t, rfl⟩ := r
    exact ⟨_, Reads.str x t⟩
  | .list ds, _, _, al, h, r => by
    cases h with
    | lst hs _ ha =>
      cases r
      obtain ⟨its, rv, ⟨o, n, ho, hc, _, hd⟩, _⟩ := I.list hs
      obtain ⟨as, hr⟩ := Dq.readsAA I ds _ its (by simpa [PySem.W.alike] using al) ha rv
      exact ⟨_, Reads.list ho hc hd hr⟩
  | .tuple ds, _, _, al, h, r => by
    cases h with
    | tup hs ha =>
      cases r
      obtain ⟨its, rv, ⟨o, ho, hc, n, hd⟩, _⟩ := I.tuple hs
      obtain ⟨as, hr⟩ := Dq.readsAA I ds _ its (by simpa [PySem.W.alike] using al) ha rv
      exact ⟨_, Reads.tuple ho hc hd hr⟩
  | .dict _, _, _, al, _, _ => by simp [PySem.W.alike] at al
theorem Dq.readsAA (I : Inv X pins σ H s) : ∀ (ds : List PyData) (vs : List V) (us : List Value), PySem.W.alikeAll ds ds = true → DqAll X.K N H vs ds → Vals vs us → ∃ as, ReadsAll s.heap us ds as
  | [], _, _, _, h, r => by
    cases h
    cases r
    exact ⟨_, ReadsAll.nil⟩
  | d :: ds, _, _, al, h, r => by
    cases h with
    | cons h1 h2 =>
      cases r with
      | cons r1 r2 =>
        obtain ⟨as, q1⟩ := Dq.readsA I d _ _ (PySem.W.alike_all_cons al).1 h1 r1
        obtain ⟨bs, q2⟩ := Dq.readsAA I ds _ _ (PySem.W.alike_all_cons al).2 h2 r2
        exact ⟨_, ReadsAll.cons q1 q2⟩
end
end
/-- two data that are alike, no None, not deep -/
def LtOk (d e : PyData) : Prop := PySem.W.alike d e = true ∧ PySem.W.alike d d = true ∧ PySem.W.alike e e = true ∧ d ≠ .none ∧ d.depth ≤ 40
def rCmpX (K : PySem.W.Frag) (f : PyData → PyData → Bool) : R2 := fun x y H Q => ∃ N M d e, Dq K N H x d ∧ Dq K M H y e ∧ LtOk d e ∧ Q (.bl (f d e)) H
section
variable {X : Cx}
theorem room_min {n : Nat} {d e : PyData} (hu : n + 64 < cLine) (h : d.depth ≤ 40) : n + min d.depth e.depth < cLine := by omega
theorem op_ltX (hu : X.A.units + 64 < cLine) : OpR X (compareOp .Lt) (rCmpX X.K PySem.W.dataLt) := by
  intro pins s σ H x y v u Q I rx ry h
  obtain ⟨N, M, d, e, hd, he, ⟨a1, a2, a3, a4, a5⟩, q⟩ := h
  obtain ⟨as, r1⟩ := Dq.readsA I d x v a2 hd rx
  obtain ⟨bs, r2⟩ := Dq.readsA I e y u a3 he ry
  exact PySem.W.lt_data r1 r2 a1 a4 (room_min hu a5) ⟨.bl _, H, I, rfl, q⟩
theorem op_gtX (hu : X.A.units + 64 < cLine) : OpR X (compareOp .Gt) (rCmpX X.K fun d e => PySem.W.dataLt e d) := by
  intro pins s σ H x y v u Q I rx ry h
  obtain ⟨N, M, d, e, hd, he, ⟨a1, a2, a3, a4, a5⟩, q⟩ := h
  obtain ⟨as, r1⟩ := Dq.readsA I d x v a2 hd rx
  obtain ⟨bs, r2⟩ := Dq.readsA I e y u a3 he ry
  exact PySem.W.gt_data r1 r2 a1 a4 (room_min hu a5) ⟨.bl _, H, I, rfl, q⟩
theorem op_leX (hu : X.A.units + 64 < cLine) : OpR X (compareOp .LtE) (rCmpX X.K fun d e => !PySem.W.dataLt e d) := by
  intro pins s σ H x y v u Q I rx ry h
  obtain ⟨N, M, d, e, hd, he, ⟨a1, a2, a3, a4, a5⟩, q⟩ := h
  obtain ⟨as, r1⟩ := Dq.readsA I d x v a2 hd rx
  obtain ⟨bs, r2⟩ := Dq.readsA I e y u a3 he ry
  exact PySem.W.le_data r1 r2 a1 a4 (room_min hu a5) ⟨.bl _, H, I, rfl, q⟩
theorem oLtX {K : PySem.W.Frag} {X : Cx} (hu : X.A.units + 64 < cLine) (e : X.K = K := by rfl) : OpR X (compareOp .Lt) (rCmpX K PySem.W.dataLt) := by cases e; exact op_ltX hu
theorem oGtX {K : PySem.W.Frag} {X : Cx} (hu : X.A.units + 64 < cLine) (e : X.K = K := by rfl) : OpR X (compareOp .Gt) (rCmpX K fun d e => PySem.W.dataLt e d) := by cases e; exact op_gtX hu
theorem oLeX {K : PySem.W.Frag} {X : Cx} (hu : X.A.units + 64 < cLine) (e : X.K = K := by rfl) : OpR X (compareOp .LtE) (rCmpX K fun d e => !PySem.W.dataLt e d) := by cases e; exact op_leX hu
end
/-! ### list(d.values()) -/
def rValuesL : V → Hp → VK → Prop := fun x H Q => ∃ (d : Addr) (kvs : List (Key × V)), x = .ref d ∧ H d = some (.dK kvs) ∧ ∀ p, H p = none → Q (.ref p) (upd H p (.lst (kvs.map (·.2))))
def tListValues (te : TE) : TE := fun σ H Q => te σ H fun x H1 => rValuesL x H1 Q
section
variable {X : Cx} {e : Expr} {te : TE} {p apos cpos pos : Pos}
theorem vals_second : ∀ {kvs : List (Key × V)} {vs : List (Key × Value)}, KV kvs vs → Vals (kvs.map (·.2)) (vs.map (·.2))
  | _, _, .nil => .nil
  | _, _, .cons h t => .cons h.2 (vals_second t)
theorem pe_listValues (hc : X.calm = true) (he : PE X e te) (hg : Gl X "list") (hm : X.mg "list" = none) (hv : bootBuiltins "list" = some (.type "list")) (hbase : attributeBase e "values" X.env (eval e X.env) = eval e X.env := by rfl) (hline : (apos.endLine == cpos.line) = true := by rfl)
    (hs : starEach [.Call (.Attribute e "values" apos) [] [] cpos] X.env = (false, eval (.Call (.Attribute e "values" apos) [] [] cpos) X.env) :: starEach [] X.env := by rfl) :
    PE X (.Call (.Name "list" p) [.Call (.Attribute e "values" apos) [] [] cpos] [] pos) (tListValues te) := by
  refine ⟨fun pins s σ H Q I hq => wpAny_Call_Name_kw (ld_blt I hg hm hv ?_)⟩
  refine PyProof.Rows.callWith_type1 ?_ hs rfl
  rw [hs]
  show wpAny _ _ (spliced ((false, eval (.Call (.Attribute e "values" apos) [] [] cpos) X.env) :: backTo pos (starEach [] X.env))) _ _ s
  refine Calls.spliced_cons (wpAny_Call_method (T := "dict") (id := "dict.values") hbase rfl hline F.plainAttrs_dict F.slot_dict_values F.type_dict_values (thn (he.run pins s σ H _ I hq) fun u s1 ⟨x, H1, I1, rx, d, kvs, ex, hd, q⟩ => ?_))
  subst ex
  cases (show u = Value.ref d from rx)
  obtain ⟨few, notSys, vs, kv, hdo⟩ := I1.hok d _ hd
  obtain ⟨ep, at_⟩ := hdo.dictAt
  have same : kvs.length = vs.length := Paired.length kv
  refine ⟨hdo.typeIs, hdo.mapOf.noDict, ?_⟩
  show wpAny _ _ (callWith cpos (.builtin "dict.values") [.ref d] [] []) _ X.xe s1
  refine method_meetsIn F.slot_dict_values F.entry_dict_values rfl (PySem.evalArgs_none ⟨rfl, hdo.typeIs, F.args_dict_values_1 _, _, meets_dict_values (mixKind X.prog X.w) d notSys, ⟨vs, hdo⟩, ?_⟩)
  have I2 : Inv X pins σ H1 { s1 with heap := s1.heap.push { cls := .type "dict_values", data := .fields #[.ref d] } } := I1.kept (t' := s1.toks) fun b ob z => Heap.get?_push_of_some _ z
  refine Calls.spliced_nil (PySem.W.kdl_call (PySem.W.kdl_values (knd := mixKind X.prog X.w) (kvs := vs) (ep := ep)) (I1.ok.hd hc) ⟨⟨_, Heap.get?_push_size _ rfl, rfl, rfl⟩, at_.push _⟩ (by omega) fun h' tk acc c hk hS hacc => ?_)
  have all : acc.toList = vs.map (·.2) := PySem.W.kdl_vals_eq acc.toList (by rw [Array.length_toList]; exact hacc.1) fun j v z => hacc.2 j v (by rw [← Array.getElem?_toList]; exact z)
  refine ⟨.ref _, upd H1 _ (.lst (kvs.map (·.2))), I2.laid (t' := tk) hk (Nat.le_refl _) ?_, rfl, q _ (I2.hok.fresh (Nat.le_refl _))⟩
  refine ⟨by rw [List.length_map]; omega, acc.toList, c, by rw [all]; exact vals_second kv, ?_⟩
  rw [Array.toArray_toList]
  exact hS
end
theorem cMinL {K : PySem.W.Frag} {X : Cx} (hc : X.calm = true) (e : X.K = K := by rfl) : CallR X (.builtin "min") (rMin K) := by cases e; exact cr_min hc
end Vw

set_option Elab.async false
set_option linter.all false
set_option maxRecDepth 100000
set_option maxHeartbeats 4000000
namespace Vw
open PySem PySem.Spec PyProof.Rows L2 RT
local macro_rules | `(tactic| walk_at "s") => `(tactic| with_reducible first
  | refine' s_seq ?_ | refine' s_next ?_ | refine' s_set ?_ | refine' s_ret ?_ | refine' s_retN ?_ | refine' s_drop ?_ | refine' s_if ?_ | refine' s_ipI ?_
  | refine' e_c ?_ | refine' e_op ?_ | refine' e_un ?_ | refine' e_neg ?_ | refine' e_test ?_ | refine' e_tB ?_ | refine' e_bl ?_ | refine' e_and ?_ | refine' e_or ?_ | refine' e_not ?_
  | refine' e_andV ?_ | refine' e_orV ?_ | refine' e_notV ?_ | refine' e_kV ?_ | refine' e_ife ?_ | refine' e_nil ?_ | refine' e_cons ?_ | refine' e_cb ?_ | refine' e_call ?_ | refine' e_chain ?_
  | refine' o_addI ?_ | refine' o_eqI ?_ | refine' o_neI ?_ | refine' o_I0 ?_ | refine' o_pow16 ?_ | refine' o_pow17 ?_ | refine' o_pow18 ?_ | refine' o_pow19 ?_ | refine' o_pow30 ?_ | refine' o_pow31 ?_ | refine' o_pow1 ?_ | refine' o_pow2 ?_ | refine' o_pow3 ?_ | refine' o_pow4 ?_ | refine' o_pow5 ?_ | refine' o_pow6 ?_ | refine' o_pow9 ?_ | refine' o_pow10 ?_ | refine' o_pow12 ?_ | refine' o_pow15 ?_ | refine' o_pow20 ?_ | refine' e_lst ?_ | refine' e_tup ?_ | refine' iteT ?_ | refine' i_nt ?_ | refine' i_nf ?_ | refine' iteF ?_ | refine' c_int ?_ | refine' c_abs ?_ | refine' c_min2 ?_ | refine' c_max2 ?_ | refine' e_tru ?_ | refine' t_bl ?_ | refine' t_non ?_ | refine' t_int ?_ | refine' isN_non ?_ | refine' isN_int ?_ | refine' isN_ref ?_ | refine' isN_str ?_ | refine' isN_bl ?_ | refine' noN_non ?_ | refine' noN_int ?_ | refine' noN_ref ?_ | refine' noN_str ?_ | refine' noN_bl ?_
  | refine' s_brk ?_ | refine' s_cont ?_ | refine' s_for ?_ | refine' e_lc ?_ | refine' e_dc ?_ | refine' e_yes ?_ | refine' i_rng1 ?_ | refine' i_lst0 ?_ | refine' i_tup0 ?_ | refine' e_bm ?_ | refine' e_sl ?_ | refine' e_np ?_ | refine' e_pt ?_ | refine' e_ptI ?_ | refine' e_din ?_ | refine' e_dnin ?_ | refine' e_methE ?_ | refine' p_cons ?_ | refine' p_nil ?_ | refine' s_dput ?_ | refine' e_dget2 ?_ | refine' e_dpop1 ?_ | refine' i_enum0 ?_ | refine' i_rev0 ?_ | refine' g_sub ?_ | refine' s_asg ?_ | refine' i_zip0 ?_ | refine' e_revT ?_ | refine' isB_bl ?_ | refine' notB_bl ?_ | refine' o_neB ?_ | refine' i_nrr ?_ | refine' e_meth ?_ | refine' s_setf ?_ | refine' e_fld ?_ | refine' e_bm0 ?_ | refine' r_tx ?_ | refine' o_eqStr ?_ | refine' o_neStr ?_)
local macro_rules | `(tactic| walk_at "v") => `(tactic| ((with_reducible refine' e_var ?hv ?_); (case hv => exact rfl)))
local macro_rules | `(tactic| walk_at "a") => `(tactic| ((with_reducible refine' s_aug ?hv ?_); (case hv => exact rfl)))
local macro_rules | `(tactic| walk_at "m") => `(tactic| first
  | ((with_reducible refine' o_mod ?hv ?_); (case hv => first | decide | omega))
  | ((with_reducible refine' o_mulR ?hv ?_); (case hv => omega))
  | ((with_reducible refine' o_mulL ?hv ?_); (case hv => omega))
  | ((with_reducible refine' o_div ?hv ?hw ?_); (case hv => omega); (case hw => omega))
  | ((with_reducible refine' o_pow _ ?hv ?hw ?hx ?_); (case hv => exact rfl); (case hw => decide); (case hx => decide)))
local macro_rules | `(tactic| walk_at "i") => `(tactic| (first
  | ((with_reducible refine' isi_int true ?hv ?_); (case hv => exact (by decide +kernel)))
  | ((with_reducible refine' isi_int false ?hv ?_); (case hv => exact (by decide +kernel)))
  | ((with_reducible refine' isi_non true ?hv ?_); (case hv => exact (by decide +kernel)))
  | ((with_reducible refine' isi_non false ?hv ?_); (case hv => exact (by decide +kernel)))
  | ((with_reducible refine' isi_str true ?hv ?_); (case hv => exact (by decide +kernel)))
  | ((with_reducible refine' isi_str false ?hv ?_); (case hv => exact (by decide +kernel)))
  | ((with_reducible refine' isi_bl true ?hv ?_); (case hv => exact (by decide +kernel)))
  | ((with_reducible refine' isi_bl false ?hv ?_); (case hv => exact (by decide +kernel)))
  | ((with_reducible refine' isi_t true ?hw ?hv ?_); (case hw => assumption); (case hv => exact (by decide +kernel)))
  | ((with_reducible refine' isi_t false ?hw ?hv ?_); (case hw => assumption); (case hv => exact (by decide +kernel)))
  | ((with_reducible refine' isi_l true ?hw ?hv ?_); (case hw => assumption); (case hv => exact (by decide +kernel)))
  | ((with_reducible refine' isi_l false ?hw ?hv ?_); (case hw => assumption); (case hv => exact (by decide +kernel)))
  | ((with_reducible refine' isi_tup true ?hw ?hv ?_); (case hw => assumption); (case hv => exact (by decide +kernel)))
  | ((with_reducible refine' isi_tup false ?hw ?hv ?_); (case hw => assumption); (case hv => exact (by decide +kernel)))
  | ((with_reducible refine' isi_lst true ?hw ?hv ?_); (case hw => assumption); (case hv => exact (by decide +kernel)))
  | ((with_reducible refine' isi_lst false ?hw ?hv ?_); (case hw => assumption); (case hv => exact (by decide +kernel)))))
local macro_rules | `(tactic| walk_at "om") => `(tactic| first | omega | (simp only [List.length_cons, List.length_nil, List.length_map, List.length_append, List.length_range]; omega))
local macro_rules | `(tactic| walk_at "d") => `(tactic| (first
  | ((with_reducible refine' i_dt ?hv ?_); (case hv => walk_at "om"))
  | ((with_reducible refine' i_df ?hv ?_); (case hv => walk_at "om"))
  | ((with_reducible refine' i_ndt ?hv ?_); (case hv => walk_at "om"))
  | ((with_reducible refine' i_ndf ?hv ?_); (case hv => walk_at "om"))))
local macro_rules | `(tactic| walk_at "x") => `(tactic| first
  | ((with_reducible refine' o_ixA ?hv ?hw ?_); (case hv => assumption); (case hw => exact rfl))
  | ((with_reducible refine' o_ixU ?hv ?hw ?_); (case hv => assumption); (case hw => exact rfl))
  | ((with_reducible refine' o_ixL ?hv ?hw ?_); (case hv => assumption); (case hw => exact rfl))
  | ((with_reducible refine' o_ixT ?hv ?hw ?_); (case hv => assumption); (case hw => exact rfl))
  | ((with_reducible refine' set_ ?hv ?hw ?_); (case hv => assumption); (case hw => exact rfl))
  | ((with_reducible refine' e_lenM ?hv ?_); (case hv => first | assumption | exact slO (by assumption)))
  | ((with_reducible refine' e_lenN ?hv ?_); (case hv => first | assumption | exact stO (by assumption)))
  | ((with_reducible refine' e_lenL ?hv ?_); (case hv => first | assumption | exact slO (by assumption)))
  | ((with_reducible refine' e_lenT ?hv ?_); (case hv => first | assumption | exact stO (by assumption))))
local macro_rules | `(tactic| walk_at "c") => `(tactic| first
  | ((with_reducible refine' c_listL ?hv ?_); (case hv => assumption))
  | ((with_reducible refine' c_listT ?hv ?_); (case hv => assumption))
  | ((with_reducible refine' c_tupL ?hv ?_); (case hv => first | assumption | exact slO (by assumption)))
  | ((with_reducible refine' c_tupT ?hv ?_); (case hv => assumption))
  | ((with_reducible refine' t_lst ?hv ?_); (case hv => first | assumption | exact slO (by assumption)))
  | ((with_reducible refine' t_tup ?hv ?_); (case hv => assumption))
  | ((with_reducible refine' r_sl ?hv ?_); (case hv => first | assumption | exact slO (by assumption)))
  | ((with_reducible refine' o_inL ?hv ?_); (case hv => first | assumption | exact slO (by assumption)))
  | ((with_reducible refine' o_inT ?hv ?_); (case hv => first | assumption | exact stO (by assumption)))
  | ((with_reducible refine' o_niL ?hv ?_); (case hv => first | assumption | exact slO (by assumption)))
  | ((with_reducible refine' o_niT ?hv ?_); (case hv => first | assumption | exact stO (by assumption)))
  | ((with_reducible refine' ty_lst ?hv ?_); (case hv => assumption)))
local macro_rules | `(tactic| walk_at "mo") => `(tactic| repeat' (first | exact m_yes | exact m_var | exact m_c | exact m_I0 | exact m_I | exact m_ix | exact m_add | exact m_in | exact m_int1 | exact m_abs | exact m_nil | refine' m_and ?_ ?_ | refine' m_test ?_ | refine' m_tB ?_ | refine' m_op ?_ ?_ ?_ | refine' m_cons ?_ ?_ | refine' m_cb ?_ ?_))
local macro_rules | `(tactic| walk_at "go") => `(tactic| repeat' (first | walk_at "s" | walk_at "v" | walk_at "a" | walk_at "x" | walk_at "m" | walk_at "c" | walk_at "i" | walk_at "d"))

def topS (i : Nat) : Stmt := PySem.Challenge.pw_wholeways_k35_checks_refused.main.body.getD i (.Pass ⟨0, 0, 0, 0⟩)
abbrev s_StoreError_init : Stmt := (inClass (topS 1) 0)
abbrev n_StoreError_init : List Str := ["self"]
theorem sc_StoreError_init : FnScope n_StoreError_init ["self"] (defScope s_StoreError_init) := ⟨rfl, rfl, rfl, by decide +kernel, rfl, by decide +kernel, by decide +kernel⟩
abbrev s_Refused_init : Stmt := (inClass (topS 8) 0)
abbrev n_Refused_init : List Str := ["self", "ring"]
theorem sc_Refused_init : FnScope n_Refused_init ["self", "ring"] (defScope s_Refused_init) := ⟨rfl, rfl, rfl, by decide +kernel, rfl, by decide +kernel, by decide +kernel⟩
abbrev s_BadDealing_init : Stmt := (inClass (topS 9) 0)
abbrev n_BadDealing_init : List Str := ["self", "part"]
theorem sc_BadDealing_init : FnScope n_BadDealing_init ["self", "part"] (defScope s_BadDealing_init) := ⟨rfl, rfl, rfl, by decide +kernel, rfl, by decide +kernel, by decide +kernel⟩
abbrev s_is_integer : Stmt := (topS 13)
abbrev n_is_integer : List Str := ["thing"]
theorem sc_is_integer : FnScope n_is_integer ["thing"] (defScope s_is_integer) := ⟨rfl, rfl, rfl, by decide +kernel, rfl, by decide +kernel, by decide +kernel⟩
abbrev s_is_within : Stmt := (topS 14)
abbrev n_is_within : List Str := ["thing", "low", "high"]
theorem sc_is_within : FnScope n_is_within ["thing", "low", "high"] (defScope s_is_within) := ⟨rfl, rfl, rfl, by decide +kernel, rfl, by decide +kernel, by decide +kernel⟩
abbrev s_is_number : Stmt := (topS 15)
abbrev n_is_number : List Str := ["thing"]
theorem sc_is_number : FnScope n_is_number ["thing"] (defScope s_is_number) := ⟨rfl, rfl, rfl, by decide +kernel, rfl, by decide +kernel, by decide +kernel⟩
abbrev s_is_word : Stmt := (topS 16)
abbrev n_is_word : List Str := ["thing"]
theorem sc_is_word : FnScope n_is_word ["thing"] (defScope s_is_word) := ⟨rfl, rfl, rfl, by decide +kernel, rfl, by decide +kernel, by decide +kernel⟩
abbrev s_is_key : Stmt := (topS 17)
abbrev n_is_key : List Str := ["thing"]
theorem sc_is_key : FnScope n_is_key ["thing"] (defScope s_is_key) := ⟨rfl, rfl, rfl, by decide +kernel, rfl, by decide +kernel, by decide +kernel⟩
abbrev s_is_worth : Stmt := (topS 18)
abbrev n_is_worth : List Str := ["thing"]
theorem sc_is_worth : FnScope n_is_worth ["thing"] (defScope s_is_worth) := ⟨rfl, rfl, rfl, by decide +kernel, rfl, by decide +kernel, by decide +kernel⟩
abbrev s_is_mark : Stmt := (topS 19)
abbrev n_is_mark : List Str := ["thing"]
theorem sc_is_mark : FnScope n_is_mark ["thing"] (defScope s_is_mark) := ⟨rfl, rfl, rfl, by decide +kernel, rfl, by decide +kernel, by decide +kernel⟩
abbrev s_is_ascending : Stmt := (topS 20)
abbrev n_is_ascending : List Str := ["row", "k"]
theorem sc_is_ascending : FnScope n_is_ascending ["row"] (defScope s_is_ascending) := ⟨rfl, rfl, rfl, by decide +kernel, rfl, by decide +kernel, by decide +kernel⟩
abbrev s_are_keys : Stmt := (topS 22)
abbrev n_are_keys : List Str := ["thing", "key"]
theorem sc_are_keys : FnScope n_are_keys ["thing"] (defScope s_are_keys) := ⟨rfl, rfl, rfl, by decide +kernel, rfl, by decide +kernel, by decide +kernel⟩
abbrev s_is_seen_range : Stmt := (topS 23)
abbrev n_is_seen_range : List Str := ["thing", "low", "high", "own"]
theorem sc_is_seen_range : FnScope n_is_seen_range ["thing"] (defScope s_is_seen_range) := ⟨rfl, rfl, rfl, by decide +kernel, rfl, by decide +kernel, by decide +kernel⟩
abbrev s_are_ranges : Stmt := (topS 24)
abbrev n_are_ranges : List Str := ["thing", "item"]
theorem sc_are_ranges : FnScope n_are_ranges ["thing"] (defScope s_are_ranges) := ⟨rfl, rfl, rfl, by decide +kernel, rfl, by decide +kernel, by decide +kernel⟩
abbrev s_is_write : Stmt := (topS 25)
abbrev n_is_write : List Str := ["thing"]
theorem sc_is_write : FnScope n_is_write ["thing"] (defScope s_is_write) := ⟨rfl, rfl, rfl, by decide +kernel, rfl, by decide +kernel, by decide +kernel⟩
abbrev s_are_writes : Stmt := (topS 26)
abbrev n_are_writes : List Str := ["thing", "item", "key", "_"]
theorem sc_are_writes : FnScope n_are_writes ["thing"] (defScope s_are_writes) := ⟨rfl, rfl, rfl, by decide +kernel, rfl, by decide +kernel, by decide +kernel⟩
abbrev s_has_seen_key : Stmt := (topS 27)
abbrev n_has_seen_key : List Str := ["dealing", "key", "low", "high", "own"]
theorem sc_has_seen_key : FnScope n_has_seen_key ["dealing", "key"] (defScope s_has_seen_key) := ⟨rfl, rfl, rfl, by decide +kernel, rfl, by decide +kernel, by decide +kernel⟩
abbrev s_written_keys : Stmt := (topS 28)
abbrev n_written_keys : List Str := ["dealing", "key", "_"]
theorem sc_written_keys : FnScope n_written_keys ["dealing"] (defScope s_written_keys) := ⟨rfl, rfl, rfl, by decide +kernel, rfl, by decide +kernel, by decide +kernel⟩
abbrev s_is_tied : Stmt := (topS 30)
abbrev n_is_tied : List Str := ["one", "other", "elder"]
theorem sc_is_tied : FnScope n_is_tied ["one", "other"] (defScope s_is_tied) := ⟨rfl, rfl, rfl, by decide +kernel, rfl, by decide +kernel, by decide +kernel⟩
abbrev s_writes_one_of : Stmt := (topS 31)
abbrev n_writes_one_of : List Str := ["dealing", "keys", "own", "key"]
theorem sc_writes_one_of : FnScope n_writes_one_of ["dealing", "keys"] (defScope s_writes_one_of) := ⟨rfl, rfl, rfl, by decide +kernel, rfl, by decide +kernel, by decide +kernel⟩
abbrev s_has_seen_one_of : Stmt := (topS 32)
abbrev n_has_seen_one_of : List Str := ["dealing", "keys", "key"]
theorem sc_has_seen_one_of : FnScope n_has_seen_one_of ["dealing", "keys"] (defScope s_has_seen_one_of) := ⟨rfl, rfl, rfl, by decide +kernel, rfl, by decide +kernel, by decide +kernel⟩
abbrev s_ring_from : Stmt := (topS 33)
abbrev n_ring_from : List Str := ["start", "nexts", "came", "row", "further", "entry", "other"]
theorem sc_ring_from : FnScope n_ring_from ["start", "nexts"] (defScope s_ring_from) := ⟨rfl, rfl, rfl, by decide +kernel, rfl, by decide +kernel, by decide +kernel⟩
abbrev s_way_to : Stmt := (topS 34)
abbrev n_way_to : List Str := ["entry", "came", "way"]
theorem sc_way_to : FnScope n_way_to ["entry", "came"] (defScope s_way_to) := ⟨rfl, rfl, rfl, by decide +kernel, rfl, by decide +kernel, by decide +kernel⟩
abbrev s_Dealing_init : Stmt := (inClass (topS 36) 0)
abbrev n_Dealing_init : List Str := ["self", "snapshot", "number", "gets", "ranges", "writes"]
theorem sc_Dealing_init : FnScope n_Dealing_init ["self", "snapshot", "number", "gets", "ranges", "writes"] (defScope s_Dealing_init) := ⟨rfl, rfl, rfl, by decide +kernel, rfl, by decide +kernel, by decide +kernel⟩
abbrev s_Dealing___eq__ : Stmt := (inClass (topS 36) 1)
abbrev n_Dealing___eq__ : List Str := ["self", "other"]
theorem sc_Dealing___eq__ : FnScope n_Dealing___eq__ ["self", "other"] (defScope s_Dealing___eq__) := ⟨rfl, rfl, rfl, by decide +kernel, rfl, by decide +kernel, by decide +kernel⟩
abbrev s_can_be_number : Stmt := (topS 37)
abbrev n_can_be_number : List Str := ["number", "snapshot", "writes", "is_above"]
theorem sc_can_be_number : FnScope n_can_be_number ["number", "snapshot", "writes"] (defScope s_can_be_number) := ⟨rfl, rfl, rfl, by decide +kernel, rfl, by decide +kernel, by decide +kernel⟩
abbrev s_Check_init : Stmt := (inClass (topS 39) 0)
abbrev n_Check_init : List Str := ["self", "last"]
theorem sc_Check_init : FnScope n_Check_init ["self", "last"] (defScope s_Check_init) := ⟨rfl, rfl, rfl, by decide +kernel, rfl, by decide +kernel, by decide +kernel⟩
abbrev s_Check_opens : Stmt := (inClass (topS 39) 1)
abbrev n_Check_opens : List Str := ["self", "snapshot", "entry"]
theorem sc_Check_opens : FnScope n_Check_opens ["self", "snapshot"] (defScope s_Check_opens) := ⟨rfl, rfl, rfl, by decide +kernel, rfl, by decide +kernel, by decide +kernel⟩
abbrev s_Check__can_stand_at : Stmt := (inClass (topS 39) 2)
abbrev n_Check__can_stand_at : List Str := ["self", "snapshot"]
theorem sc_Check__can_stand_at : FnScope n_Check__can_stand_at ["self", "snapshot"] (defScope s_Check__can_stand_at) := ⟨rfl, rfl, rfl, by decide +kernel, rfl, by decide +kernel, by decide +kernel⟩
abbrev s_Check_commits : Stmt := (inClass (topS 39) 3)
abbrev n_Check_commits : List Str := ["self", "entry", "keys", "ranges", "writes", "dealing", "nexts"]
theorem sc_Check_commits : FnScope n_Check_commits ["self", "entry", "keys", "ranges", "writes"] (defScope s_Check_commits) := ⟨rfl, rfl, rfl, by decide +kernel, rfl, by decide +kernel, by decide +kernel⟩
abbrev s_Check_would_commit : Stmt := (inClass (topS 39) 4)
abbrev n_Check_would_commit : List Str := ["self", "entry", "keys", "ranges", "writes", "dealing"]
theorem sc_Check_would_commit : FnScope n_Check_would_commit ["self", "entry", "keys", "ranges", "writes"] (defScope s_Check_would_commit) := ⟨rfl, rfl, rfl, by decide +kernel, rfl, by decide +kernel, by decide +kernel⟩
abbrev s_Check__dealing_of : Stmt := (inClass (topS 39) 5)
abbrev n_Check__dealing_of : List Str := ["self", "entry", "keys", "ranges", "writes", "number"]
theorem sc_Check__dealing_of : FnScope n_Check__dealing_of ["self", "entry", "keys", "ranges", "writes"] (defScope s_Check__dealing_of) := ⟨rfl, rfl, rfl, by decide +kernel, rfl, by decide +kernel, by decide +kernel⟩
abbrev s_Check__nexts_with : Stmt := (inClass (topS 39) 6)
abbrev n_Check__nexts_with : List Str := ["self", "entry", "dealing", "found", "other", "row"]
theorem sc_Check__nexts_with : FnScope n_Check__nexts_with ["self", "entry", "dealing"] (defScope s_Check__nexts_with) := ⟨rfl, rfl, rfl, by decide +kernel, rfl, by decide +kernel, by decide +kernel⟩
abbrev s_Check_gives_up : Stmt := (inClass (topS 39) 7)
abbrev n_Check_gives_up : List Str := ["self", "entry"]
theorem sc_Check_gives_up : FnScope n_Check_gives_up ["self", "entry"] (defScope s_Check_gives_up) := ⟨rfl, rfl, rfl, by decide +kernel, rfl, by decide +kernel, by decide +kernel⟩
abbrev s_Check__need_under_way : Stmt := (inClass (topS 39) 8)
abbrev n_Check__need_under_way : List Str := ["self", "entry"]
theorem sc_Check__need_under_way : FnScope n_Check__need_under_way ["self", "entry"] (defScope s_Check__need_under_way) := ⟨rfl, rfl, rfl, by decide +kernel, rfl, by decide +kernel, by decide +kernel⟩
abbrev s_Check_last : Stmt := (inClass (topS 39) 9)
abbrev n_Check_last : List Str := ["self"]
theorem sc_Check_last : FnScope n_Check_last ["self"] (defScope s_Check_last) := ⟨rfl, rfl, rfl, by decide +kernel, rfl, by decide +kernel, by decide +kernel⟩
abbrev s_Check_open_entries : Stmt := (inClass (topS 39) 10)
abbrev n_Check_open_entries : List Str := ["self"]
theorem sc_Check_open_entries : FnScope n_Check_open_entries ["self"] (defScope s_Check_open_entries) := ⟨rfl, rfl, rfl, by decide +kernel, rfl, by decide +kernel, by decide +kernel⟩
abbrev s_Check_remembered : Stmt := (inClass (topS 39) 11)
abbrev n_Check_remembered : List Str := ["self"]
theorem sc_Check_remembered : FnScope n_Check_remembered ["self"] (defScope s_Check_remembered) := ⟨rfl, rfl, rfl, by decide +kernel, rfl, by decide +kernel, by decide +kernel⟩
abbrev s_Check_copy : Stmt := (inClass (topS 39) 12)
abbrev n_Check_copy : List Str := ["self", "other", "entry", "row"]
theorem sc_Check_copy : FnScope n_Check_copy ["self"] (defScope s_Check_copy) := ⟨rfl, rfl, rfl, by decide +kernel, rfl, by decide +kernel, by decide +kernel⟩
abbrev s_Check__forget : Stmt := (inClass (topS 39) 13)
abbrev n_Check__forget : List Str := ["self", "came", "entry", "dealing", "row"]
theorem sc_Check__forget : FnScope n_Check__forget ["self"] (defScope s_Check__forget) := ⟨rfl, rfl, rfl, by decide +kernel, rfl, by decide +kernel, by decide +kernel⟩
abbrev s_Check__sources : Stmt := (inClass (topS 39) 14)
abbrev n_Check__sources : List Str := ["self", "least", "entry"]
theorem sc_Check__sources : FnScope n_Check__sources ["self"] (defScope s_Check__sources) := ⟨rfl, rfl, rfl, by decide +kernel, rfl, by decide +kernel, by decide +kernel⟩
abbrev s_Check__ways_from : Stmt := (inClass (topS 39) 15)
abbrev n_Check__ways_from : List Str := ["self", "sources", "came", "todo", "entry", "other"]
theorem sc_Check__ways_from : FnScope n_Check__ways_from ["self", "sources"] (defScope s_Check__ways_from) := ⟨rfl, rfl, rfl, by decide +kernel, rfl, by decide +kernel, by decide +kernel⟩
abbrev s_Check_could_ring : Stmt := (inClass (topS 39) 16)
abbrev n_Check_could_ring : List Str := ["self", "entry", "way", "least", "late", "seen", "number", "snapshot"]
theorem sc_Check_could_ring : FnScope n_Check_could_ring ["self", "entry"] (defScope s_Check_could_ring) := ⟨rfl, rfl, rfl, by decide +kernel, rfl, by decide +kernel, by decide +kernel⟩
abbrev s_Check__touched_key : Stmt := (inClass (topS 39) 17)
abbrev n_Check__touched_key : List Str := ["self", "way", "dealing", "key"]
theorem sc_Check__touched_key : FnScope n_Check__touched_key ["self", "way"] (defScope s_Check__touched_key) := ⟨rfl, rfl, rfl, by decide +kernel, rfl, by decide +kernel, by decide +kernel⟩
abbrev s_is_behind : Stmt := (topS 40)
abbrev n_is_behind : List Str := ["dealing", "snapshot"]
theorem sc_is_behind : FnScope n_is_behind ["dealing", "snapshot"] (defScope s_is_behind) := ⟨rfl, rfl, rfl, by decide +kernel, rfl, by decide +kernel, by decide +kernel⟩
abbrev s_need_no_ring : Stmt := (topS 41)
abbrev n_need_no_ring : List Str := ["entry", "nexts", "ring"]
theorem sc_need_no_ring : FnScope n_need_no_ring ["entry", "nexts"] (defScope s_need_no_ring) := ⟨rfl, rfl, rfl, by decide +kernel, rfl, by decide +kernel, by decide +kernel⟩
abbrev s_law_hand : Stmt := (topS 43)
abbrev n_law_hand : List Str := ["script", "cells", "cell"]
theorem sc_law_hand : FnScope n_law_hand ["script"] (defScope s_law_hand) := ⟨rfl, rfl, rfl, by decide +kernel, rfl, by decide +kernel, by decide +kernel⟩
abbrev s_law_draw : Stmt := (topS 44)
abbrev n_law_draw : List Str := ["hand", "many", "cell", "digit", "number"]
theorem sc_law_draw : FnScope n_law_draw ["hand", "many"] (defScope s_law_draw) := ⟨rfl, rfl, rfl, by decide +kernel, rfl, by decide +kernel, by decide +kernel⟩
abbrev s_law_word : Stmt := (topS 45)
abbrev n_law_word : List Str := ["call", "word", "e", "flags"]
theorem sc_law_word : FnScope n_law_word ["call"] (defScope s_law_word) := ⟨rfl, rfl, rfl, by decide +kernel, rfl, by decide +kernel, by decide +kernel⟩
abbrev s_law_is_int : Stmt := (topS 46)
abbrev n_law_is_int : List Str := ["thing", "least", "most"]
theorem sc_law_is_int : FnScope n_law_is_int ["thing", "least", "most"] (defScope s_law_is_int) := ⟨rfl, rfl, rfl, by decide +kernel, rfl, by decide +kernel, by decide +kernel⟩
abbrev s_law_is_key : Stmt := (topS 47)
abbrev n_law_is_key : List Str := ["thing", "sign"]
theorem sc_law_is_key : FnScope n_law_is_key ["thing"] (defScope s_law_is_key) := ⟨rfl, rfl, rfl, by decide +kernel, rfl, by decide +kernel, by decide +kernel⟩
abbrev s_law_are_keys : Stmt := (topS 48)
abbrev n_law_are_keys : List Str := ["thing", "key", "one", "other"]
theorem sc_law_are_keys : FnScope n_law_are_keys ["thing"] (defScope s_law_are_keys) := ⟨rfl, rfl, rfl, by decide +kernel, rfl, by decide +kernel, by decide +kernel⟩
abbrev s_law_are_ranges : Stmt := (topS 49)
abbrev n_law_are_ranges : List Str := ["thing", "one", "key", "other"]
theorem sc_law_are_ranges : FnScope n_law_are_ranges ["thing"] (defScope s_law_are_ranges) := ⟨rfl, rfl, rfl, by decide +kernel, rfl, by decide +kernel, by decide +kernel⟩
abbrev s_law_are_writes : Stmt := (topS 50)
abbrev n_law_are_writes : List Str := ["thing", "one", "other"]
theorem sc_law_are_writes : FnScope n_law_are_writes ["thing"] (defScope s_law_are_writes) := ⟨rfl, rfl, rfl, by decide +kernel, rfl, by decide +kernel, by decide +kernel⟩
abbrev s_law_deep : Stmt := (topS 51)
abbrev n_law_deep : List Str := ["hand", "found", "turn"]
theorem sc_law_deep : FnScope n_law_deep ["hand"] (defScope s_law_deep) := ⟨rfl, rfl, rfl, by decide +kernel, rfl, by decide +kernel, by decide +kernel⟩
abbrev s_law_odd : Stmt := (topS 52)
abbrev n_law_odd : List Str := ["hand", "right", "menu"]
theorem sc_law_odd : FnScope n_law_odd ["hand", "right"] (defScope s_law_odd) := ⟨rfl, rfl, rfl, by decide +kernel, rfl, by decide +kernel, by decide +kernel⟩
abbrev s_law_ready : Stmt := (topS 53)
abbrev n_law_ready : List Str := ["hand", "last", "check", "entry"]
theorem sc_law_ready : FnScope n_law_ready ["hand", "last"] (defScope s_law_ready) := ⟨rfl, rfl, rfl, by decide +kernel, rfl, by decide +kernel, by decide +kernel⟩
abbrev s_law : Stmt := (topS 54)
abbrev n_law : List Str := ["script", "hand", "odd", "due", "last", "check", "shown", "turn", "snapshot", "entry", "is_open", "keys", "ranges", "writes", "told"]
theorem sc_law : FnScope n_law ["script"] (defScope s_law) := ⟨rfl, rfl, rfl, by decide +kernel, rfl, by decide +kernel, by decide +kernel⟩
structure Txt (K : PySem.W.Frag) (mg : Str → Option Value) where
  is_integer : DefAt K mg "is_integer" "is_integer" s_is_integer ["thing"]
  is_within : DefAt K mg "is_within" "is_within" s_is_within ["thing", "low", "high"]
  is_number : DefAt K mg "is_number" "is_number" s_is_number ["thing"]
  is_word : DefAt K mg "is_word" "is_word" s_is_word ["thing"]
  is_key : DefAt K mg "is_key" "is_key" s_is_key ["thing"]
  is_worth : DefAt K mg "is_worth" "is_worth" s_is_worth ["thing"]
  is_mark : DefAt K mg "is_mark" "is_mark" s_is_mark ["thing"]
  is_ascending : DefAt K mg "is_ascending" "is_ascending" s_is_ascending ["row"]
  are_keys : DefAt K mg "are_keys" "are_keys" s_are_keys ["thing"]
  is_seen_range : DefAt K mg "is_seen_range" "is_seen_range" s_is_seen_range ["thing"]
  are_ranges : DefAt K mg "are_ranges" "are_ranges" s_are_ranges ["thing"]
  is_write : DefAt K mg "is_write" "is_write" s_is_write ["thing"]
  are_writes : DefAt K mg "are_writes" "are_writes" s_are_writes ["thing"]
  has_seen_key : DefAt K mg "has_seen_key" "has_seen_key" s_has_seen_key ["dealing", "key"]
  written_keys : DefAt K mg "written_keys" "written_keys" s_written_keys ["dealing"]
  is_tied : DefAt K mg "is_tied" "is_tied" s_is_tied ["one", "other"]
  writes_one_of : DefAt K mg "writes_one_of" "writes_one_of" s_writes_one_of ["dealing", "keys"]
  has_seen_one_of : DefAt K mg "has_seen_one_of" "has_seen_one_of" s_has_seen_one_of ["dealing", "keys"]
  ring_from : DefAt K mg "ring_from" "ring_from" s_ring_from ["start", "nexts"]
  way_to : DefAt K mg "way_to" "way_to" s_way_to ["entry", "came"]
  can_be_number : DefAt K mg "can_be_number" "can_be_number" s_can_be_number ["number", "snapshot", "writes"]
  is_behind : DefAt K mg "is_behind" "is_behind" s_is_behind ["dealing", "snapshot"]
  need_no_ring : DefAt K mg "need_no_ring" "need_no_ring" s_need_no_ring ["entry", "nexts"]
  law_hand : DefAt K mg "_law_hand" "_law_hand" s_law_hand ["script"]
  law_draw : DefAt K mg "_law_draw" "_law_draw" s_law_draw ["hand", "many"]
  law_word : DefAt K mg "_law_word" "_law_word" s_law_word ["call"]
  law_is_int : DefAt K mg "_law_is_int" "_law_is_int" s_law_is_int ["thing", "least", "most"]
  law_is_key : DefAt K mg "_law_is_key" "_law_is_key" s_law_is_key ["thing"]
  law_are_keys : DefAt K mg "_law_are_keys" "_law_are_keys" s_law_are_keys ["thing"]
  law_are_ranges : DefAt K mg "_law_are_ranges" "_law_are_ranges" s_law_are_ranges ["thing"]
  law_are_writes : DefAt K mg "_law_are_writes" "_law_are_writes" s_law_are_writes ["thing"]
  law_deep : DefAt K mg "_law_deep" "_law_deep" s_law_deep ["hand"]
  law_odd : DefAt K mg "_law_odd" "_law_odd" s_law_odd ["hand", "right"]
  law_ready : DefAt K mg "_law_ready" "_law_ready" s_law_ready ["hand", "last"]
  law : DefAtL K mg "law" "law" s_law ["script"]
  C_Dealing : Addr
  k_Dealing : ClsAt K mg "Dealing" C_Dealing
  C_Check : Addr
  k_Check : ClsAt K mg "Check" C_Check
  m_Dealing_init : MethAt K C_Dealing "__init__" "Dealing.__init__" s_Dealing_init ["self", "snapshot", "number", "gets", "ranges", "writes"]
  m_Check_init : MethAt K C_Check "__init__" "Check.__init__" s_Check_init ["self", "last"]
  m_Check_opens : MethAt K C_Check "opens" "Check.opens" s_Check_opens ["self", "snapshot"]
  m_Check__can_stand_at : MethAt K C_Check "_can_stand_at" "Check._can_stand_at" s_Check__can_stand_at ["self", "snapshot"]
  m_Check_commits : MethAt K C_Check "commits" "Check.commits" s_Check_commits ["self", "entry", "keys", "ranges", "writes"]
  m_Check_would_commit : MethAt K C_Check "would_commit" "Check.would_commit" s_Check_would_commit ["self", "entry", "keys", "ranges", "writes"]
  m_Check__dealing_of : MethAt K C_Check "_dealing_of" "Check._dealing_of" s_Check__dealing_of ["self", "entry", "keys", "ranges", "writes"]
  m_Check__nexts_with : MethAt K C_Check "_nexts_with" "Check._nexts_with" s_Check__nexts_with ["self", "entry", "dealing"]
  m_Check_gives_up : MethAt K C_Check "gives_up" "Check.gives_up" s_Check_gives_up ["self", "entry"]
  m_Check__need_under_way : MethAt K C_Check "_need_under_way" "Check._need_under_way" s_Check__need_under_way ["self", "entry"]
  m_Check_last : MethAt K C_Check "last" "Check.last" s_Check_last ["self"]
  m_Check_open_entries : MethAt K C_Check "open_entries" "Check.open_entries" s_Check_open_entries ["self"]
  m_Check_remembered : MethAt K C_Check "remembered" "Check.remembered" s_Check_remembered ["self"]
  m_Check_copy : MethAt K C_Check "copy" "Check.copy" s_Check_copy ["self"]
  m_Check__forget : MethAt K C_Check "_forget" "Check._forget" s_Check__forget ["self"]
  m_Check__sources : MethAt K C_Check "_sources" "Check._sources" s_Check__sources ["self"]
  m_Check__ways_from : MethAt K C_Check "_ways_from" "Check._ways_from" s_Check__ways_from ["self", "sources"]
  m_Check_could_ring : MethAt K C_Check "could_ring" "Check.could_ring" s_Check_could_ring ["self", "entry"]
  m_Check__touched_key : MethAt K C_Check "_touched_key" "Check._touched_key" s_Check__touched_key ["self", "way"]
  m_StoreError_init : InitAt K "__init__" "StoreError.__init__" s_StoreError_init ["self"]
  vV : PySem.W.findCls K (.type "ValueError") (.type "type") "__init__" = some (.val (.builtin "ValueError.__init__"))
  m_Refused_init : InitAt K "__init__" "Refused.__init__" s_Refused_init ["self", "ring"]
  m_BadDealing_init : InitAt K "__init__" "BadDealing.__init__" s_BadDealing_init ["self", "part"]
  e_NoNumber : ExcAt K mg "NoNumber" m_StoreError_init.f
  e_NoSnapshot : ExcAt K mg "NoSnapshot" m_StoreError_init.f
  e_NotOpen : ExcAt K mg "NotOpen" m_StoreError_init.f
  e_NotRemembered : ExcAt K mg "NotRemembered" m_StoreError_init.f
  e_Refused : ExcAt K mg "Refused" m_Refused_init.f
  e_BadDealing : ExcAt K mg "BadDealing" m_BadDealing_init.f
  e_BadSeen : ExcAt K mg "BadSeen" m_StoreError_init.f
  e_BadWrites : ExcAt K mg "BadWrites" m_StoreError_init.f
  a_Refused_ring : PySem.W.findIn K (.ref e_Refused.C) "ring" = some none
  n_Dealing_snapshot : NoAttr K C_Dealing "snapshot"
  n_Dealing_number : NoAttr K C_Dealing "number"
  n_Dealing_gets : NoAttr K C_Dealing "gets"
  n_Dealing_ranges : NoAttr K C_Dealing "ranges"
  n_Dealing_writes : NoAttr K C_Dealing "writes"
  n_Check__last : NoAttr K C_Check "_last"
  n_Check__many : NoAttr K C_Check "_many"
  n_Check__under_way : NoAttr K C_Check "_under_way"
  n_Check__dealings : NoAttr K C_Check "_dealings"
  n_Check__nexts : NoAttr K C_Check "_nexts"
  N_StoreError : Addr
  g_StoreError : mg "StoreError" = some (.ref N_StoreError)
  x_NoNumber : L2.ExcC K e_NoNumber.C
  kv_NoNumber : PySem.W.kitOne K (.ref e_NoNumber.C) (.type "ValueError") = some true
  xs_NoNumber : PySem.W.exmOne K (.ref e_NoNumber.C) (.ref N_StoreError) = some true
  k_NoNumber_NoNumber : PySem.W.kitOne K (.ref e_NoNumber.C) (.ref e_NoNumber.C) = some true
  k_NoNumber_NoSnapshot : PySem.W.kitOne K (.ref e_NoNumber.C) (.ref e_NoSnapshot.C) = some false
  k_NoNumber_NotOpen : PySem.W.kitOne K (.ref e_NoNumber.C) (.ref e_NotOpen.C) = some false
  k_NoNumber_BadSeen : PySem.W.kitOne K (.ref e_NoNumber.C) (.ref e_BadSeen.C) = some false
  k_NoNumber_BadWrites : PySem.W.kitOne K (.ref e_NoNumber.C) (.ref e_BadWrites.C) = some false
  k_NoNumber_NotRemembered : PySem.W.kitOne K (.ref e_NoNumber.C) (.ref e_NotRemembered.C) = some false
  k_NoNumber_Refused : PySem.W.kitOne K (.ref e_NoNumber.C) (.ref e_Refused.C) = some false
  x_NoSnapshot : L2.ExcC K e_NoSnapshot.C
  kv_NoSnapshot : PySem.W.kitOne K (.ref e_NoSnapshot.C) (.type "ValueError") = some true
  xs_NoSnapshot : PySem.W.exmOne K (.ref e_NoSnapshot.C) (.ref N_StoreError) = some true
  k_NoSnapshot_NoNumber : PySem.W.kitOne K (.ref e_NoSnapshot.C) (.ref e_NoNumber.C) = some false
  k_NoSnapshot_NoSnapshot : PySem.W.kitOne K (.ref e_NoSnapshot.C) (.ref e_NoSnapshot.C) = some true
  k_NoSnapshot_NotOpen : PySem.W.kitOne K (.ref e_NoSnapshot.C) (.ref e_NotOpen.C) = some false
  k_NoSnapshot_BadSeen : PySem.W.kitOne K (.ref e_NoSnapshot.C) (.ref e_BadSeen.C) = some false
  k_NoSnapshot_BadWrites : PySem.W.kitOne K (.ref e_NoSnapshot.C) (.ref e_BadWrites.C) = some false
  k_NoSnapshot_NotRemembered : PySem.W.kitOne K (.ref e_NoSnapshot.C) (.ref e_NotRemembered.C) = some false
  k_NoSnapshot_Refused : PySem.W.kitOne K (.ref e_NoSnapshot.C) (.ref e_Refused.C) = some false
  x_NotOpen : L2.ExcC K e_NotOpen.C
  kv_NotOpen : PySem.W.kitOne K (.ref e_NotOpen.C) (.type "ValueError") = some true
  xs_NotOpen : PySem.W.exmOne K (.ref e_NotOpen.C) (.ref N_StoreError) = some true
  k_NotOpen_NoNumber : PySem.W.kitOne K (.ref e_NotOpen.C) (.ref e_NoNumber.C) = some false
  k_NotOpen_NoSnapshot : PySem.W.kitOne K (.ref e_NotOpen.C) (.ref e_NoSnapshot.C) = some false
  k_NotOpen_NotOpen : PySem.W.kitOne K (.ref e_NotOpen.C) (.ref e_NotOpen.C) = some true
  k_NotOpen_BadSeen : PySem.W.kitOne K (.ref e_NotOpen.C) (.ref e_BadSeen.C) = some false
  k_NotOpen_BadWrites : PySem.W.kitOne K (.ref e_NotOpen.C) (.ref e_BadWrites.C) = some false
  k_NotOpen_NotRemembered : PySem.W.kitOne K (.ref e_NotOpen.C) (.ref e_NotRemembered.C) = some false
  k_NotOpen_Refused : PySem.W.kitOne K (.ref e_NotOpen.C) (.ref e_Refused.C) = some false
  x_BadSeen : L2.ExcC K e_BadSeen.C
  kv_BadSeen : PySem.W.kitOne K (.ref e_BadSeen.C) (.type "ValueError") = some true
  xs_BadSeen : PySem.W.exmOne K (.ref e_BadSeen.C) (.ref N_StoreError) = some true
  k_BadSeen_NoNumber : PySem.W.kitOne K (.ref e_BadSeen.C) (.ref e_NoNumber.C) = some false
  k_BadSeen_NoSnapshot : PySem.W.kitOne K (.ref e_BadSeen.C) (.ref e_NoSnapshot.C) = some false
  k_BadSeen_NotOpen : PySem.W.kitOne K (.ref e_BadSeen.C) (.ref e_NotOpen.C) = some false
  k_BadSeen_BadSeen : PySem.W.kitOne K (.ref e_BadSeen.C) (.ref e_BadSeen.C) = some true
  k_BadSeen_BadWrites : PySem.W.kitOne K (.ref e_BadSeen.C) (.ref e_BadWrites.C) = some false
  k_BadSeen_NotRemembered : PySem.W.kitOne K (.ref e_BadSeen.C) (.ref e_NotRemembered.C) = some false
  k_BadSeen_Refused : PySem.W.kitOne K (.ref e_BadSeen.C) (.ref e_Refused.C) = some false
  x_BadWrites : L2.ExcC K e_BadWrites.C
  kv_BadWrites : PySem.W.kitOne K (.ref e_BadWrites.C) (.type "ValueError") = some true
  xs_BadWrites : PySem.W.exmOne K (.ref e_BadWrites.C) (.ref N_StoreError) = some true
  k_BadWrites_NoNumber : PySem.W.kitOne K (.ref e_BadWrites.C) (.ref e_NoNumber.C) = some false
  k_BadWrites_NoSnapshot : PySem.W.kitOne K (.ref e_BadWrites.C) (.ref e_NoSnapshot.C) = some false
  k_BadWrites_NotOpen : PySem.W.kitOne K (.ref e_BadWrites.C) (.ref e_NotOpen.C) = some false
  k_BadWrites_BadSeen : PySem.W.kitOne K (.ref e_BadWrites.C) (.ref e_BadSeen.C) = some false
  k_BadWrites_BadWrites : PySem.W.kitOne K (.ref e_BadWrites.C) (.ref e_BadWrites.C) = some true
  k_BadWrites_NotRemembered : PySem.W.kitOne K (.ref e_BadWrites.C) (.ref e_NotRemembered.C) = some false
  k_BadWrites_Refused : PySem.W.kitOne K (.ref e_BadWrites.C) (.ref e_Refused.C) = some false
  x_NotRemembered : L2.ExcC K e_NotRemembered.C
  kv_NotRemembered : PySem.W.kitOne K (.ref e_NotRemembered.C) (.type "ValueError") = some true
  xs_NotRemembered : PySem.W.exmOne K (.ref e_NotRemembered.C) (.ref N_StoreError) = some true
  k_NotRemembered_NoNumber : PySem.W.kitOne K (.ref e_NotRemembered.C) (.ref e_NoNumber.C) = some false
  k_NotRemembered_NoSnapshot : PySem.W.kitOne K (.ref e_NotRemembered.C) (.ref e_NoSnapshot.C) = some false
  k_NotRemembered_NotOpen : PySem.W.kitOne K (.ref e_NotRemembered.C) (.ref e_NotOpen.C) = some false
  k_NotRemembered_BadSeen : PySem.W.kitOne K (.ref e_NotRemembered.C) (.ref e_BadSeen.C) = some false
  k_NotRemembered_BadWrites : PySem.W.kitOne K (.ref e_NotRemembered.C) (.ref e_BadWrites.C) = some false
  k_NotRemembered_NotRemembered : PySem.W.kitOne K (.ref e_NotRemembered.C) (.ref e_NotRemembered.C) = some true
  k_NotRemembered_Refused : PySem.W.kitOne K (.ref e_NotRemembered.C) (.ref e_Refused.C) = some false
  x_Refused : L2.ExcC K e_Refused.C
  kv_Refused : PySem.W.kitOne K (.ref e_Refused.C) (.type "ValueError") = some true
  xs_Refused : PySem.W.exmOne K (.ref e_Refused.C) (.ref N_StoreError) = some true
  k_Refused_NoNumber : PySem.W.kitOne K (.ref e_Refused.C) (.ref e_NoNumber.C) = some false
  k_Refused_NoSnapshot : PySem.W.kitOne K (.ref e_Refused.C) (.ref e_NoSnapshot.C) = some false
  k_Refused_NotOpen : PySem.W.kitOne K (.ref e_Refused.C) (.ref e_NotOpen.C) = some false
  k_Refused_BadSeen : PySem.W.kitOne K (.ref e_Refused.C) (.ref e_BadSeen.C) = some false
  k_Refused_BadWrites : PySem.W.kitOne K (.ref e_Refused.C) (.ref e_BadWrites.C) = some false
  k_Refused_NotRemembered : PySem.W.kitOne K (.ref e_Refused.C) (.ref e_NotRemembered.C) = some false
  k_Refused_Refused : PySem.W.kitOne K (.ref e_Refused.C) (.ref e_Refused.C) = some true
  dst : ([law.P] : List Addr).Nodup
  z_ValueError : mg "ValueError" = none
  z_abs : mg "abs" = none
  z_all : mg "all" = none
  z_any : mg "any" = none
  z_bool : mg "bool" = none
  z_dict : mg "dict" = none
  z_int : mg "int" = none
  z_isinstance : mg "isinstance" = none
  z_len : mg "len" = none
  z_list : mg "list" = none
  z_min : mg "min" = none
  z_range : mg "range" = none
  z_reversed : mg "reversed" = none
  z_sorted : mg "sorted" = none
  z_str : mg "str" = none
  z_tuple : mg "tuple" = none
  z_zip : mg "zip" = none
  c_GREATEST_WORTH : CAt mg "GREATEST_WORTH" (.int (1000000000000000000))
  c_LONGEST_WORD : CAt mg "LONGEST_WORD" (.int (12))
abbrev tabsL {K : PySem.W.Frag} {mg : Str → Option Value} (T : Txt K mg) : List (Addr × Str) := [(T.law.P, (("law" : Str) ++ ".<locals>.") ++ "<lambda>")]
theorem tabsM_law {K : PySem.W.Frag} {mg : Str → Option Value} (T : Txt K mg) : (T.law.P, (("law" : Str) ++ ".<locals>.") ++ "<lambda>") ∈ tabsL T := .head _



section
variable {P : Program} {w : World} {K : PySem.W.Frag} {mg : Str → Option Value} {base : Heap}
theorem ok_StoreError_init (M : InitAt K "__init__" "StoreError.__init__" s_StoreError_init ["self"]) (z : mg "ValueError" = none) (vV : PySem.W.findCls K (.type "ValueError") (.type "type") "__init__" = some (.val (.builtin "ValueError.__init__"))) : FnOk P w K mg base CX0 1 M.f M.fd ["self"] (sp_exc_init K) := by
  refine M.F.ok sc_StoreError_init (fun vs H Q E h => ?_) (fun cdv A outer s H vs Q E hr h => ?_)
  · obtain ⟨a, C, rfl, _⟩ := h
    rfl
  · obtain ⟨a, C, rfl, o, ha, k⟩ := h
    exact ⟨_, pss_one (ps_expr (pe_veinit (by rfl) z vV (pa_cons (pv 0) pa_nil))), _, rfl, a, C, [], rfl, by decide, o, ha, k⟩
/-- an __init__ that sets one field -/
def sp_fld_init (K : PySem.W.Frag) (f : Str) : Sp := fun vs H Q _ => ∃ (a C : Addr) (x : V), vs = [.ref a, x] ∧ OexC K C ∧ PySem.W.findIn K (.ref C) f = some none ∧ H a = some (exo a C none) ∧ ∀ dx, H dx = none → dx ≠ a → Q .non (upd (upd H dx (exd dx [(f, x)])) a (exo a C (some dx)))
theorem ok_Refused_init (M : InitAt K "__init__" "Refused.__init__" s_Refused_init ["self", "ring"]) : FnOk P w K mg base CX0 1 M.f M.fd ["self", "ring"] (sp_fld_init K "ring") := by
  refine M.F.ok sc_Refused_init (fun vs H Q E h => ?_) (fun cdv A outer s H vs Q E hr h => ?_)
  · obtain ⟨a, C, x, rfl, _⟩ := h
    rfl
  · obtain ⟨a, C, x, rfl, o, hn, ha, k⟩ := h
    exact ⟨_, (pss_one (ps_ost (pv 0) (pv 1))), _, rfl, _, rfl, a, C, rfl, o, hn, .inl ⟨ha, k⟩⟩
theorem ok_BadDealing_init (M : InitAt K "__init__" "BadDealing.__init__" s_BadDealing_init ["self", "part"]) : FnOk P w K mg base CX0 1 M.f M.fd ["self", "part"] (sp_fld_init K "part") := by
  refine M.F.ok sc_BadDealing_init (fun vs H Q E h => ?_) (fun cdv A outer s H vs Q E hr h => ?_)
  · obtain ⟨a, C, x, rfl, _⟩ := h
    rfl
  · obtain ⟨a, C, x, rfl, o, hn, ha, k⟩ := h
    exact ⟨_, (pss_one (ps_ost (pv 0) (pv 1))), _, rfl, _, rfl, a, C, rfl, o, hn, .inl ⟨ha, k⟩⟩
def MkFQ (K : PySem.W.Frag) (C : Addr) (f : Str) (Q : XK) (vs : List V) (H1 : Hp) : Prop := vs.length ≤ 1000 ∧ ∀ a, H1 a = none → sp_fld_init K f (.ref a :: (vs ++ [])) (upd H1 a (exo a C none))
  (fun v H2 => v = .non ∧ ∃ (d : Addr) (fs : List (Str × V)), H2 a = some (exo a C (some d)) ∧ H2 d = some (exd d fs) ∧ H1 d = none ∧ Q (.ref C) (some d) (upd (del H2 a) d (.xd fs))) (fun _ _ _ => False)
theorem e_mkO {C : Addr} {f : Str} {ta : TA} {σ : L2.St} {H : Hp} {Q : XK} (h : ta σ H (MkFQ K C f Q)) : tMkO C (sp_fld_init K f) [] ta σ H Q := h
theorem o_mkF {C : Addr} {f : Str} {x : V} {H1 : Hp} {Q : XK} (o : OexC K C) (hn : PySem.W.findIn K (.ref C) f = some none) (q : ∀ d, H1 d = none → Q (.ref C) (some d) (upd H1 d (.xd [(f, x)]))) : MkFQ K C f Q [x] H1 := by
  refine ⟨Nat.le_of_ble_eq_true rfl, fun a na => ⟨a, C, x, rfl, o, hn, upd_same, fun d hd ne => ⟨rfl, d, [(f, x)], upd_same, by rw [upd_ne ne]; exact upd_same, ?_, ?_⟩⟩⟩
  · rw [upd_ne ne] at hd; exact hd
  · have hd1 : H1 d = none := by rw [upd_ne ne] at hd; exact hd
    have e2 : upd (del (upd (upd (upd H1 a (exo a C none)) d (exd d [(f, x)])) a (exo a C (some d))) a) d (.xd [(f, x)]) = upd H1 d (.xd [(f, x)]) := by
      funext b
      by_cases z : b = d
      · subst z; rw [upd_same, upd_same]
      · rw [upd_ne z, upd_ne z]
        by_cases y : b = a
        · subst y; rw [del_same, na]
        · rw [del_ne y, upd_ne y, upd_ne z, upd_ne y]
    rw [e2]
    exact q d hd1
end



section
variable {P : Program} {w : World} {K : PySem.W.Frag} {mg : Str → Option Value} {base : Heap}
/-! ### kinds of numbers, of data -/
abbrev GC : Int := 1000000000000000000
abbrev isID : PyData → Bool
  | .int _ => true
  | _ => false
abbrev isND : PyData → Bool
  | .int i => decide (0 ≤ i)
  | _ => false
abbrev withinD (d : PyData) (lo hi : Int) : Bool := match d with
  | .int i => decide (lo ≤ i) && decide (i ≤ hi)
  | _ => false
abbrev markD : PyData → Bool
  | .none => true
  | d => withinD d (-1000000000000000000) 1000000000000000000
def sp_is_integer (K : PySem.W.Frag) : Sp := fun vs H Q _ => ∃ x N d, vs = [x] ∧ Dq K N H x d ∧ Q (.bl (isID d)) H
theorem ok_is_integer (T : Txt K mg) : FnOk P w K mg base CX0 1 T.is_integer.f T.is_integer.fd ["thing"] (sp_is_integer K) := by
  refine T.is_integer.F.ok sc_is_integer (fun vs H Q E h => ?_) (fun cdv A outer s H vs Q E hr h => ?_)
  · obtain ⟨x, N, d, rfl, _⟩ := h
    rfl
  · obtain ⟨x, N, d, rfl, hd, k⟩ := h
    refine ⟨_, (pss_one (ps_ret (pe_and (pe_callB (cIsi (K := K)) (by rfl) T.z_isinstance (by decide +kernel) (pa_cons (pv 0) (pa_cons (pe_bltn (v := .ty "int") (by rfl) T.z_int (by decide +kernel) rfl) pa_nil))) (pe_one (pe_not (pe_callB (cIsi (K := K)) (by rfl) T.z_isinstance (by decide +kernel) (pa_cons (pv 0) (pa_cons (pe_bltn (v := .ty "bool") (by rfl) T.z_bool (by decide +kernel) rfl) pa_nil)))))))), ?_⟩
    walk_at "go"
    cases id hd with
    | int i => walk_at "go"; exact k
    | non => walk_at "go"; exact k
    | bl b => walk_at "go"; exact k
    | str z => walk_at "go"; exact k
    | lst a n b => refine dq_isi false hd (by simp only [tyD]; decide +kernel) ?_; walk_at "go"; exact k
    | tup a b => refine dq_isi false hd (by simp only [tyD]; decide +kernel) ?_; walk_at "go"; exact k
    | dct a n b c => refine dq_isi false hd (by simp only [tyD]; decide +kernel) ?_; walk_at "go"; exact k
def sp_is_within (K : PySem.W.Frag) : Sp := fun vs H Q _ => ∃ x N d lo hi, vs = [x, .int lo, .int hi] ∧ Dq K N H x d ∧ Q (.bl (withinD d lo hi)) H
theorem ok_is_within (T : Txt K mg) : FnOk P w K mg base CX0 2 T.is_within.f T.is_within.fd ["thing", "low", "high"] (sp_is_within K) := by
  refine T.is_within.F.ok sc_is_within (fun vs H Q E h => ?_) (fun cdv A outer s H vs Q E hr h => ?_)
  · obtain ⟨x, N, d, lo, hi, rfl, _⟩ := h
    rfl
  · obtain ⟨x, N, d, lo, hi, rfl, hd, k⟩ := h
    refine ⟨_, (pss_one (ps_ret (pe_and (pe_call (ok_is_integer T) (hr.mono (by decide)) (by rfl) T.is_integer.g T.is_integer.F.kp T.is_integer.b .nil pass0 (pa_cons (pv 0) pa_nil)) (pe_one (pe_chain op_le op_le (pv 1) (pv 0) (pv 2)))))), ?_⟩
    walk_at "go"
    refine ⟨x, N, d, rfl, hd, ?_⟩
    cases hd with
    | int a =>
      walk_at "go"
      refine i_d (fun h1 => ?_) (fun h1 => ?_)
      · walk_at "go"
        simpa [withinD, h1] using k
      · walk_at "go"
        simpa [withinD, h1] using k
    | _ => walk_at "go"; exact k
def sp_is_number (K : PySem.W.Frag) : Sp := fun vs H Q _ => ∃ x N d, vs = [x] ∧ Dq K N H x d ∧ Q (.bl (isND d)) H
theorem ok_is_number (T : Txt K mg) : FnOk P w K mg base CX0 2 T.is_number.f T.is_number.fd ["thing"] (sp_is_number K) := by
  refine T.is_number.F.ok sc_is_number (fun vs H Q E h => ?_) (fun cdv A outer s H vs Q E hr h => ?_)
  · obtain ⟨x, N, d, rfl, _⟩ := h
    rfl
  · obtain ⟨x, N, d, rfl, hd, k⟩ := h
    refine ⟨_, (pss_one (ps_ret (pe_and (pe_call (ok_is_integer T) (hr.mono (by decide)) (by rfl) T.is_integer.g T.is_integer.F.kp T.is_integer.b .nil pass0 (pa_cons (pv 0) pa_nil)) (pe_one (pe_cmpR op_ge (pv 0) pe_int (nomark _)))))), ?_⟩
    walk_at "go"
    refine ⟨x, N, d, rfl, hd, ?_⟩
    cases hd with
    | _ => walk_at "go"; exact k
def sp_is_worth (K : PySem.W.Frag) : Sp := fun vs H Q _ => ∃ x N d, vs = [x] ∧ Dq K N H x d ∧ Q (.bl (withinD d (-1000000000000000000) 1000000000000000000)) H
theorem ok_is_worth (T : Txt K mg) : FnOk P w K mg base CX0 3 T.is_worth.f T.is_worth.fd ["thing"] (sp_is_worth K) := by
  refine T.is_worth.F.ok sc_is_worth (fun vs H Q E h => ?_) (fun cdv A outer s H vs Q E hr h => ?_)
  · obtain ⟨x, N, d, rfl, _⟩ := h
    rfl
  · obtain ⟨x, N, d, rfl, hd, k⟩ := h
    refine ⟨_, (pss_one (ps_ret (pe_call (ok_is_within T) (hr.mono (by decide)) (by rfl) T.is_within.g T.is_within.F.kp T.is_within.b .nil pass0 (pa_cons (pv 0) (pa_cons (pe_un un_neg (pe_glob (by rfl) T.c_GREATEST_WORTH.h T.c_GREATEST_WORTH.r)) (pa_cons (pe_glob (by rfl) T.c_GREATEST_WORTH.h T.c_GREATEST_WORTH.r) pa_nil)))))), ?_⟩
    walk_at "go"
    exact ⟨x, N, d, _, _, rfl, hd, k⟩
def sp_is_mark (K : PySem.W.Frag) : Sp := fun vs H Q _ => ∃ x N d, vs = [x] ∧ Dq K N H x d ∧ Q (.bl (markD d)) H
theorem ok_is_mark (T : Txt K mg) : FnOk P w K mg base CX0 4 T.is_mark.f T.is_mark.fd ["thing"] (sp_is_mark K) := by
  refine T.is_mark.F.ok sc_is_mark (fun vs H Q E h => ?_) (fun cdv A outer s H vs Q E hr h => ?_)
  · obtain ⟨x, N, d, rfl, _⟩ := h
    rfl
  · obtain ⟨x, N, d, rfl, hd, k⟩ := h
    refine ⟨_, (pss_one (ps_ret (pe_or (pe_cmpR oIsN (pv 0) pe_non (nomark _)) (pe_one (pe_call (ok_is_worth T) (hr.mono (by decide)) (by rfl) T.is_worth.g T.is_worth.F.kp T.is_worth.b .nil pass0 (pa_cons (pv 0) pa_nil)))))), ?_⟩
    walk_at "go"
    cases id hd with
    | non => walk_at "go"; exact k
    | _ => walk_at "go"; exact ⟨_, N, _, rfl, hd, k⟩
/-! ### words and keys -/
def wordB (z : Str) : Bool := decide (z.length ≤ 12) && (decide (z = "") || (Txt.isascii z && (Txt.isalpha z && Txt.islower z)))
abbrev isWD : PyData → Bool
  | .str z => wordB z
  | _ => false
abbrev isKD : PyData → Bool
  | .str z => wordB z && !decide (z = "")
  | _ => false
def smD : PyData → Bool
  | .str z => decide (z.length ≤ 100000)
  | _ => true
def sp_is_word (K : PySem.W.Frag) : Sp := fun vs H Q _ => ∃ x N d, vs = [x] ∧ Dq K N H x d ∧ smD d = true ∧ Q (.bl (isWD d)) H
theorem ok_is_word (T : Txt K mg) : FnOk P w K mg base CX0 1 T.is_word.f T.is_word.fd ["thing"] (sp_is_word K) := by
  refine T.is_word.F.ok sc_is_word (fun vs H Q E h => ?_) (fun cdv A outer s H vs Q E hr h => ?_)
  · obtain ⟨x, N, d, rfl, _⟩ := h
    rfl
  · obtain ⟨x, N, d, rfl, hd, hp, k⟩ := h
    refine ⟨_, (pss_cons (ps_if (PW.pt (pw_or (pt_not (ptTruth (K := K) (pe_callB (cIsi (K := K)) (by rfl) T.z_isinstance (by decide +kernel) (pa_cons (pv 0) (pa_cons (pe_bltn (v := .ty "str") (by rfl) T.z_str (by decide +kernel) rfl) pa_nil))) (by intro _; rfl))) (pw_or1 (pt_cmpR op_gt (pe_callB (cLen (K := K)) (by rfl) T.z_len PySem.boot_len (pa_cons (pv 0) pa_nil)) (pe_glob (by rfl) T.c_LONGEST_WORD.h T.c_LONGEST_WORD.r) (nomark _))))) (pss_one (ps_ret pe_bl)) pss_nil)
    (pss_one (ps_ret (pe_or (pe_cmpR (oEq (K := K) hr.units) (pv 0) pe_str (nomark _)) (pe_one (pe_and (peIsascii (K := K) (pv 0)) (pe_and (peIsalpha (K := K) (pv 0)) (pe_one (peIslower (K := K) (pv 0)))))))))), ?_⟩
    walk_at "go"
    cases id hd with
    | int i => walk_at "go"; exact k
    | non => walk_at "go"; exact k
    | bl b => walk_at "go"; exact k
    | lst a n b => refine dq_isi false hd (by simp only [tyD]; decide +kernel) ?_; walk_at "go"; exact k
    | tup a b => refine dq_isi false hd (by simp only [tyD]; decide +kernel) ?_; walk_at "go"; exact k
    | dct a n b c => refine dq_isi false hd (by simp only [tyD]; decide +kernel) ?_; walk_at "go"; exact k
    | str z =>
      have hz : z.length ≤ 100000 := of_decide_eq_true hp
      walk_at "go"
      refine e_lenS hz ?_
      walk_at "go"
      have k : Q (.bl (wordB z)) H := k
      unfold wordB at k
      refine i_d (fun q => ?_) (fun q => ?_)
      · rw [decide_eq_false (show ¬ z.length ≤ 12 by omega)] at k
        walk_at "go"
        exact k
      · rw [decide_eq_true (show z.length ≤ 12 by omega), Bool.true_and] at k
        walk_at "go"
        refine i_d (fun q2 => ?_) (fun q2 => ?_)
        · rw [decide_eq_true q2, Bool.true_or] at k
          walk_at "go"
          exact k
        · rw [decide_eq_false q2, Bool.false_or] at k
          walk_at "go"
          cases e1 : Txt.isascii z with
          | false =>
            rw [e1] at k
            walk_at "go"
            exact k
          | true =>
            rw [e1, Bool.true_and] at k
            walk_at "go"
            cases e2 : Txt.isalpha z with
            | false =>
              rw [e2] at k
              walk_at "go"
              exact k
            | true =>
              rw [e2, Bool.true_and] at k
              walk_at "go"
              exact k
def sp_is_key (K : PySem.W.Frag) : Sp := fun vs H Q _ => ∃ x N d, vs = [x] ∧ Dq K N H x d ∧ smD d = true ∧ Q (.bl (isKD d)) H
theorem ok_is_key (T : Txt K mg) : FnOk P w K mg base CX0 2 T.is_key.f T.is_key.fd ["thing"] (sp_is_key K) := by
  refine T.is_key.F.ok sc_is_key (fun vs H Q E h => ?_) (fun cdv A outer s H vs Q E hr h => ?_)
  · obtain ⟨x, N, d, rfl, _⟩ := h
    rfl
  · obtain ⟨x, N, d, rfl, hd, hp, k⟩ := h
    refine ⟨_, (pss_one (ps_ret (pe_and (pe_call (ok_is_word T) (hr.mono (by decide)) (by rfl) T.is_word.g T.is_word.F.kp T.is_word.b .nil pass0 (pa_cons (pv 0) pa_nil)) (pe_one (pe_cmpR (oNe (K := K) hr.units) (pv 0) pe_str (nomark _)))))), ?_⟩
    walk_at "go"
    refine ⟨x, N, d, rfl, hd, hp, ?_⟩
    cases hd with
    | str z =>
      walk_at "go"
      have k : Q (.bl (wordB z && !decide (z = ""))) H := k
      cases e1 : wordB z with
      | false =>
        rw [e1] at k
        rw [show isWD (PyData.str z) = false from e1]
        exact k
      | true =>
        rw [e1, Bool.true_and] at k
        rw [show isWD (PyData.str z) = true from e1, if_pos rfl]
        walk_at "go"
        rw [decide_not]
        exact k
    | _ => walk_at "go"; exact k
theorem o_ixX {H : Hp} {Q : VK} {p : Addr} {xs : List V} {a : Int} {v : V} (s : SqX K H p xs) (e : atI xs a = some v) (q : Q v H) : rIxLT K (.ref p) (.int a) H Q := s.elim (fun s => o_ixL s e q) fun s => o_ixT s e q
theorem e_lenX' {H : Hp} {Q : VK} {p : Addr} {xs : List V} (s : SqX K H p xs) (q : Q (.int (xs.length : Nat)) H) : rLen' K [.ref p] H Q := s.elim (fun s => e_lenL s q) fun s => e_lenT s q
/-! ### rows in order -/
def ascF (ds : List PyData) (k : Nat) : Bool := PySem.W.dataLt (ds.getD k .none) (ds.getD (k + 1) .none)
def ascD (ds : List PyData) : Bool := ((List.range (ds.length - 1)).map (ascF ds)).all id
def sp_is_ascending (K : PySem.W.Frag) : Sp := fun vs H Q _ => ∃ a xs N ds, vs = [.ref a] ∧ SqX K H a xs ∧ DqAll K N H xs ds ∧ (∀ i, i + 1 < ds.length → LtOk (ds.getD i .none) (ds.getD (i + 1) .none)) ∧ ds.length ≤ 1000 ∧ ∀ H', Same H H' → Q (.bl (ascD ds)) H'
theorem ok_is_ascending (T : Txt K mg) : FnOk P w K mg base CX0 1 T.is_ascending.f T.is_ascending.fd ["row"] (sp_is_ascending K) := by
  refine T.is_ascending.F.ok sc_is_ascending (fun vs H Q E h => ?_) (fun cdv A outer s H vs Q E hr h => ?_)
  · obtain ⟨a, xs, N, ds, rfl, _⟩ := h
    rfl
  · obtain ⟨a, xs, N, ds, rfl, hS, hA, lt, hl, k⟩ := h
    refine ⟨_, (pss_one (ps_ret (pe_callB (cAll (K := K) rfl) (by rfl) T.z_all (by decide +kernel) (pa_cons (pe_lc (own := [("k", 1)]) rfl sc_is_ascending.nd (pi_range1 (by rfl) T.z_range (pa_cons (pe_op op_sub (pe_callB (cLen (K := K)) (by rfl) T.z_len PySem.boot_len (pa_cons (pv 0) pa_nil)) pe_int) pa_nil)) (blkOk_by (N := n_is_ascending) (sc := defScope s_is_ascending) (by decide +kernel)) (fun _ _ _ _ _ => (pg_name (i := 1) sc_is_ascending.nd rfl (Or.inl rfl))) (fun _ _ _ _ _ => pts_nil) (fun _ _ _ _ _ => (pe_cmpR (oLtX (K := K) hr.units) (pe_ix (ixLT (K := K)) (pv 0) (pv 1) (fun _ _ => rfl)) (pe_ix (ixLT (K := K)) (pv 0) (pe_op oAdd (pv 1) pe_int) (fun _ _ => rfl)) (nomark _)))) pa_nil)))), ?_⟩
    have ll := hA.len
    walk_at "go"
    refine e_lenX' hS ?_
    walk_at "go"
    refine i_rng (ds.length - 1) (by omega) (by omega) (by omega) ?_
    refine c_rng (fun i acc H1 => Same H H1 ∧ acc = ((List.range i).map (ascF ds)).map V.bl) (fun D hD => ⟨upd_free (Same.refl _) hD, rfl⟩) (fun acc D H1 hD hp p => ?_) (fun _ => rfl) (fun i acc H1 D hi hD hp p => ?_)
    · obtain ⟨p1, rfl⟩ := p
      walk_at "go"
      exact e_allB hp (k _ p1)
    · obtain ⟨p1, rfl⟩ := p
      have hS1 : SqX K H1 a xs := hS.imp (sl_ p1) (st_ p1)
      have hA1 := hA.same p1
      have h0 : i < xs.length := by omega
      have h1 : i + 1 < xs.length := by omega
      have g0 := List.getElem?_eq_getElem h0
      have g1 := List.getElem?_eq_getElem h1
      obtain ⟨d0, e0, q0⟩ := hA1.get g0
      obtain ⟨d1, e1, q1⟩ := hA1.get g1
      walk_at "go"
      refine o_ixX hS1 (atI_in rfl g0) ?_
      walk_at "go"
      refine o_ixX hS1 (atI_in (j := i + 1) (by omega) g1) ?_
      have f0 : ds.getD i .none = d0 := by rw [List.getD_eq_getElem?_getD, e0]; rfl
      have f1 : ds.getD (i + 1) .none = d1 := by rw [List.getD_eq_getElem?_getD, e1]; rfl
      have lt0 := lt i (by omega)
      rw [f0, f1] at lt0
      refine ⟨N, N, d0, d1, q0, q1, lt0, ?_⟩
      refine ⟨_, hp, lt_size (by simp; omega), _, upd_same, upd_free p1 hD, ?_⟩
      rw [List.range_succ, List.map_append, List.map_append, ← f0, ← f1]; rfl
end



section
variable {P : Program} {w : World} {K : PySem.W.Frag} {mg : Str → Option Value} {base : Heap}
/-! ### what can be seen, what can be written -/
mutual
def szD : PyData → Bool
  | .str z => decide (z.length ≤ 100000)
  | .tuple ds => decide (ds.length ≤ 1000) && szAll ds
  | .list ds => decide (ds.length ≤ 1000) && szAll ds
  | _ => true
def szAll : List PyData → Bool
  | [] => true
  | d :: ds => szD d && szAll ds
end
theorem sz_sm {d : PyData} (h : szD d = true) : smD d = true := by
  cases d with
  | str z => simpa [szD, smD] using h
  | _ => rfl
theorem szAll_mem : ∀ {ds : List PyData} {d : PyData}, szAll ds = true → d ∈ ds → szD d = true
  | d :: ds, e, h, m => by
    rw [szAll, Bool.and_eq_true] at h
    rcases List.mem_cons.mp m with z | z
    · rw [z]; exact h.1
    · exact szAll_mem h.2 z
theorem sz_tup {ds : List PyData} (h : szD (.tuple ds) = true) : ds.length ≤ 1000 ∧ szAll ds = true := by
  rw [szD, Bool.and_eq_true] at h
  exact ⟨of_decide_eq_true h.1, h.2⟩
theorem key_str {d : PyData} (h : isKD d = true) : ∃ z : Str, d = .str z := by
  cases d with
  | str z => exact ⟨z, rfl⟩
  | _ => cases h
theorem lt_keys {d e : PyData} (h : isKD d = true) (k : isKD e = true) : LtOk d e := by
  obtain ⟨y, rfl⟩ := key_str h
  obtain ⟨z, rfl⟩ := key_str k
  exact ⟨rfl, rfl, rfl, (fun q => nomatch q), by simp [PyData.depth]⟩
theorem all_getD {f : PyData → Bool} {ds : List PyData} (h : ds.all f = true) {i : Nat} (hi : i < ds.length) : f (ds.getD i .none) = true := by
  rw [List.getD_eq_getElem?_getD, List.getElem?_eq_getElem hi]
  exact List.all_eq_true.mp h _ (List.getElem_mem hi)
def keysD : PyData → Bool
  | .tuple ds => ds.all isKD && ascD ds
  | _ => false
theorem dq_tupl {N : Addr → Prop} {H : Hp} {x : V} {ds : List PyData} (h : Dq K N H x (.tuple ds)) : ∃ a xs, x = .ref a ∧ SqT K H a xs ∧ DqAll K N H xs ds := by
  cases h with
  | tup hS hA => exact ⟨_, _, rfl, hS, hA⟩
def sp_are_keys (K : PySem.W.Frag) : Sp := fun vs H Q _ => ∃ x N d, vs = [x] ∧ Dq K N H x d ∧ szD d = true ∧ ∀ H', Same H H' → Q (.bl (keysD d)) H'
theorem ok_are_keys (T : Txt K mg) : FnOk P w K mg base CX0 3 T.are_keys.f T.are_keys.fd ["thing"] (sp_are_keys K) := by
  refine T.are_keys.F.ok sc_are_keys (fun vs H Q E h => ?_) (fun cdv A outer s H vs Q E hr h => ?_)
  · obtain ⟨x, N, d, rfl, _⟩ := h
    rfl
  · obtain ⟨x, N, d, rfl, hd, hz, k⟩ := h
    refine ⟨_, (pss_one (ps_ret (pe_and (pe_callB (cIsi (K := K)) (by rfl) T.z_isinstance (by decide +kernel) (pa_cons (pv 0) (pa_cons (pe_bltn (v := .ty "tuple") (by rfl) T.z_tuple (by decide +kernel) rfl) pa_nil))) (pe_and (pe_callB (cAll (K := K) rfl) (by rfl) T.z_all (by decide +kernel) (pa_cons (pe_lc (own := [("key", 1)]) rfl sc_are_keys.nd (piT (K := K) (pv 0)) (blkOk_by (N := n_are_keys) (sc := defScope s_are_keys) (by decide +kernel)) (fun _ _ _ _ _ => (pg_name (i := 1) sc_are_keys.nd rfl (Or.inl rfl))) (fun _ _ _ _ _ => pts_nil) (fun _ _ _ _ _ => (pe_call (ok_is_key T) (hr.mono (by decide)) (by rfl) T.is_key.g T.is_key.F.kp T.is_key.b .nil pass0 (pa_cons (pv 1) pa_nil)))) pa_nil)) (pe_one (pe_call (ok_is_ascending T) (hr.mono (by decide)) (by rfl) T.is_ascending.g T.is_ascending.F.kp T.is_ascending.b .nil pass0 (pa_cons (pv 0) pa_nil))))))), ?_⟩
    walk_at "go"
    cases id hd with
    | int i => walk_at "go"; exact k _ (Same.refl _)
    | non => walk_at "go"; exact k _ (Same.refl _)
    | bl b => walk_at "go"; exact k _ (Same.refl _)
    | str z => walk_at "go"; exact k _ (Same.refl _)
    | lst a n b => refine dq_isi false hd (by simp only [tyD]; decide +kernel) ?_; walk_at "go"; exact k _ (Same.refl _)
    | dct a n b c => refine dq_isi false hd (by simp only [tyD]; decide +kernel) ?_; walk_at "go"; exact k _ (Same.refl _)
    | @tup a ys ds hS hA =>
      obtain ⟨hl, hza⟩ := sz_tup hz
      have ll := hA.len
      walk_at "go"
      refine i_tup hS ?_
      refine c_tup (xs := ys) (fun i acc H1 => Same H H1 ∧ acc = ((ds.take i).map isKD).map V.bl) (fun D hD => ⟨upd_free (Same.refl _) hD, rfl⟩) (fun i acc H1 hi p => st_ p.1 hS) (fun acc D H1 hD hp p => ?_) (fun _ => rfl) (fun i x acc H1 D hx hD hp p => ?_)
      · obtain ⟨p1, rfl⟩ := p
        walk_at "go"
        refine e_allB hp ?_
        walk_at "go"
        have e0 : (List.map isKD (List.take ys.length ds)).all id = ds.all isKD := by
          rw [ll, List.take_length, List.all_map]; rfl
        rw [e0]
        have e2 : keysD (.tuple ds) = (ds.all isKD && ascD ds) := rfl
        cases e1 : ds.all isKD with
        | true =>
          walk_at "go"
          refine ⟨a, ys, N, ds, rfl, .inr (st_ p1 hS), hA.same p1, fun i hi => lt_keys (all_getD e1 (by omega)) (all_getD e1 hi), hl, fun H2 s2 => ?_⟩
          have e3 : keysD (.tuple ds) = ascD ds := by rw [e2, e1]; rfl
          rw [← e3]
          exact k _ (p1.trans s2)
        | false =>
          walk_at "go"
          have e3 : keysD (.tuple ds) = false := by rw [e2, e1]; rfl
          rw [← e3]
          exact k _ p1
      · obtain ⟨p1, rfl⟩ := p
        obtain ⟨d, ed, hdx⟩ := hA.get hx
        have hi : i < ds.length := (List.getElem?_eq_some_iff.mp ed).1
        walk_at "go"
        refine ⟨x, N, d, rfl, hdx.same p1, sz_sm (szAll_mem hza (List.mem_of_getElem? ed)), ?_⟩
        refine ⟨_, hp, lt_size (by simp; omega), _, upd_same, upd_free p1 hD, ?_⟩
        rw [List.take_add_one, ed, List.map_append, List.map_append]; rfl
theorem g_tri {σ : L2.St} {i1 i2 i3 : Nat} {T : Addr} {x y z : V} {R : L2.St → Hp → Prop} {H : Hp} (h : SqT K H T [x, y, z]) (q : R (((σ.set i1 (some x)).set i2 (some y)).set i3 (some z)) H) : gTup K 3 (gCons (gName i1) (gCons (gName i2) (gCons (gName i3) gNil))) (.ref T) σ H R :=
  ⟨T, [x, y, z], rfl, h, rfl, x, [y, z], rfl, y, [z], rfl, z, [], rfl, rfl, q⟩
def lastD (es : List PyData) : PyData := es.getD (es.length - 1) .none
def endsD (a b : PyData) : PyData → Bool
  | .tuple es => decide (es.length = 0) || (!PySem.W.dataLt (es.getD 0 .none) a && !PySem.W.dataLt b (lastD es))
  | _ => false
def rangeD : PyData → Bool
  | .tuple [a, b, c] => isKD a && (isKD b && (!PySem.W.dataLt b a && (keysD c && endsD a b c)))
  | _ => false
def sp_is_seen_range (K : PySem.W.Frag) : Sp := fun vs H Q _ => ∃ x N d, vs = [x] ∧ Dq K N H x d ∧ szD d = true ∧ ∀ H', Same H H' → Q (.bl (rangeD d)) H'
theorem ok_is_seen_range (T : Txt K mg) : FnOk P w K mg base CX0 4 T.is_seen_range.f T.is_seen_range.fd ["thing"] (sp_is_seen_range K) := by
  refine T.is_seen_range.F.ok sc_is_seen_range (fun vs H Q E h => ?_) (fun cdv A outer s H vs Q E hr h => ?_)
  · obtain ⟨x, N, d, rfl, _⟩ := h
    rfl
  · obtain ⟨x, N, d, rfl, hd, hz, k⟩ := h
    refine ⟨_, (pss_cons (ps_if (PW.pt (pw_or (pt_not (ptTruth (K := K) (pe_callB (cIsi (K := K)) (by rfl) T.z_isinstance (by decide +kernel) (pa_cons (pv 0) (pa_cons (pe_bltn (v := .ty "tuple") (by rfl) T.z_tuple (by decide +kernel) rfl) pa_nil))) (by intro _; rfl))) (pw_or1 (pt_cmpR (oNe (K := K) hr.units) (pe_callB (cLen (K := K)) (by rfl) T.z_len PySem.boot_len (pa_cons (pv 0) pa_nil)) pe_int (nomark _))))) (pss_one (ps_ret pe_bl)) pss_nil)
    (pss_cons (ps_asg (pv 0) (pgTup (K := K) (n := 3) (pg_tup (n := 3) rfl (pgs_cons (pg_name (i := 1) sc_is_seen_range.nd rfl (Or.inl rfl)) (pgs_cons (pg_name (i := 2) sc_is_seen_range.nd rfl (Or.inl rfl)) (pgs_cons (pg_name (i := 3) sc_is_seen_range.nd rfl (Or.inl rfl)) pgs_nil))))))
    (pss_cons (ps_if (PW.pt (pw_or (pt_not (ptTruth (K := K) (pe_call (ok_is_key T) (hr.mono (by decide)) (by rfl) T.is_key.g T.is_key.F.kp T.is_key.b .nil pass0 (pa_cons (pv 1) pa_nil)) (by intro _; rfl))) (pw_or (pt_not (ptTruth (K := K) (pe_call (ok_is_key T) (hr.mono (by decide)) (by rfl) T.is_key.g T.is_key.F.kp T.is_key.b .nil pass0 (pa_cons (pv 2) pa_nil)) (by intro _; rfl))) (pw_or (pt_cmpR (oGtX (K := K) hr.units) (pv 1) (pv 2) (nomark _)) (pw_or1 (pt_not (ptTruth (K := K) (pe_call (ok_are_keys T) (hr.mono (by decide)) (by rfl) T.are_keys.g T.are_keys.F.kp T.are_keys.b .nil pass0 (pa_cons (pv 3) pa_nil)) (by intro _; rfl)))))))) (pss_one (ps_ret pe_bl)) pss_nil)
    (pss_one (ps_ret (pe_or (pe_cmpR (oEq (K := K) hr.units) (pe_callB (cLen (K := K)) (by rfl) T.z_len PySem.boot_len (pa_cons (pv 3) pa_nil)) pe_int (nomark _)) (pe_one (pe_and (pe_cmpR (oLeX (K := K) hr.units) (pv 1) (pe_ix (ixLT (K := K)) (pv 3) pe_int (fun _ _ => rfl)) (nomark _)) (pe_one (pe_cmpR (oLeX (K := K) hr.units) (pe_ix (ixLT (K := K)) (pv 3) (pe_un un_neg pe_int) (fun _ _ => rfl)) (pv 2) (nomark _))))))))))), ?_⟩
    walk_at "go"
    cases id hd with
    | int i => walk_at "go"; exact k _ (Same.refl _)
    | non => walk_at "go"; exact k _ (Same.refl _)
    | bl b => walk_at "go"; exact k _ (Same.refl _)
    | str z => walk_at "go"; exact k _ (Same.refl _)
    | lst a n b => refine dq_isi false hd (by simp only [tyD]; decide +kernel) ?_; walk_at "go"; exact k _ (Same.refl _)
    | dct a n b c => refine dq_isi false hd (by simp only [tyD]; decide +kernel) ?_; walk_at "go"; exact k _ (Same.refl _)
    | @tup a ys ds hS hA =>
      obtain ⟨hl, hza⟩ := sz_tup hz
      have ll := hA.len
      walk_at "go"
      refine i_d (fun q => ?_) (fun q => ?_)
      · walk_at "go"
        have e : rangeD (.tuple ds) = false := by
          unfold rangeD
          split
          · next e => cases e; exact absurd (by rw [ll]; rfl) q
          · rfl
        rw [← e]
        exact k _ (Same.refl _)
      · have l3 : ds.length = 3 := by omega
        match ds, hA, l3, hza with
        | [da, db, dc], hA, _, hza =>
          cases hA with
          | @cons xa _ _ _ ha hA =>
          cases hA with
          | @cons xb _ _ _ hb hA =>
          cases hA with
          | @cons xc _ _ _ hc hA =>
          cases hA
          rw [szAll, szAll, szAll, szAll, Bool.and_eq_true, Bool.and_eq_true, Bool.and_eq_true] at hza
          obtain ⟨za, zb, zc, _⟩ := hza
          have def_ : rangeD (.tuple [da, db, dc]) = (isKD da && (isKD db && (!PySem.W.dataLt db da && (keysD dc && endsD da db dc)))) := rfl
          rw [def_] at k
          walk_at "go"
          refine g_tri hS ?_
          walk_at "go"
          refine ⟨xa, N, da, rfl, ha, sz_sm za, ?_⟩
          walk_at "go"
          cases e1 : isKD da with
          | false =>
            rw [e1] at k
            walk_at "go"
            exact k _ (Same.refl _)
          | true =>
          rw [e1, Bool.true_and] at k
          walk_at "go"
          refine ⟨xb, N, db, rfl, hb, sz_sm zb, ?_⟩
          walk_at "go"
          cases e2 : isKD db with
          | false =>
            rw [e2] at k
            walk_at "go"
            exact k _ (Same.refl _)
          | true =>
          rw [e2, Bool.true_and] at k
          walk_at "go"
          refine ⟨N, N, da, db, ha, hb, lt_keys e1 e2, ?_⟩
          dsimp only
          walk_at "go"
          cases e3 : PySem.W.dataLt db da with
          | true =>
            rw [e3] at k
            walk_at "go"
            exact k _ (Same.refl _)
          | false =>
          rw [e3, Bool.not_false, Bool.true_and] at k
          walk_at "go"
          refine ⟨xc, N, dc, rfl, hc, zc, fun H1 s1 => ?_⟩
          walk_at "go"
          cases e4 : keysD dc with
          | false =>
            rw [e4] at k
            walk_at "go"
            exact k _ s1
          | true =>
          rw [e4, Bool.true_and] at k
          obtain ⟨es, rfl⟩ : ∃ es, dc = .tuple es := by
            cases dc with
            | tuple es => exact ⟨es, rfl⟩
            | _ => cases e4
          obtain ⟨c, zs, rfl, hSc, hAc⟩ := dq_tupl (hc.same s1)
          have lc := hAc.len
          have allk : es.all isKD = true := by
            have : (es.all isKD && ascD es) = true := e4
            rw [Bool.and_eq_true] at this
            exact this.1
          have def2 : endsD da db (.tuple es) = (decide (es.length = 0) || (!PySem.W.dataLt (es.getD 0 .none) da && !PySem.W.dataLt db (lastD es))) := rfl
          rw [def2] at k
          walk_at "go"
          refine i_d (fun q => ?_) (fun q => ?_)
          · walk_at "go"
            rw [decide_eq_true (show es.length = 0 by omega), Bool.true_or] at k
            exact k _ s1
          · have pos : 0 < es.length := by omega
            rw [decide_eq_false (show ¬ es.length = 0 by omega), Bool.false_or] at k
            walk_at "go"
            have g0 := List.getElem?_eq_getElem (show 0 < zs.length by omega)
            obtain ⟨d0, f0, q0⟩ := hAc.get g0
            have h0 : es.getD 0 .none = d0 := by rw [List.getD_eq_getElem?_getD, f0]; rfl
            refine o_ixT hSc (atI_in (j := 0) rfl g0) ?_
            refine ⟨N, N, da, d0, ha.same s1, q0, h0 ▸ lt_keys e1 (all_getD allk pos), ?_⟩
            dsimp only
            rw [h0] at k
            walk_at "go"
            cases e5 : PySem.W.dataLt d0 da with
            | true =>
              rw [e5] at k
              walk_at "go"
              exact k _ s1
            | false =>
            rw [e5, Bool.not_false, Bool.true_and] at k
            walk_at "go"
            have gl := List.getElem?_eq_getElem (show zs.length - 1 < zs.length by omega)
            obtain ⟨dl, fl, ql⟩ := hAc.get gl
            have hlast : lastD es = dl := by
              unfold lastD
              rw [List.getD_eq_getElem?_getD, ← lc, fl]; rfl
            refine o_ixT hSc (atI_neg (by omega) gl) ?_
            walk_at "go"
            refine ⟨N, N, dl, db, ql, hb.same s1, hlast ▸ lt_keys (all_getD allk (by omega)) e2, ?_⟩
            dsimp only
            rw [hlast] at k
            exact k _ s1
/-! ### rows of what was seen, of what is written -/
theorem range_inv {d : PyData} (h : rangeD d = true) : ∃ a b c, d = .tuple [a, b, c] ∧ isKD a = true ∧ isKD b = true ∧ PySem.W.dataLt b a = false ∧ keysD c = true ∧ endsD a b c = true := by
  unfold rangeD at h
  split at h
  · next a b c =>
    rw [Bool.and_eq_true, Bool.and_eq_true, Bool.and_eq_true, Bool.and_eq_true] at h
    exact ⟨a, b, c, rfl, h.1, h.2.1, by simpa using h.2.2.1, h.2.2.2.1, h.2.2.2.2⟩
  · cases h
theorem keys_inv {d : PyData} (h : keysD d = true) : ∃ es, d = .tuple es ∧ es.all isKD = true ∧ ascD es = true := by
  cases d with
  | tuple es =>
    have : (es.all isKD && ascD es) = true := h
    rw [Bool.and_eq_true] at this
    exact ⟨es, rfl, this.1, this.2⟩
  | _ => cases h
theorem alike_keys : ∀ {es fs : List PyData}, es.all isKD = true → fs.all isKD = true → PySem.W.alikeAll es fs = true
  | [], _, _, _ => by simp [PySem.W.alikeAll]
  | _ :: _, [], _, _ => by simp [PySem.W.alikeAll]
  | e :: es, f :: fs, h, k => by
    rw [List.all_cons, Bool.and_eq_true] at h k
    obtain ⟨y, rfl⟩ := key_str h.1
    obtain ⟨z, rfl⟩ := key_str k.1
    rw [PySem.W.alikeAll, alike_keys h.2 k.2]; rfl
theorem depth_keys : ∀ {es : List PyData}, es.all isKD = true → PyData.depthAll es = 0
  | [], _ => by simp [PyData.depthAll]
  | e :: es, h => by
    rw [List.all_cons, Bool.and_eq_true] at h
    obtain ⟨y, rfl⟩ := key_str h.1
    rw [PyData.depthAll, depth_keys h.2]; simp [PyData.depth]
theorem alike_ranges {d e : PyData} (h : rangeD d = true) (k : rangeD e = true) : PySem.W.alike d e = true := by
  obtain ⟨a, b, c, rfl, h1, h2, _, h3, _⟩ := range_inv h
  obtain ⟨a', b', c', rfl, k1, k2, _, k3, _⟩ := range_inv k
  obtain ⟨es, rfl, ha, _⟩ := keys_inv h3
  obtain ⟨fs, rfl, ka, _⟩ := keys_inv k3
  obtain ⟨x1, rfl⟩ := key_str h1
  obtain ⟨x2, rfl⟩ := key_str h2
  obtain ⟨y1, rfl⟩ := key_str k1
  obtain ⟨y2, rfl⟩ := key_str k2
  simp [PySem.W.alike, PySem.W.alikeAll, alike_keys ha ka]
theorem lt_ranges {d e : PyData} (h : rangeD d = true) (k : rangeD e = true) : LtOk d e := by
  refine ⟨alike_ranges h k, alike_ranges h h, alike_ranges k k, fun z => ?_, ?_⟩
  · rw [z] at h; cases h
  · obtain ⟨a, b, c, rfl, h1, h2, _, h3, _⟩ := range_inv h
    obtain ⟨es, rfl, ha, _⟩ := keys_inv h3
    obtain ⟨x1, rfl⟩ := key_str h1
    obtain ⟨x2, rfl⟩ := key_str h2
    simp [PyData.depth, PyData.depthAll, depth_keys ha]
def rangesD : PyData → Bool
  | .tuple ds => ds.all rangeD && ascD ds
  | _ => false
def sp_are_ranges (K : PySem.W.Frag) : Sp := fun vs H Q _ => ∃ x N d, vs = [x] ∧ Dq K N H x d ∧ szD d = true ∧ ∀ H', Same H H' → Q (.bl (rangesD d)) H'
theorem ok_are_ranges (T : Txt K mg) : FnOk P w K mg base CX0 5 T.are_ranges.f T.are_ranges.fd ["thing"] (sp_are_ranges K) := by
  refine T.are_ranges.F.ok sc_are_ranges (fun vs H Q E h => ?_) (fun cdv A outer s H vs Q E hr h => ?_)
  · obtain ⟨x, N, d, rfl, _⟩ := h
    rfl
  · obtain ⟨x, N, d, rfl, hd, hz, k⟩ := h
    refine ⟨_, (pss_one (ps_ret (pe_and (pe_callB (cIsi (K := K)) (by rfl) T.z_isinstance (by decide +kernel) (pa_cons (pv 0) (pa_cons (pe_bltn (v := .ty "tuple") (by rfl) T.z_tuple (by decide +kernel) rfl) pa_nil))) (pe_and (pe_callB (cAll (K := K) rfl) (by rfl) T.z_all (by decide +kernel) (pa_cons (pe_lc (own := [("item", 1)]) rfl sc_are_ranges.nd (piT (K := K) (pv 0)) (blkOk_by (N := n_are_ranges) (sc := defScope s_are_ranges) (by decide +kernel)) (fun _ _ _ _ _ => (pg_name (i := 1) sc_are_ranges.nd rfl (Or.inl rfl))) (fun _ _ _ _ _ => pts_nil) (fun _ _ _ _ _ => (pe_call (ok_is_seen_range T) (hr.mono (by decide)) (by rfl) T.is_seen_range.g T.is_seen_range.F.kp T.is_seen_range.b .nil pass0 (pa_cons (pv 1) pa_nil)))) pa_nil)) (pe_one (pe_call (ok_is_ascending T) (hr.mono (by decide)) (by rfl) T.is_ascending.g T.is_ascending.F.kp T.is_ascending.b .nil pass0 (pa_cons (pv 0) pa_nil))))))), ?_⟩
    walk_at "go"
    cases id hd with
    | int i => walk_at "go"; exact k _ (Same.refl _)
    | non => walk_at "go"; exact k _ (Same.refl _)
    | bl b => walk_at "go"; exact k _ (Same.refl _)
    | str z => walk_at "go"; exact k _ (Same.refl _)
    | lst a n b => refine dq_isi false hd (by simp only [tyD]; decide +kernel) ?_; walk_at "go"; exact k _ (Same.refl _)
    | dct a n b c => refine dq_isi false hd (by simp only [tyD]; decide +kernel) ?_; walk_at "go"; exact k _ (Same.refl _)
    | @tup a ys ds hS hA =>
      obtain ⟨hl, hza⟩ := sz_tup hz
      have ll := hA.len
      walk_at "go"
      refine i_tup hS ?_
      refine c_tup (xs := ys) (fun i acc H1 => Same H H1 ∧ acc = ((ds.take i).map rangeD).map V.bl) (fun D hD => ⟨upd_free (Same.refl _) hD, rfl⟩) (fun i acc H1 hi p => st_ p.1 hS) (fun acc D H1 hD hp p => ?_) (fun _ => rfl) (fun i x acc H1 D hx hD hp p => ?_)
      · obtain ⟨p1, rfl⟩ := p
        walk_at "go"
        refine e_allB hp ?_
        walk_at "go"
        have e0 : (List.map rangeD (List.take ys.length ds)).all id = ds.all rangeD := by
          rw [ll, List.take_length, List.all_map]; rfl
        rw [e0]
        have e2 : rangesD (.tuple ds) = (ds.all rangeD && ascD ds) := rfl
        cases e1 : ds.all rangeD with
        | true =>
          walk_at "go"
          refine ⟨a, ys, N, ds, rfl, .inr (st_ p1 hS), hA.same p1, fun i hi => lt_ranges (all_getD e1 (by omega)) (all_getD e1 hi), hl, fun H2 s2 => ?_⟩
          have e3 : rangesD (.tuple ds) = ascD ds := by rw [e2, e1]; rfl
          rw [← e3]
          exact k _ (p1.trans s2)
        | false =>
          walk_at "go"
          have e3 : rangesD (.tuple ds) = false := by rw [e2, e1]; rfl
          rw [← e3]
          exact k _ p1
      · obtain ⟨p1, rfl⟩ := p
        obtain ⟨d, ed, hdx⟩ := hA.get hx
        have hi : i < ds.length := (List.getElem?_eq_some_iff.mp ed).1
        walk_at "go"
        refine ⟨x, N, d, rfl, hdx.same p1, szAll_mem hza (List.mem_of_getElem? ed), fun H2 s2 => ?_⟩
        have hp2 := at_ s2 hp
        refine ⟨_, hp2, lt_size (by simp; omega), _, upd_same, upd_free (p1.trans s2) hD, ?_⟩
        rw [List.take_add_one, ed, List.map_append, List.map_append]; rfl
def writeD : PyData → Bool
  | .tuple [a, b] => isKD a && markD b
  | _ => false
def firstD : PyData → PyData
  | .tuple (a :: _) => a
  | _ => .none
def sp_is_write (K : PySem.W.Frag) : Sp := fun vs H Q _ => ∃ x N d, vs = [x] ∧ Dq K N H x d ∧ szD d = true ∧ Q (.bl (writeD d)) H
theorem ok_is_write (T : Txt K mg) : FnOk P w K mg base CX0 5 T.is_write.f T.is_write.fd ["thing"] (sp_is_write K) := by
  refine T.is_write.F.ok sc_is_write (fun vs H Q E h => ?_) (fun cdv A outer s H vs Q E hr h => ?_)
  · obtain ⟨x, N, d, rfl, _⟩ := h
    rfl
  · obtain ⟨x, N, d, rfl, hd, hz, k⟩ := h
    refine ⟨_, (pss_one (ps_ret (pe_and (pe_callB (cIsi (K := K)) (by rfl) T.z_isinstance (by decide +kernel) (pa_cons (pv 0) (pa_cons (pe_bltn (v := .ty "tuple") (by rfl) T.z_tuple (by decide +kernel) rfl) pa_nil))) (pe_and (pe_cmpR (oEq (K := K) hr.units) (pe_callB (cLen (K := K)) (by rfl) T.z_len PySem.boot_len (pa_cons (pv 0) pa_nil)) pe_int (nomark _)) (pe_and (pe_call (ok_is_key T) (hr.mono (by decide)) (by rfl) T.is_key.g T.is_key.F.kp T.is_key.b .nil pass0 (pa_cons (pe_ix (ixLT (K := K)) (pv 0) pe_int (fun _ _ => rfl)) pa_nil)) (pe_one (pe_call (ok_is_mark T) (hr.mono (by decide)) (by rfl) T.is_mark.g T.is_mark.F.kp T.is_mark.b .nil pass0 (pa_cons (pe_ix (ixLT (K := K)) (pv 0) pe_int (fun _ _ => rfl)) pa_nil)))))))), ?_⟩
    walk_at "go"
    cases id hd with
    | int i => walk_at "go"; exact k
    | non => walk_at "go"; exact k
    | bl b => walk_at "go"; exact k
    | str z => walk_at "go"; exact k
    | lst a n b => refine dq_isi false hd (by simp only [tyD]; decide +kernel) ?_; walk_at "go"; exact k
    | dct a n b c => refine dq_isi false hd (by simp only [tyD]; decide +kernel) ?_; walk_at "go"; exact k
    | @tup a ys ds hS hA =>
      obtain ⟨hl, hza⟩ := sz_tup hz
      have ll := hA.len
      walk_at "go"
      refine i_d (fun q => ?_) (fun q => ?_)
      rotate_left 1
      · walk_at "go"
        have e : writeD (.tuple ds) = false := by
          unfold writeD
          split
          · next e => cases e; exact absurd (by rw [ll]; rfl) q
          · rfl
        rw [← e]
        exact k
      · have l2 : ds.length = 2 := by omega
        match ds, hA, l2, hza with
        | [da, db], hA, _, hza =>
          cases hA with
          | @cons xa _ _ _ ha hA =>
          cases hA with
          | @cons xb _ _ _ hb hA =>
          cases hA
          rw [szAll, szAll, szAll, Bool.and_eq_true, Bool.and_eq_true] at hza
          have def_ : writeD (.tuple [da, db]) = (isKD da && markD db) := rfl
          rw [def_] at k
          walk_at "go"
          refine ⟨xa, N, da, rfl, ha, sz_sm hza.1, ?_⟩
          cases e1 : isKD da with
          | false =>
            rw [e1] at k
            walk_at "go"
            exact k
          | true =>
            rw [e1, Bool.true_and] at k
            walk_at "go"
            exact ⟨xb, N, db, rfl, hb, k⟩
def writesD : PyData → Bool
  | .tuple ds => ds.all writeD && ascD (ds.map firstD)
  | _ => false
theorem write_inv {d : PyData} (h : writeD d = true) : ∃ a b, d = .tuple [a, b] ∧ isKD a = true ∧ markD b = true := by
  unfold writeD at h
  split at h
  · next a b =>
    rw [Bool.and_eq_true] at h
    exact ⟨a, b, rfl, h.1, h.2⟩
  · cases h
theorem write_first {d : PyData} (h : writeD d = true) : isKD (firstD d) = true := by
  obtain ⟨a, b, rfl, h1, _⟩ := write_inv h
  exact h1
theorem keys_strs : ∀ {ds : List PyData}, ds.all isKD = true → ∃ ks : List Str, ds = ks.map PyData.str
  | [], _ => ⟨[], rfl⟩
  | d :: ds, h => by
    rw [List.all_cons, Bool.and_eq_true] at h
    obtain ⟨z, rfl⟩ := key_str h.1
    obtain ⟨ks, e⟩ := keys_strs h.2
    exact ⟨z :: ks, by rw [e]; rfl⟩
theorem dq_strs {N : Addr → Prop} {H : Hp} : ∀ ks : List Str, DqAll K N H (ks.map V.str) (ks.map PyData.str)
  | [] => .nil
  | _ :: ks => .cons (.str _) (dq_strs ks)
theorem DqAll.snoc {N : Addr → Prop} {H : Hp} : ∀ {xs : List V} {ds : List PyData} {x : V} {d : PyData}, DqAll K N H xs ds → Dq K N H x d → DqAll K N H (xs ++ [x]) (ds ++ [d])
  | _, _, _, _, .nil, h => .cons h .nil
  | _, _, _, _, .cons a b, h => .cons a (DqAll.snoc b h)
def sp_are_writes (K : PySem.W.Frag) : Sp := fun vs H Q _ => ∃ x N d, vs = [x] ∧ Dq K N H x d ∧ szD d = true ∧ ∀ H', Same H H' → Q (.bl (writesD d)) H'
theorem ok_are_writes (T : Txt K mg) : FnOk P w K mg base CX0 6 T.are_writes.f T.are_writes.fd ["thing"] (sp_are_writes K) := by
  refine T.are_writes.F.ok sc_are_writes (fun vs H Q E h => ?_) (fun cdv A outer s H vs Q E hr h => ?_)
  · obtain ⟨x, N, d, rfl, _⟩ := h
    rfl
  · obtain ⟨x, N, d, rfl, hd, hz, k⟩ := h
    refine ⟨_, (pss_cons (ps_if (PW.pt (pw_or (pt_not (ptTruth (K := K) (pe_callB (cIsi (K := K)) (by rfl) T.z_isinstance (by decide +kernel) (pa_cons (pv 0) (pa_cons (pe_bltn (v := .ty "tuple") (by rfl) T.z_tuple (by decide +kernel) rfl) pa_nil))) (by intro _; rfl))) (pw_or1 (pt_not (ptTruth (K := K) (pe_callB (cAll (K := K) rfl) (by rfl) T.z_all (by decide +kernel) (pa_cons (pe_lc (own := [("item", 1)]) rfl sc_are_writes.nd (piT (K := K) (pv 0)) (blkOk_by (N := n_are_writes) (sc := defScope s_are_writes) (by decide +kernel)) (fun _ _ _ _ _ => (pg_name (i := 1) sc_are_writes.nd rfl (Or.inl rfl))) (fun _ _ _ _ _ => pts_nil) (fun _ _ _ _ _ => (pe_call (ok_is_write T) (hr.mono (by decide)) (by rfl) T.is_write.g T.is_write.F.kp T.is_write.b .nil pass0 (pa_cons (pv 1) pa_nil)))) pa_nil)) (by intro _; rfl)))))) (pss_one (ps_ret pe_bl)) pss_nil)
    (pss_one (ps_ret (pe_call (ok_is_ascending T) (hr.mono (by decide)) (by rfl) T.is_ascending.g T.is_ascending.F.kp T.is_ascending.b .nil pass0 (pa_cons (pe_lc (own := [("key", 2), ("_", 3)]) rfl sc_are_writes.nd (piT (K := K) (pv 0)) (blkOk_by (N := n_are_writes) (sc := defScope s_are_writes) (by decide +kernel)) (fun _ _ _ _ _ => (pgTup (K := K) (n := 2) (pg_tup (n := 2) rfl (pgs_cons (pg_name (i := 2) sc_are_writes.nd rfl (Or.inl rfl)) (pgs_cons (pg_name (i := 3) sc_are_writes.nd rfl (Or.inl rfl)) pgs_nil))))) (fun _ _ _ _ _ => pts_nil) (fun _ _ _ _ _ => (pv 2))) pa_nil))))), ?_⟩
    walk_at "go"
    cases id hd with
    | int i => walk_at "go"; exact k _ (Same.refl _)
    | non => walk_at "go"; exact k _ (Same.refl _)
    | bl b => walk_at "go"; exact k _ (Same.refl _)
    | str z => walk_at "go"; exact k _ (Same.refl _)
    | lst a n b => refine dq_isi false hd (by simp only [tyD]; decide +kernel) ?_; walk_at "go"; exact k _ (Same.refl _)
    | dct a n b c => refine dq_isi false hd (by simp only [tyD]; decide +kernel) ?_; walk_at "go"; exact k _ (Same.refl _)
    | @tup a ys ds hS hA =>
      obtain ⟨hl, hza⟩ := sz_tup hz
      have ll := hA.len
      walk_at "go"
      refine i_tup hS ?_
      refine c_tup (xs := ys) (fun i acc H1 => Same H H1 ∧ acc = ((ds.take i).map writeD).map V.bl) (fun D hD => ⟨upd_free (Same.refl _) hD, rfl⟩) (fun i acc H1 hi p => st_ p.1 hS) (fun acc D H1 hD hp p => ?_) (fun _ => rfl) (fun i x acc H1 D hx hD hp p => ?_)
      · obtain ⟨p1, rfl⟩ := p
        walk_at "go"
        refine e_allB hp ?_
        walk_at "go"
        have e0 : (List.map writeD (List.take ys.length ds)).all id = ds.all writeD := by
          rw [ll, List.take_length, List.all_map]; rfl
        rw [e0]
        have e2 : writesD (.tuple ds) = (ds.all writeD && ascD (ds.map firstD)) := rfl
        cases e1 : ds.all writeD with
        | false =>
          walk_at "go"
          have e3 : writesD (.tuple ds) = false := by rw [e2, e1]; rfl
          rw [← e3]
          exact k _ p1
        | true =>
          have e3 : writesD (.tuple ds) = ascD (ds.map firstD) := by rw [e2, e1]; rfl
          rw [e3] at k
          walk_at "go"
          refine i_tup (st_ p1 hS) ?_
          obtain ⟨ks, hks⟩ := keys_strs (ds := ds.map firstD) (List.all_eq_true.mpr fun e he => by
            obtain ⟨d, hd, z⟩ := List.mem_map.mp he
            rw [← z]; exact write_first (List.all_eq_true.mp e1 _ hd))
          have lk : ks.length = ds.length := by simpa using (congrArg List.length hks).symm
          refine c_it (walk_tup (xs := ys)) (fun i acc H2 => Same H1 H2 ∧ acc = (ks.take i).map V.str) (fun D hD => ⟨upd_free (Same.refl _) hD, rfl⟩) (fun i acc H2 hi p => st_ p.1 (st_ p1 hS)) (fun acc D2 H2 hD2 hp2 p => ?_) (fun i x acc H2 H3 D2 hi hD2 hp2 p y => ?_)
          · obtain ⟨p2, rfl⟩ := p
            rw [ll, ← lk, List.take_length] at hp2
            refine ⟨D2, ks.map V.str, N, ds.map firstD, rfl, .inl (slO hp2), hks ▸ dq_strs ks, fun i hi => ?_, by rw [List.length_map]; exact hl, fun H3 s3 => k _ (p1.trans (p2.trans s3))⟩
            have m : ∀ j, j < ds.length → isKD ((ds.map firstD).getD j .none) = true := fun j hj => by
              rw [List.getD_eq_getElem?_getD, List.getElem?_map, List.getElem?_eq_getElem hj]
              exact write_first (List.all_eq_true.mp e1 _ (List.getElem_mem hj))
            rw [List.length_map] at hi
            exact lt_keys (m _ (by omega)) (m _ hi)
          · obtain ⟨p2, rfl⟩ := p
            obtain ⟨rfl, hx⟩ := y
            obtain ⟨d, ed, hdx⟩ := hA.get hx
            have hi : i < ds.length := (List.getElem?_eq_some_iff.mp ed).1
            have hk : i < ks.length := by omega
            obtain ⟨da, db, rfl, _, _⟩ := write_inv (List.all_eq_true.mp e1 _ (List.mem_of_getElem? ed))
            have ek : da = .str ks[i] := by
              have : (ds.map firstD)[i]? = (ks.map PyData.str)[i]? := by rw [hks]
              rw [List.getElem?_map, List.getElem?_map, ed, List.getElem?_eq_getElem hk] at this
              exact Option.some.inj this
            obtain ⟨q, zs, rfl, hS2, hA3⟩ := dq_tupl (hdx.same (p1.trans p2))
            cases hA3 with
            | @cons xa _ _ _ ha hA3 =>
            cases hA3 with
            | @cons xb _ _ _ hb hA3 =>
            cases hA3
            subst ek
            cases ha
            refine g_pairS hS2 ⟨rfl, ?_⟩
            walk_at "go"
            refine ⟨_, hp2, lt_size (by simp; omega), _, upd_same, upd_free p2 hD2, ?_⟩
            rw [List.take_add_one, List.getElem?_eq_getElem hk, List.map_append]; rfl
      · obtain ⟨p1, rfl⟩ := p
        obtain ⟨d, ed, hdx⟩ := hA.get hx
        have hi : i < ds.length := (List.getElem?_eq_some_iff.mp ed).1
        walk_at "go"
        refine ⟨x, N, d, rfl, hdx.same p1, szAll_mem hza (List.mem_of_getElem? ed), ?_⟩
        refine ⟨_, hp, lt_size (by simp; omega), _, upd_same, upd_free p1 hD, ?_⟩
        rw [List.take_add_one, ed, List.map_append, List.map_append]; rfl
end



section
variable {P : Program} {w : World} {K : PySem.W.Frag} {mg : Str → Option Value} {base : Heap}
/-! ### data without lists and dicts stay -/
def NF : Addr → Prop := fun _ => False
mutual
def nlD : PyData → Bool
  | .list _ => false
  | .dict _ => false
  | .tuple ds => nlAll ds
  | _ => true
def nlAll : List PyData → Bool
  | [] => true
  | d :: ds => nlD d && nlAll ds
end
mutual
theorem Dq.nf {N : Addr → Prop} {H : Hp} : ∀ (d : PyData) (x : V), nlD d = true → Dq K N H x d → Dq K NF H x d
  | .none, _, _, h => by cases h; exact .non
  | .bool _, _, _, h => by cases h; exact .bl _
  | .int _, _, _, h => by cases h; exact .int _
  | .str _, _, _, h => by cases h; exact .str _
  | .tuple ds, _, n, h => by
    cases h with
    | tup hS hA => exact .tup hS (DqAll.nf ds _ (by simpa [nlD] using n) hA)
  | .list _, _, n, _ => by simp [nlD] at n
  | .dict _, _, n, _ => by simp [nlD] at n
theorem DqAll.nf {N : Addr → Prop} {H : Hp} : ∀ (ds : List PyData) (xs : List V), nlAll ds = true → DqAll K N H xs ds → DqAll K NF H xs ds
  | [], _, _, h => by cases h; exact .nil
  | d :: ds, _, n, h => by
    rw [nlAll, Bool.and_eq_true] at n
    cases h with
    | cons a b => exact .cons (Dq.nf d _ n.1 a) (DqAll.nf ds _ n.2 b)
end
theorem nf_mv {H H' : Hp} {d : PyData} {x : V} (k : ∀ a xs, SqT K H a xs → SqT K H' a xs) (h : Dq K NF H x d) : Dq K NF H' x d :=
  Dq.mv (fun _ _ f => f.elim) k (fun _ _ f => f.elim) d x h
/-! ### dealings -/
structure Dl where
  sn : Int
  nm : Option Int
  gs : List Str
  rs : List (Str × Str × List Str)
  ws : List (Str × Option Int)
abbrev markV : Option Int → V
  | none => .non
  | some i => .int i
abbrev markP : Option Int → PyData
  | none => .none
  | some i => .int i
def gsP (gs : List Str) : PyData := .tuple (gs.map .str)
def rgP (r : Str × Str × List Str) : PyData := .tuple [.str r.1, .str r.2.1, .tuple (r.2.2.map .str)]
def rsP (rs : List (Str × Str × List Str)) : PyData := .tuple (rs.map rgP)
def wrP (z : Str × Option Int) : PyData := .tuple [.str z.1, markP z.2]
def wsP (ws : List (Str × Option Int)) : PyData := .tuple (ws.map wrP)
theorem gs_of {d : PyData} (h : keysD d = true) : ∃ gs, d = gsP gs := by
  obtain ⟨es, rfl, h1, _⟩ := keys_inv h
  obtain ⟨ks, rfl⟩ := keys_strs h1
  exact ⟨ks, rfl⟩
theorem rg_of {d : PyData} (h : rangeD d = true) : ∃ r, d = rgP r := by
  obtain ⟨a, b, c, rfl, h1, h2, _, h3, _⟩ := range_inv h
  obtain ⟨es, rfl⟩ := gs_of h3
  obtain ⟨x, rfl⟩ := key_str h1
  obtain ⟨y, rfl⟩ := key_str h2
  exact ⟨(x, y, es), rfl⟩
theorem each_of {α : Type} {f : α → PyData} {p : PyData → Bool} (h : ∀ d, p d = true → ∃ r, d = f r) : ∀ {ds : List PyData}, ds.all p = true → ∃ rs : List α, ds = rs.map f
  | [], _ => ⟨[], rfl⟩
  | d :: ds, a => by
    rw [List.all_cons, Bool.and_eq_true] at a
    obtain ⟨r, rfl⟩ := h d a.1
    obtain ⟨rs, rfl⟩ := each_of h a.2
    exact ⟨r :: rs, rfl⟩
theorem rs_of {d : PyData} (h : rangesD d = true) : ∃ rs, d = rsP rs := by
  cases d with
  | tuple ds =>
    have : (ds.all rangeD && ascD ds) = true := h
    rw [Bool.and_eq_true] at this
    obtain ⟨rs, rfl⟩ := each_of (f := rgP) (fun d h => rg_of h) this.1
    exact ⟨rs, rfl⟩
  | _ => cases h
theorem wr_of {d : PyData} (h : writeD d = true) : ∃ z, d = wrP z := by
  obtain ⟨a, b, rfl, h1, h2⟩ := write_inv h
  obtain ⟨x, rfl⟩ := key_str h1
  cases b with
  | none => exact ⟨(x, none), rfl⟩
  | int i => exact ⟨(x, some i), rfl⟩
  | _ => cases h2
theorem ws_of {d : PyData} (h : writesD d = true) : ∃ ws, d = wsP ws := by
  cases d with
  | tuple ds =>
    have : (ds.all writeD && ascD (ds.map firstD)) = true := h
    rw [Bool.and_eq_true] at this
    obtain ⟨ws, rfl⟩ := each_of (f := wrP) (fun d h => wr_of h) this.1
    exact ⟨ws, rfl⟩
  | _ => cases h
theorem nl_map {α : Type} {f : α → PyData} (h : ∀ r, nlD (f r) = true) : ∀ rs : List α, nlAll (rs.map f) = true
  | [] => by simp [nlAll]
  | r :: rs => by rw [List.map_cons, nlAll, h r, nl_map h rs]; rfl
theorem nl_gs (gs : List Str) : nlD (gsP gs) = true := by
  unfold gsP
  rw [nlD]
  exact nl_map (fun r => by simp [nlD]) gs
theorem nl_rs (rs : List (Str × Str × List Str)) : nlD (rsP rs) = true := by
  unfold rsP
  rw [nlD]
  refine nl_map (fun r => ?_) rs
  unfold rgP
  have := nl_gs r.2.2
  unfold gsP at this
  simp only [nlD] at this
  simp [nlD, nlAll, this]
theorem nl_ws (ws : List (Str × Option Int)) : nlD (wsP ws) = true := by
  unfold wsP
  rw [nlD]
  refine nl_map (fun r => ?_) ws
  obtain ⟨x, m⟩ := r
  cases m <;> simp [wrP, nlD, nlAll]
def df (sn : Int) (nm : Option Int) (vg vr vw : V) : List (Str × V) := [("snapshot", .int sn), ("number", markV nm), ("gets", vg), ("ranges", vr), ("writes", vw)]
section
variable (sn : Int) (nm : Option Int) (vg vr vw : V)
theorem df_s : (df sn nm vg vr vw).lookup ("snapshot" : Str) = some (V.int sn) := rfl
theorem df_n : (df sn nm vg vr vw).lookup ("number" : Str) = some (markV nm) := rfl
theorem df_g : (df sn nm vg vr vw).lookup ("gets" : Str) = some vg := rfl
theorem df_r : (df sn nm vg vr vw).lookup ("ranges" : Str) = some vr := rfl
theorem df_w : (df sn nm vg vr vw).lookup ("writes" : Str) = some vw := rfl
theorem df_new : putF "writes" vw (putF "ranges" vr (putF "gets" vg (putF "number" (markV nm) (putF "snapshot" (.int sn) [])))) = df sn nm vg vr vw := rfl
end
structure DlAt (K : PySem.W.Frag) (C : Addr) (H : Hp) (p : Addr) (D : Dl) : Prop where
  ex : ∃ vg vr vw, InsAt C H p (df D.sn D.nm vg vr vw) ∧ Dq K NF H vg (gsP D.gs) ∧ Dq K NF H vr (rsP D.rs) ∧ Dq K NF H vw (wsP D.ws)
theorem DlAt.mv {C p : Addr} {H H' : Hp} {D : Dl} (h : DlAt K C H p D) (k1 : ∀ o, H p = some o → H' p = some o) (k2 : ∀ a xs, SqT K H a xs → SqT K H' a xs) : DlAt K C H' p D := by
  obtain ⟨vg, vr, vw, ⟨dx, e⟩, g, r, w⟩ := h
  exact ⟨vg, vr, vw, ⟨dx, k1 _ e⟩, nf_mv k2 g, nf_mv k2 r, nf_mv k2 w⟩
theorem DlAt.same {C p : Addr} {H H' : Hp} {D : Dl} (h : DlAt K C H p D) (s : Same H H') : DlAt K C H' p D := h.mv (fun _ e => s _ _ e) fun _ _ e => st_ s e
theorem all_map {α : Type} {f : α → PyData} {N : Addr → Prop} {H : Hp} : ∀ {rs : List α} {xs : List V}, DqAll K N H xs (rs.map f) → xs.length = rs.length ∧ ∀ (i : Nat) x r, xs[i]? = some x → rs[i]? = some r → Dq K N H x (f r)
  | [], _, h => by cases h; exact ⟨rfl, fun i x r e => by cases e⟩
  | r :: rs, _, h => by
    cases h with
    | cons a b =>
      obtain ⟨l, k⟩ := all_map b
      refine ⟨by rw [List.length_cons, l]; rfl, fun i x r e1 e2 => ?_⟩
      cases i with
      | zero => cases e1; cases e2; exact a
      | succ i => exact k i x r e1 e2
theorem all_strs {N : Addr → Prop} {H : Hp} : ∀ {ks : List Str} {xs : List V}, DqAll K N H xs (ks.map PyData.str) → xs = ks.map V.str
  | [], _, h => by cases h; rfl
  | k :: ks, _, h => by
    cases h with
    | cons a b => rw [all_strs b]; cases a; rfl
def wks (D : Dl) : List Str := D.ws.map (·.1)
def leS (a b : Str) : Bool := !decide (b.cps.toList < a.cps.toList)
def inK (k : Str) (ks : List Str) : Bool := inV (.str k) (ks.map V.str)
def hitB (k : Str) (r : Str × Str × List Str) : Bool := (leS r.1 k && leS k r.2.1) && !inK k r.2.2
def seenB (D : Dl) (k : Str) : Bool := inK k D.gs || D.rs.any (hitB k)
def writes1B (D : Dl) (ks : List Str) : Bool := ks.any fun k => inK k (wks D)
def seen1B (D : Dl) (ks : List Str) : Bool := ks.any (seenB D)
theorem flat_strs : ∀ ks : List Str, (ks.map V.str).all flatV = true
  | [] => rfl
  | _ :: ks => by rw [List.map_cons, List.all_cons, flat_strs ks]; rfl
theorem o_inK {H : Hp} {Q : VK} {p : Addr} {k : Str} {ks : List Str} (s : SqX K H p (ks.map V.str)) (q : Q (.bl (inK k ks)) H) : rIn K false (.str k) (.ref p) H Q := ⟨p, _, rfl, s, rfl, flat_strs ks, q⟩
theorem o_niK {H : Hp} {Q : VK} {p : Addr} {k : Str} {ks : List Str} (s : SqX K H p (ks.map V.str)) (q : Q (.bl (!inK k ks)) H) : rIn K true (.str k) (.ref p) H Q := ⟨p, _, rfl, s, rfl, flat_strs ks, q⟩
theorem e_anyB {H : Hp} {Q : VK} {p : Addr} {bs : List Bool} (s : H p = some (.lst (bs.map V.bl))) (q : Q (.bl (bs.any id)) H) : rAny K [.ref p] H Q := ⟨p, bs, rfl, slO s, q⟩
def sp_written (K : PySem.W.Frag) (C : Addr) : Sp := fun vs H Q _ => ∃ p D, vs = [.ref p] ∧ DlAt K C H p D ∧ D.ws.length ≤ 1000 ∧ ∀ r H', H r = none → Same H H' → H' r = some (.lst ((wks D).map V.str)) → Q (.ref r) H'
theorem ok_written_keys (T : Txt K mg) : FnOk P w K mg base CX0 1 T.written_keys.f T.written_keys.fd ["dealing"] ((sp_written K T.C_Dealing)) := by
  refine T.written_keys.F.ok sc_written_keys (fun vs H Q E h => ?_) (fun cdv A outer s H vs Q E hr h => ?_)
  · obtain ⟨p, D, rfl, _⟩ := h
    rfl
  · obtain ⟨p, D, rfl, hD, hl, k⟩ := h
    refine ⟨_, (pss_one (ps_ret (pe_lc (own := [("key", 1), ("_", 2)]) rfl sc_written_keys.nd (piT (K := K) (peFld (K := K) (pv 0) rfl)) (blkOk_by (N := n_written_keys) (sc := defScope s_written_keys) (by decide +kernel)) (fun _ _ _ _ _ => (pgTup (K := K) (n := 2) (pg_tup (n := 2) rfl (pgs_cons (pg_name (i := 1) sc_written_keys.nd rfl (Or.inl rfl)) (pgs_cons (pg_name (i := 2) sc_written_keys.nd rfl (Or.inl rfl)) pgs_nil))))) (fun _ _ _ _ _ => pts_nil) (fun _ _ _ _ _ => (pv 1))))), ?_⟩
    obtain ⟨vg, vr, vw, hI, hg, hr', hw⟩ := hD
    obtain ⟨a, xs, rfl, hS, hA⟩ := dq_tupl hw
    obtain ⟨lx, hx0⟩ := all_map hA
    walk_at "go"
    refine o_fld hI T.k_Dealing.cl T.n_Dealing_writes (df_w _ _ _ _ _) ?_
    refine i_tup hS ?_
    refine c_it (walk_tup (xs := xs)) (fun i acc H2 => Same H H2 ∧ acc = ((wks D).take i).map V.str) (fun D2 hD2 => ⟨upd_free (Same.refl _) hD2, rfl⟩) (fun i acc H2 hi p => st_ p.1 hS) (fun acc D2 H2 hD2 hp2 p => ?_) (fun i x acc H2 H3 D2 hi hD2 hp2 p y => ?_)
    · obtain ⟨p2, rfl⟩ := p
      have e : xs.length = (wks D).length := by rw [lx]; exact (List.length_map _).symm
      rw [e, List.take_length] at hp2
      exact k D2 H2 hD2 p2 hp2
    · obtain ⟨p2, rfl⟩ := p
      obtain ⟨rfl, hx⟩ := y
      have hi2 : i < D.ws.length := by omega
      have er := List.getElem?_eq_getElem hi2
      have hz := nf_mv (fun _ _ e => st_ p2 e) (hx0 i x _ hx er)
      have ek : (wks D)[i]? = some (D.ws[i]).1 := by unfold wks; rw [List.getElem?_map, er]; rfl
      generalize D.ws[i] = z at *
      obtain ⟨q, zs, rfl, hS2, hA3⟩ := dq_tupl hz
      cases hA3 with
      | @cons xa _ _ _ ha hA3 =>
      cases hA3 with
      | @cons xb _ _ _ hb hA3 =>
      cases hA3
      cases ha
      refine g_pairS hS2 ⟨rfl, ?_⟩
      walk_at "go"
      refine ⟨_, hp2, lt_size (by simp; omega), _, upd_same, upd_free p2 hD2, ?_⟩
      rw [List.take_add_one, ek, List.map_append]; rfl
def sp_hsk (K : PySem.W.Frag) (C : Addr) : Sp := fun vs H Q _ => ∃ p D k, vs = [.ref p, .str k] ∧ DlAt K C H p D ∧ Q (.bl (seenB D k)) H
theorem ok_has_seen_key (T : Txt K mg) : FnOk P w K mg base CX0 1 T.has_seen_key.f T.has_seen_key.fd ["dealing", "key"] ((sp_hsk K T.C_Dealing)) := by
  refine T.has_seen_key.F.ok sc_has_seen_key (fun vs H Q E h => ?_) (fun cdv A outer s H vs Q E hr h => ?_)
  · obtain ⟨p, D, k, rfl, _⟩ := h
    rfl
  · obtain ⟨p, D, key, rfl, hD, k⟩ := h
    refine ⟨_, (pss_cons (ps_if (pt_cmpR (oIn (K := K)) (pv 1) (peFld (K := K) (pv 0) rfl) (by rfl)) (pss_one (ps_ret pe_bl)) pss_nil)
    (pss_cons (ps_for PassesOwn.never rfl (piT (K := K) (peFld (K := K) (pv 0) rfl)) (pgTup (K := K) (n := 3) (pg_tup (n := 3) rfl (pgs_cons (pg_name (i := 2) sc_has_seen_key.nd rfl (Or.inl rfl)) (pgs_cons (pg_name (i := 3) sc_has_seen_key.nd rfl (Or.inl rfl)) (pgs_cons (pg_name (i := 4) sc_has_seen_key.nd rfl (Or.inl rfl)) pgs_nil)))))
      (pss_one (ps_if (PW.pt (pw_and (pt_chain op_le_str op_le_str (pv 2) (pv 1) (pv 3)) (pw_and1 (pt_cmpR (oNotIn (K := K)) (pv 1) (pv 4) (by rfl))))) (pss_one (ps_ret pe_bl)) pss_nil)))
    (pss_one (ps_ret pe_bl)))), ?_⟩
    obtain ⟨vg, vr, vw, hI, hg, hr', hw⟩ := hD
    obtain ⟨g, xg, rfl, hSg, hAg⟩ := dq_tupl hg
    have eg := all_strs hAg
    subst eg
    obtain ⟨a, xs, rfl, hS, hA⟩ := dq_tupl hr'
    obtain ⟨lx, hx0⟩ := all_map hA
    walk_at "go"
    refine o_fld hI T.k_Dealing.cl T.n_Dealing_gets (df_g _ _ _ _ _) ?_
    refine o_inK (.inr hSg) ?_
    have def_ : seenB D key = (inK key D.gs || D.rs.any (hitB key)) := rfl
    rw [def_] at k
    walk_at "go"
    cases e1 : inK key D.gs with
    | true =>
      rw [e1] at k
      walk_at "go"
      exact k
    | false =>
      rw [e1, Bool.false_or] at k
      walk_at "go"
      refine o_fld hI T.k_Dealing.cl T.n_Dealing_ranges (df_r _ _ _ _ _) ?_
      refine i_tup hS ?_
      refine l_it (walk_tup (xs := xs)) (fun i σ H' => H' = H ∧ (D.rs.take i).any (hitB key) = false ∧ ∃ y2 y3 y4 : Option V, σ = [some (.ref p), some (.str key), y2, y3, y4]) ⟨rfl, rfl, none, none, none, rfl⟩ (fun i σ H' hi p => p.1 ▸ hS) (fun σ H' p => ?_) (fun i v σ H' H'' hi p y => ?_)
      · obtain ⟨rfl, ha, y2, y3, y4, rfl⟩ := p
        rw [lx, List.take_length] at ha
        rw [ha] at k
        walk_at "go"
        exact k
      · obtain ⟨rfl, ha, y2, y3, y4, rfl⟩ := p
        obtain ⟨rfl, hv⟩ := y
        have hi2 : i < D.rs.length := by rw [← lx]; exact hi
        have er := List.getElem?_eq_getElem hi2
        have hz := hx0 i v _ hv er
        have nx : (D.rs.take (i + 1)).any (hitB key) = hitB key D.rs[i] := by rw [List.take_add_one, er, List.any_append, ha]; simp
        have mem : hitB key D.rs[i] = true → D.rs.any (hitB key) = true := fun e => List.any_eq_true.mpr ⟨_, List.getElem_mem hi2, e⟩
        generalize D.rs[i] = z at *
        obtain ⟨q, zs, rfl, hS2, hA3⟩ := dq_tupl hz
        cases hA3 with
        | @cons xa _ _ _ ha3 hA3 =>
        cases hA3 with
        | @cons xb _ _ _ hb hA3 =>
        cases hA3 with
        | @cons xc _ _ _ hc hA3 =>
        cases hA3
        cases ha3
        cases hb
        obtain ⟨c, xo, rfl, hSo, hAo⟩ := dq_tupl hc
        have eo := all_strs hAo
        subst eo
        have hdef : hitB key z = ((leS z.1 key && leS key z.2.1) && !inK key z.2.2) := rfl
        have go_on : hitB key z = false → ∃ H2, H2 = H'' ∧ (D.rs.take (i + 1)).any (hitB key) = false := fun e => ⟨_, rfl, by rw [nx, e]⟩
        refine g_tri hS2 ?_
        walk_at "go"
        refine ⟨z.1, key, rfl, rfl, leS z.1 key, rfl, ?_⟩
        cases e1 : leS z.1 key with
        | false =>
          rw [if_neg Bool.false_ne_true]
          refine ⟨false, rfl, ?_⟩
          rw [if_neg Bool.false_ne_true]
          walk_at "go"
          exact ⟨rfl, by rw [nx, hdef, e1]; rfl, _, _, _, rfl⟩
        | true =>
          rw [if_pos rfl]
          walk_at "go"
          refine ⟨key, z.2.1, rfl, rfl, leS key z.2.1, rfl, ?_⟩
          cases e2 : leS key z.2.1 with
          | false =>
            rw [if_neg Bool.false_ne_true]
            walk_at "go"
            exact ⟨rfl, by rw [nx, hdef, e1, e2]; rfl, _, _, _, rfl⟩
          | true =>
            rw [if_pos rfl]
            walk_at "go"
            refine o_niK (.inr hSo) ?_
            walk_at "go"
            cases e3 : inK key z.2.2 with
            | true =>
              walk_at "go"
              exact ⟨rfl, by rw [nx, hdef, e1, e2, e3]; rfl, _, _, _, rfl⟩
            | false =>
              walk_at "go"
              rw [mem (by rw [hdef, e1, e2, e3]; rfl)] at k
              exact k
end



section
variable {P : Program} {w : World} {K : PySem.W.Frag} {mg : Str → Option Value} {base : Heap}
/-! ### what is tied -/
def sp_wone (K : PySem.W.Frag) (C : Addr) : Sp := fun vs H Q _ => ∃ p D q ks, vs = [.ref p, .ref q] ∧ DlAt K C H p D ∧ D.ws.length ≤ 1000 ∧ H q = some (.lst (ks.map V.str)) ∧ ks.length ≤ 1000 ∧ ∀ H', Same H H' → Q (.bl (writes1B D ks)) H'
theorem ok_writes_one_of (T : Txt K mg) : FnOk P w K mg base CX0 2 T.writes_one_of.f T.writes_one_of.fd ["dealing", "keys"] ((sp_wone K T.C_Dealing)) := by
  refine T.writes_one_of.F.ok sc_writes_one_of (fun vs H Q E h => ?_) (fun cdv A outer s H vs Q E hr h => ?_)
  · obtain ⟨p, D, q, ks, rfl, _⟩ := h
    rfl
  · obtain ⟨p, D, q, ks, rfl, hD, hl, hq, lk, k⟩ := h
    refine ⟨_, (pss_cons (ps_set (i := 2) sc_writes_one_of.nd rfl (Or.inr rfl) (pe_call (ok_written_keys T) (hr.mono (by decide)) (by rfl) T.written_keys.g T.written_keys.F.kp T.written_keys.b .nil pass0 (pa_cons (pv 0) pa_nil)))
    (pss_one (ps_ret (pe_callB (cAny (K := K) rfl) (by rfl) T.z_any (by decide +kernel) (pa_cons (pe_lc (own := [("key", 3)]) rfl sc_writes_one_of.nd (piL (K := K) (pv 1)) (blkOk_by (N := n_writes_one_of) (sc := defScope s_writes_one_of) (by decide +kernel)) (fun _ _ _ _ _ => (pg_name (i := 3) sc_writes_one_of.nd rfl (Or.inl rfl))) (fun _ _ _ _ _ => pts_nil) (fun _ _ _ _ _ => (pe_cmpR (oIn (K := K)) (pv 3) (pv 2) (by rfl)))) pa_nil))))), ?_⟩
    walk_at "go"
    refine ⟨p, D, rfl, hD, hl, fun r H1 nr s1 hr1 => ?_⟩
    have hq1 := s1 _ _ hq
    walk_at "go"
    refine i_lst (slO hq1) ?_
    refine c_lst (xs := ks.map V.str) (fun i acc H2 => Same H1 H2 ∧ acc = ((ks.take i).map fun k => inK k (wks D)).map V.bl) (fun D2 hD2 => ⟨upd_free (Same.refl _) hD2, rfl⟩) (fun i acc H2 hi p => slO (at_ p.1 hq1)) (fun acc D2 H2 hD2 hp2 p => ?_) (fun _ => rfl) (fun i v acc H2 D2 hv hD2 hp2 p => ?_)
    · obtain ⟨p2, rfl⟩ := p
      rw [List.length_map, List.take_length] at hp2
      walk_at "go"
      refine e_anyB hp2 ?_
      have e : (ks.map fun k => inK k (wks D)).any id = writes1B D ks := by unfold writes1B; rw [List.any_map]; rfl
      rw [e]
      exact k _ (s1.trans p2)
    · obtain ⟨p2, rfl⟩ := p
      have hi' : i < ks.length := by
        have := (List.getElem?_eq_some_iff.mp hv).1
        simpa using this
      have ex : v = .str ks[i] := by
        rw [List.getElem?_map, List.getElem?_eq_getElem hi'] at hv
        exact (Option.some.inj hv).symm
      subst ex
      walk_at "go"
      refine o_inK (.inl (slO (p2 _ _ hr1))) ?_
      refine ⟨_, hp2, lt_size (by simp; omega), _, upd_same, upd_free p2 hD2, ?_⟩
      rw [List.take_add_one, List.getElem?_eq_getElem hi', List.map_append, List.map_append]; rfl
def sp_sone (K : PySem.W.Frag) (C : Addr) : Sp := fun vs H Q _ => ∃ p D q ks, vs = [.ref p, .ref q] ∧ DlAt K C H p D ∧ H q = some (.lst (ks.map V.str)) ∧ ks.length ≤ 1000 ∧ ∀ H', Same H H' → Q (.bl (seen1B D ks)) H'
theorem ok_has_seen_one_of (T : Txt K mg) : FnOk P w K mg base CX0 2 T.has_seen_one_of.f T.has_seen_one_of.fd ["dealing", "keys"] ((sp_sone K T.C_Dealing)) := by
  refine T.has_seen_one_of.F.ok sc_has_seen_one_of (fun vs H Q E h => ?_) (fun cdv A outer s H vs Q E hr h => ?_)
  · obtain ⟨p, D, q, ks, rfl, _⟩ := h
    rfl
  · obtain ⟨p, D, q, ks, rfl, hD, hq, lk, k⟩ := h
    refine ⟨_, (pss_one (ps_ret (pe_callB (cAny (K := K) rfl) (by rfl) T.z_any (by decide +kernel) (pa_cons (pe_lc (own := [("key", 2)]) rfl sc_has_seen_one_of.nd (piL (K := K) (pv 1)) (blkOk_by (N := n_has_seen_one_of) (sc := defScope s_has_seen_one_of) (by decide +kernel)) (fun _ _ _ _ _ => (pg_name (i := 2) sc_has_seen_one_of.nd rfl (Or.inl rfl))) (fun _ _ _ _ _ => pts_nil) (fun _ _ _ _ _ => (pe_call (ok_has_seen_key T) (hr.mono (by decide)) (by rfl) T.has_seen_key.g T.has_seen_key.F.kp T.has_seen_key.b .nil pass0 (pa_cons (pv 0) (pa_cons (pv 2) pa_nil))))) pa_nil)))), ?_⟩
    walk_at "go"
    refine i_lst (slO hq) ?_
    refine c_lst (xs := ks.map V.str) (fun i acc H2 => Same H H2 ∧ acc = ((ks.take i).map (seenB D)).map V.bl) (fun D2 hD2 => ⟨upd_free (Same.refl _) hD2, rfl⟩) (fun i acc H2 hi p => slO (at_ p.1 hq)) (fun acc D2 H2 hD2 hp2 p => ?_) (fun _ => rfl) (fun i v acc H2 D2 hv hD2 hp2 p => ?_)
    · obtain ⟨p2, rfl⟩ := p
      rw [List.length_map, List.take_length] at hp2
      walk_at "go"
      refine e_anyB hp2 ?_
      have e : (ks.map (seenB D)).any id = seen1B D ks := by unfold seen1B; rw [List.any_map]; rfl
      rw [e]
      exact k _ p2
    · obtain ⟨p2, rfl⟩ := p
      have hi' : i < ks.length := by
        have := (List.getElem?_eq_some_iff.mp hv).1
        simpa using this
      have ex : v = .str ks[i] := by
        rw [List.getElem?_map, List.getElem?_eq_getElem hi'] at hv
        exact (Option.some.inj hv).symm
      subst ex
      walk_at "go"
      refine ⟨p, D, ks[i], rfl, hD.same p2, ?_⟩
      refine ⟨_, hp2, lt_size (by simp; omega), _, upd_same, upd_free p2 hD2, ?_⟩
      rw [List.take_add_one, List.getElem?_eq_getElem hi', List.map_append, List.map_append]; rfl
def restB (D E : Dl) : Bool := match E.nm with
  | none => false
  | some m => !decide (m ≤ D.sn) && seen1B D (wks E)
def headB (D E : Dl) : Bool := match D.nm with
  | none => false
  | some n => ((match E.nm with | none => false | some m => decide (n < m)) && writes1B E (wks D)) || (decide (n ≤ E.sn) && seen1B E (wks D))
def tiedB (D E : Dl) : Bool := headB D E || restB D E
theorem wks_len {D : Dl} (h : D.ws.length ≤ 1000) : (wks D).length ≤ 1000 := by unfold wks; rw [List.length_map]; exact h
def sp_tied (K : PySem.W.Frag) (C : Addr) : Sp := fun vs H Q _ => ∃ p D q E, vs = [.ref p, .ref q] ∧ DlAt K C H p D ∧ DlAt K C H q E ∧ D.ws.length ≤ 1000 ∧ E.ws.length ≤ 1000 ∧ ∀ H', Same H H' → Q (.bl (tiedB D E)) H'
theorem ok_is_tied (T : Txt K mg) : FnOk P w K mg base CX0 3 T.is_tied.f T.is_tied.fd ["one", "other"] ((sp_tied K T.C_Dealing)) := by
  refine T.is_tied.F.ok sc_is_tied (fun vs H Q E h => ?_) (fun cdv A outer s H vs Q E hr h => ?_)
  · obtain ⟨p, D, q, E, rfl, _⟩ := h
    rfl
  · obtain ⟨p, D, q, F, rfl, hD, hF, lD, lF, k⟩ := h
    refine ⟨_, (Evl.pss_cut (ps_if (pt_cmpR oNotN (peFld (K := K) (pv 0) rfl) pe_non (nomark _)) (Evl.pss_cut (ps_set (i := 2) sc_is_tied.nd rfl (Or.inl rfl) (pe_and (pe_cmpR oNotN (peFld (K := K) (pv 1) rfl) pe_non (nomark _)) (pe_one (pe_cmpR oLt (peFld (K := K) (pv 0) rfl) (peFld (K := K) (pv 1) rfl) (nomark _)))))
    (Evl.pss_cut (ps_if (PW.pt (pw_and (ptTruth (K := K) (pv 2) (by intro _; rfl)) (pw_and1 (ptTruth (K := K) (pe_call (ok_writes_one_of T) (hr.mono (by decide)) (by rfl) T.writes_one_of.g T.writes_one_of.F.kp T.writes_one_of.b .nil pass0 (pa_cons (pv 1) (pa_cons (pe_call (ok_written_keys T) (hr.mono (by decide)) (by rfl) T.written_keys.g T.written_keys.F.kp T.written_keys.b .nil pass0 (pa_cons (pv 0) pa_nil)) pa_nil))) (by intro _; rfl))))) (pss_one (ps_ret pe_bl)) pss_nil)
    (pss_one (ps_if (PW.pt (pw_and (pt_cmpR op_le (peFld (K := K) (pv 0) rfl) (peFld (K := K) (pv 1) rfl) (nomark _)) (pw_and1 (ptTruth (K := K) (pe_call (ok_has_seen_one_of T) (hr.mono (by decide)) (by rfl) T.has_seen_one_of.g T.has_seen_one_of.F.kp T.has_seen_one_of.b .nil pass0 (pa_cons (pv 1) (pa_cons (pe_call (ok_written_keys T) (hr.mono (by decide)) (by rfl) T.written_keys.g T.written_keys.F.kp T.written_keys.b .nil pass0 (pa_cons (pv 0) pa_nil)) pa_nil))) (by intro _; rfl))))) (pss_one (ps_ret pe_bl)) pss_nil)))) pss_nil)
    (pss_cons (ps_if (PW.pt (pw_or (pt_cmpR oIsN (peFld (K := K) (pv 1) rfl) pe_non (nomark _)) (pw_or1 (pt_cmpR op_le (peFld (K := K) (pv 1) rfl) (peFld (K := K) (pv 0) rfl) (nomark _))))) (pss_one (ps_ret pe_bl)) pss_nil)
    (pss_one (ps_ret (pe_call (ok_has_seen_one_of T) (hr.mono (by decide)) (by rfl) T.has_seen_one_of.g T.has_seen_one_of.F.kp T.has_seen_one_of.b .nil pass0 (pa_cons (pv 0) (pa_cons (pe_call (ok_written_keys T) (hr.mono (by decide)) (by rfl) T.written_keys.g T.written_keys.F.kp T.written_keys.b .nil pass0 (pa_cons (pv 1) pa_nil)) pa_nil))))))), ?_⟩
    have kt : headB D F = true → ∀ H', Same H H' → Q (.bl true) H' := fun e H' s => by
      have := k H' s
      unfold tiedB at this
      rw [e] at this
      exact this
    have kr : headB D F = false → ∀ H', Same H H' → Q (.bl (restB D F)) H' := fun e H' s => by
      have := k H' s
      unfold tiedB at this
      rw [e] at this
      exact this
    clear k
    refine s_cut (fun σ2 H2 => headB D F = false ∧ Same H H2 ∧ ∃ y : Option V, σ2 = [some (.ref p), some (.ref q), y]) ?_ ?_
    · obtain ⟨vg, vr, vw, hI, _, _, _⟩ := id hD
      walk_at "go"
      refine o_fld hI T.k_Dealing.cl T.n_Dealing_number (df_n _ _ _ _ _) ?_
      cases en : D.nm with
      | none =>
        walk_at "go"
        exact ⟨by unfold headB; rw [en], Same.refl _, none, rfl⟩
      | some n =>
        have hdef : headB D F = (((match F.nm with | none => false | some m => decide (n < m)) && writes1B F (wks D)) || (decide (n ≤ F.sn) && seen1B F (wks D))) := by unfold headB; rw [en]
        clear kr
        obtain ⟨ug, ur, uw, hJ, _, _, _⟩ := id hF
        have hnI : (df D.sn D.nm vg vr vw).lookup ("number" : Str) = some (V.int n) := by rw [df_n, en]
        walk_at "go"
        refine s_cut (fun σ3 H3 => H3 = H ∧ σ3 = [some (.ref p), some (.ref q), some (.bl (match F.nm with | none => false | some m => decide (n < m)))]) ?_ ?_
        · walk_at "go"
          refine o_fld hJ T.k_Dealing.cl T.n_Dealing_number (df_n _ _ _ _ _) ?_
          cases em : F.nm with
          | none => walk_at "go"; exact ⟨rfl, rfl⟩
          | some m =>
            walk_at "go"
            refine o_fld hI T.k_Dealing.cl T.n_Dealing_number hnI ?_
            walk_at "go"
            refine o_fld hJ T.k_Dealing.cl T.n_Dealing_number (by rw [df_n, em]) ?_
            walk_at "go"
            exact ⟨rfl, rfl⟩
        · rintro σ3 H3 ⟨rfl, rfl⟩
          generalize (match F.nm with | none => false | some m => decide (n < m)) = el at hdef ⊢
          refine s_cut (fun σ4 H4 => (el && writes1B F (wks D)) = false ∧ Same H3 H4 ∧ σ4 = [some (.ref p), some (.ref q), some (.bl el)]) ?_ ?_
          · cases el with
            | false => walk_at "go"; exact ⟨rfl, Same.refl _, rfl⟩
            | true =>
              walk_at "go"
              refine ⟨p, D, rfl, hD, lD, fun r H4 nr s4 hr4 => ?_⟩
              walk_at "go"
              refine ⟨q, F, r, wks D, rfl, hF.same s4, lF, hr4, wks_len lD, fun H5 s5 => ?_⟩
              walk_at "go"
              cases ew : writes1B F (wks D) with
              | true =>
                walk_at "go"
                exact kt (by rw [hdef, ew]; rfl) _ (s4.trans s5)
              | false =>
                walk_at "go"
                exact ⟨rfl, s4.trans s5, rfl⟩
          · rintro σ4 H4 ⟨e0, s4, rfl⟩
            rw [e0, Bool.false_or] at hdef
            have hI4 : InsAt T.C_Dealing H4 p (df D.sn D.nm vg vr vw) := hI.elim fun dx e => ⟨dx, s4 _ _ e⟩
            have hJ4 : InsAt T.C_Dealing H4 q (df F.sn F.nm ug ur uw) := hJ.elim fun dx e => ⟨dx, s4 _ _ e⟩
            walk_at "go"
            refine o_fld hI4 T.k_Dealing.cl T.n_Dealing_number hnI ?_
            walk_at "go"
            refine o_fld hJ4 T.k_Dealing.cl T.n_Dealing_snapshot (df_s _ _ _ _ _) ?_
            walk_at "go"
            refine i_d (fun z => ?_) (fun z => ?_)
            · rw [decide_eq_true z, Bool.true_and] at hdef
              walk_at "go"
              refine ⟨p, D, rfl, hD.same s4, lD, fun r H5 nr s5 hr5 => ?_⟩
              walk_at "go"
              refine ⟨q, F, r, wks D, rfl, hF.same (s4.trans s5), hr5, wks_len lD, fun H6 s6 => ?_⟩
              walk_at "go"
              cases ew : seen1B F (wks D) with
              | true =>
                walk_at "go"
                exact kt (by rw [hdef, ew]) _ (s4.trans (s5.trans s6))
              | false =>
                walk_at "go"
                exact ⟨by rw [hdef, ew], s4.trans (s5.trans s6), _, rfl⟩
            · rw [decide_eq_false z, Bool.false_and] at hdef
              walk_at "go"
              exact ⟨hdef, s4, _, rfl⟩
    · rintro σ2 H2 ⟨e, s2, y, rfl⟩
      have kr := kr e
      have hD2 := hD.same s2
      have hF2 := hF.same s2
      obtain ⟨vg, vr, vw, hI, _, _, _⟩ := id hD2
      obtain ⟨ug, ur, uw, hJ, _, _, _⟩ := id hF2
      unfold restB at kr
      walk_at "go"
      refine o_fld hJ T.k_Dealing.cl T.n_Dealing_number (df_n _ _ _ _ _) ?_
      cases en : F.nm with
      | none =>
        rw [en] at kr
        walk_at "go"
        exact kr _ s2
      | some m =>
        rw [en] at kr
        dsimp only at kr
        walk_at "go"
        refine o_fld hJ T.k_Dealing.cl T.n_Dealing_number (by rw [df_n, en]) ?_
        walk_at "go"
        refine o_fld hI T.k_Dealing.cl T.n_Dealing_snapshot (df_s _ _ _ _ _) ?_
        walk_at "go"
        refine i_d (fun z => ?_) (fun z => ?_)
        · walk_at "go"
          rw [decide_eq_true z] at kr
          exact kr _ s2
        · walk_at "go"
          rw [decide_eq_false z] at kr
          refine ⟨q, F, rfl, hF2, lF, fun r H3 nr s3 hr3 => ?_⟩
          walk_at "go"
          exact ⟨p, D, r, wks F, rfl, hD2.same s3, hr3, wks_len lF, fun H4 s4 => kr _ (s2.trans (s3.trans s4))⟩
end



section
variable {P : Program} {w : World} {K : PySem.W.Frag} {mg : Str → Option Value} {base : Heap}
/-! ### a dealing made -/
def NumOk (sn : Int) (nm : Option Int) (ws : List (Str × Option Int)) : Prop := (ws = [] ∧ nm = none) ∨ (ws ≠ [] ∧ ∃ n, nm = some n ∧ sn < n)
theorem dq_mark {N : Addr → Prop} {H : Hp} (nm : Option Int) : Dq K N H (markV nm) (markP nm) := by
  cases nm with
  | none => exact .non
  | some i => exact .int i
def sp_canb (K : PySem.W.Frag) : Sp := fun vs H Q _ => ∃ sn nm ws vw, vs = [markV nm, .int sn, vw] ∧ Dq K NF H vw (wsP ws) ∧ NumOk sn nm ws ∧ Q (.bl true) H
theorem ok_can_be_number (T : Txt K mg) : FnOk P w K mg base CX0 2 T.can_be_number.f T.can_be_number.fd ["number", "snapshot", "writes"] ((sp_canb K)) := by
  refine T.can_be_number.F.ok sc_can_be_number (fun vs H Q E h => ?_) (fun cdv A outer s H vs Q E hr h => ?_)
  · obtain ⟨sn, nm, ws, vw, rfl, _⟩ := h
    rfl
  · obtain ⟨sn, nm, ws, vw, rfl, hw, ok, k⟩ := h
    refine ⟨_, (pss_cons (ps_set (i := 3) sc_can_be_number.nd rfl (Or.inl rfl) (pe_and (pe_call (ok_is_integer T) (hr.mono (by decide)) (by rfl) T.is_integer.g T.is_integer.F.kp T.is_integer.b .nil pass0 (pa_cons (pv 0) pa_nil)) (pe_one (pe_cmpR op_gt (pv 0) (pv 1) (nomark _)))))
    (pss_cons (ps_if (pt_not (ptTruth (K := K) (pe_callB (cIsi (K := K)) (by rfl) T.z_isinstance (by decide +kernel) (pa_cons (pv 2) (pa_cons (pe_bltn (v := .ty "tuple") (by rfl) T.z_tuple (by decide +kernel) rfl) pa_nil))) (by intro _; rfl))) (pss_one (ps_ret (pe_or (pv 3) (pe_one (pe_cmpR oIsN (pv 0) pe_non (nomark _)))))) pss_nil)
    (pss_cons (ps_if (pt_cmpR (oEq (K := K) hr.units) (pe_callB (cLen (K := K)) (by rfl) T.z_len PySem.boot_len (pa_cons (pv 2) pa_nil)) pe_int (nomark _)) (pss_one (ps_ret (pe_cmpR oIsN (pv 0) pe_non (nomark _)))) pss_nil)
    (pss_one (ps_ret (pv 3)))))), ?_⟩
    obtain ⟨a, xs, rfl, hS, hA⟩ := dq_tupl hw
    obtain ⟨lx, _⟩ := all_map hA
    walk_at "go"
    refine ⟨_, NF, _, rfl, dq_mark nm, ?_⟩
    rcases ok with ⟨rfl, rfl⟩ | ⟨hne, n, rfl, hlt⟩
    · have l0 : xs.length = 0 := lx
      walk_at "go"
      exact k
    · have pos : 0 < ws.length := List.length_pos_iff.mpr hne
      walk_at "go"
      rw [decide_eq_true (show sn < n from hlt)]
      exact k
def DataOk (gs : List Str) (rs : List (Str × Str × List Str)) (ws : List (Str × Option Int)) : Prop := keysD (gsP gs) = true ∧ rangesD (rsP rs) = true ∧ writesD (wsP ws) = true ∧ szD (gsP gs) = true ∧ szD (rsP rs) = true ∧ szD (wsP ws) = true
def sp_deal (K : PySem.W.Frag) (C : Addr) : Sp := fun vs H Q _ => ∃ p sn nm gs rs ws vg vr vw, vs = [.ref p, .int sn, markV nm, vg, vr, vw] ∧ InsAt C H p [] ∧ 0 ≤ sn ∧ NumOk sn nm ws ∧ Dq K NF H vg (gsP gs) ∧ Dq K NF H vr (rsP rs) ∧ Dq K NF H vw (wsP ws) ∧ DataOk gs rs ws ∧ ∀ H', Oth p H H' → DlAt K C H' p ⟨sn, nm, gs, rs, ws⟩ → Q .non H'
theorem ins_st {C p a : Addr} {fs : List (Str × V)} {H H' : Hp} {xs : List V} (h : InsAt C H p fs) (o : Oth p H H') (s : SqT K H a xs) : SqT K H' a xs := by
  obtain ⟨dx, e⟩ := h
  rcases s with (s | ⟨u, s⟩) | s
  · exact .inl (.inl (o _ _ (fun z => by rw [z, e] at s; cases s) s))
  · exact .inl (.inr ⟨u, o _ _ (fun z => by rw [z, e] at s; cases s) s⟩)
  · exact .inr s
theorem ok_Dealing_init (T : Txt K mg) : FnOk P w K mg base (L2.CX P w) 7 T.m_Dealing_init.f T.m_Dealing_init.fd ["self", "snapshot", "number", "gets", "ranges", "writes"] ((sp_deal K T.C_Dealing)) := by
  refine T.m_Dealing_init.F.okX sc_Dealing_init (fun vs H Q E h => ?_) (fun cdv A outer s H vs Q E hr h => ?_)
  · obtain ⟨p, sn, nm, gs, rs, ws, vg, vr, vw, rfl, _⟩ := h
    rfl
  · obtain ⟨p, sn, nm, gs, rs, ws, vg, vr, vw, rfl, hI, h0, hn, hg, hr', hw, ⟨d1, d2, d3, z1, z2, z3⟩, k⟩ := h
    refine ⟨_, (pss_cons (ps_if (pt_not (ptTruth (K := K) (pe_call (ok_is_number T) (hr.mono (by decide)) (by rfl) T.is_number.g T.is_number.F.kp T.is_number.b .nil pass0 (pa_cons (pv 1) pa_nil)) (by intro _; rfl))) (pss_one (ps_raise rfl (takes_of rfl rfl rfl rfl) (pmk_oex T.e_BadDealing.o T.e_BadDealing.i T.e_BadDealing.t (ok_BadDealing_init T.m_BadDealing_init) (hr.mono (by decide)) T.m_BadDealing_init.b .nil pass0 (by rfl) T.e_BadDealing.g (pa_cons pe_str pa_nil)))) pss_nil)
    (pss_cons (ps_if (pt_not (ptTruth (K := K) (pe_call (ok_can_be_number T) (hr.mono (by decide)) (by rfl) T.can_be_number.g T.can_be_number.F.kp T.can_be_number.b .nil pass0 (pa_cons (pv 2) (pa_cons (pv 1) (pa_cons (pv 5) pa_nil)))) (by intro _; rfl))) (pss_one (ps_raise rfl (takes_of rfl rfl rfl rfl) (pmk_oex T.e_BadDealing.o T.e_BadDealing.i T.e_BadDealing.t (ok_BadDealing_init T.m_BadDealing_init) (hr.mono (by decide)) T.m_BadDealing_init.b .nil pass0 (by rfl) T.e_BadDealing.g (pa_cons pe_str pa_nil)))) pss_nil)
    (pss_cons (ps_if (pt_not (ptTruth (K := K) (pe_call (ok_are_keys T) (hr.mono (by decide)) (by rfl) T.are_keys.g T.are_keys.F.kp T.are_keys.b .nil pass0 (pa_cons (pv 3) pa_nil)) (by intro _; rfl))) (pss_one (ps_raise rfl (takes_of rfl rfl rfl rfl) (pmk_oex T.e_BadDealing.o T.e_BadDealing.i T.e_BadDealing.t (ok_BadDealing_init T.m_BadDealing_init) (hr.mono (by decide)) T.m_BadDealing_init.b .nil pass0 (by rfl) T.e_BadDealing.g (pa_cons pe_str pa_nil)))) pss_nil)
    (pss_cons (ps_if (pt_not (ptTruth (K := K) (pe_call (ok_are_ranges T) (hr.mono (by decide)) (by rfl) T.are_ranges.g T.are_ranges.F.kp T.are_ranges.b .nil pass0 (pa_cons (pv 4) pa_nil)) (by intro _; rfl))) (pss_one (ps_raise rfl (takes_of rfl rfl rfl rfl) (pmk_oex T.e_BadDealing.o T.e_BadDealing.i T.e_BadDealing.t (ok_BadDealing_init T.m_BadDealing_init) (hr.mono (by decide)) T.m_BadDealing_init.b .nil pass0 (by rfl) T.e_BadDealing.g (pa_cons pe_str pa_nil)))) pss_nil)
    (pss_cons (ps_if (pt_not (ptTruth (K := K) (pe_call (ok_are_writes T) (hr.mono (by decide)) (by rfl) T.are_writes.g T.are_writes.F.kp T.are_writes.b .nil pass0 (pa_cons (pv 5) pa_nil)) (by intro _; rfl))) (pss_one (ps_raise rfl (takes_of rfl rfl rfl rfl) (pmk_oex T.e_BadDealing.o T.e_BadDealing.i T.e_BadDealing.t (ok_BadDealing_init T.m_BadDealing_init) (hr.mono (by decide)) T.m_BadDealing_init.b .nil pass0 (by rfl) T.e_BadDealing.g (pa_cons pe_str pa_nil)))) pss_nil)
    (pss_cons (psFld (K := K) (pv 0) (pv 1) rfl)
    (pss_cons (psFld (K := K) (pv 0) (pv 2) rfl)
    (pss_cons (psFld (K := K) (pv 0) (pv 3) rfl)
    (pss_cons (psFld (K := K) (pv 0) (pv 4) rfl)
    (pss_one (psFld (K := K) (pv 0) (pv 5) rfl))))))))))), ?_⟩
    walk_at "go"
    refine ⟨_, NF, .int sn, rfl, .int sn, ?_⟩
    rw [show isND (.int sn) = true from decide_eq_true h0]
    walk_at "go"
    refine ⟨sn, nm, ws, vw, rfl, hw, hn, ?_⟩
    walk_at "go"
    refine ⟨vg, NF, _, rfl, hg, z1, fun H1 s1 => ?_⟩
    rw [d1]
    walk_at "go"
    refine ⟨vr, NF, _, rfl, hr'.same s1, z2, fun H2 s2 => ?_⟩
    rw [d2]
    walk_at "go"
    refine ⟨vw, NF, _, rfl, hw.same (s1.trans s2), z3, fun H3 s3 => ?_⟩
    rw [d3]
    have S := s1.trans (s2.trans s3)
    obtain ⟨dx, e⟩ := hI
    have hob := S _ _ e
    walk_at "go"
    refine s_fld rfl hob T.k_Dealing.cl T.n_Dealing_snapshot (by show 0 < 1000; decide) ?_
    walk_at "go"
    refine s_fld rfl upd_same T.k_Dealing.cl T.n_Dealing_number (by show 1 < 1000; decide) ?_
    walk_at "go"
    refine s_fld rfl upd_same T.k_Dealing.cl T.n_Dealing_gets (by show 2 < 1000; decide) ?_
    walk_at "go"
    refine s_fld rfl upd_same T.k_Dealing.cl T.n_Dealing_ranges (by show 3 < 1000; decide) ?_
    walk_at "go"
    refine s_fld rfl upd_same T.k_Dealing.cl T.n_Dealing_writes (by show 4 < 1000; decide) ?_
    rw [df_new]
    have O3 : Oth p H3 (upd (upd (upd (upd (upd H3 p (.ins T.C_Dealing dx (putF "snapshot" (.int sn) []))) p (.ins T.C_Dealing dx (putF "number" (markV nm) (putF "snapshot" (.int sn) [])))) p (.ins T.C_Dealing dx (putF "gets" vg (putF "number" (markV nm) (putF "snapshot" (.int sn) []))))) p (.ins T.C_Dealing dx (putF "ranges" vr (putF "gets" vg (putF "number" (markV nm) (putF "snapshot" (.int sn) [])))))) p (.ins T.C_Dealing dx (df sn nm vg vr vw))) := fun b o n z => by
      rw [upd_ne n, upd_ne n, upd_ne n, upd_ne n, upd_ne n]; exact z
    have hI3 : InsAt T.C_Dealing H3 p [] := ⟨dx, hob⟩
    have kp : ∀ a xs, SqT K H a xs → SqT K _ a xs := fun a xs s => ins_st hI3 O3 (st_ S s)
    exact k _ (fun b o n z => O3 b o n (S b o z)) ⟨vg, vr, vw, ⟨dx, upd_same⟩, nf_mv kp hg, nf_mv kp hr', nf_mv kp hw⟩
/-! ### checks -/
structure Ck where
  last : Int
  many : Int
  u : Addr
  d : Addr
  n : Addr
  uw : List (Int × Int)
  dl : List (Int × Addr × Dl)
  nx : List (Int × Addr × List Int)
def cf (last many : Int) (u d n : Addr) : List (Str × V) := [("_last", .int last), ("_many", .int many), ("_under_way", .ref u), ("_dealings", .ref d), ("_nexts", .ref n)]
section
variable (l m m' l' : Int) (u d n n' d' : Addr)
theorem cf_l : (cf l m u d n).lookup ("_last" : Str) = some (V.int l) := rfl
theorem cf_m : (cf l m u d n).lookup ("_many" : Str) = some (V.int m) := rfl
theorem cf_u : (cf l m u d n).lookup ("_under_way" : Str) = some (V.ref u) := rfl
theorem cf_d : (cf l m u d n).lookup ("_dealings" : Str) = some (V.ref d) := rfl
theorem cf_n : (cf l m u d n).lookup ("_nexts" : Str) = some (V.ref n) := rfl
theorem cf_pm : putF "_many" (.int m') (cf l m u d n) = cf l m' u d n := rfl
theorem cf_pl : putF "_last" (.int l') (cf l m u d n) = cf l' m u d n := rfl
theorem cf_pd : putF "_dealings" (.ref d') (cf l m u d n) = cf l m u d' n := rfl
theorem cf_pn : putF "_nexts" (.ref n') (cf l m u d n) = cf l m u d n' := rfl
theorem cf_new : putF "_nexts" (.ref n) (putF "_dealings" (.ref d) (putF "_under_way" (.ref u) (putF "_many" (.int m) (putF "_last" (.int l) [])))) = cf l m u d n := rfl
theorem cf_no {f : Str} (h : ((["_last", "_many", "_under_way", "_dealings", "_nexts"] : List Str)).contains f = false) : (cf l m u d n).lookup f = none := by
  unfold cf
  simp only [List.contains_cons, List.contains_nil, Bool.or_false, Bool.or_eq_false_iff] at h
  simp only [List.lookup, h.1, h.2.1, h.2.2.1, h.2.2.2.1, h.2.2.2.2]
end
def kI (ps : List (Int × Int)) : List (Key × V) := ps.map fun p => ((Sum.inl p.1 : Key), V.int p.2)
def kR {α : Type} (ps : List (Int × Addr × α)) : List (Key × V) := ps.map fun p => ((Sum.inl p.1 : Key), V.ref p.2.1)
structure CkAt (K : PySem.W.Frag) (C Cd : Addr) (H : Hp) (p : Addr) (c : Ck) : Prop where
  ob : InsAt C H p (cf c.last c.many c.u c.d c.n)
  hu : H c.u = some (.dK (kI c.uw))
  hd : H c.d = some (.dK (kR c.dl))
  hn : H c.n = some (.dK (kR c.nx))
  ud : c.u ≠ c.d
  un : c.u ≠ c.n
  dn : c.d ≠ c.n
  dls : ∀ e ∈ c.dl, DlAt K Cd H e.2.1 e.2.2 ∧ e.2.2.ws.length ≤ 1000
  nxs : ∀ e ∈ c.nx, H e.2.1 = some (.lst (e.2.2.map V.int))
theorem CkAt.same {C Cd p : Addr} {H H' : Hp} {c : Ck} (h : CkAt K C Cd H p c) (s : Same H H') : CkAt K C Cd H' p c :=
  ⟨h.ob.elim fun dx e => ⟨dx, s _ _ e⟩, s _ _ h.hu, s _ _ h.hd, s _ _ h.hn, h.ud, h.un, h.dn, fun e m => ⟨(h.dls e m).1.same s, (h.dls e m).2⟩, fun e m => s _ _ (h.nxs e m)⟩
def sp_check_init (T : Txt K mg) : Sp := fun vs H Q E => ∃ p x N d, vs = [.ref p, x] ∧ InsAt T.C_Check H p [] ∧ Dq K N H x d ∧ (isND d = false → E (.ref T.e_NoNumber.C) none H) ∧ (∀ l, d = .int l → 0 ≤ l → ∀ H' c, c.last = l → c.many = 0 → c.uw = [] → c.dl = [] → c.nx = [] → CkAt K T.C_Check T.C_Dealing H' p c → Oth p H H' → H c.u = none → H c.d = none → H c.n = none → Q .non H')
theorem ok_Check_init (T : Txt K mg) : FnOk P w K mg base (L2.CX P w) 3 T.m_Check_init.f T.m_Check_init.fd ["self", "last"] ((sp_check_init T)) := by
  refine T.m_Check_init.F.okX sc_Check_init (fun vs H Q E h => ?_) (fun cdv A outer s H vs Q E hr h => ?_)
  · obtain ⟨p, x, N, d, rfl, _⟩ := h
    rfl
  · obtain ⟨p, x, N, d, rfl, ⟨dx, e⟩, hd, kE, k⟩ := h
    refine ⟨_, (pss_cons (ps_if (pt_not (ptTruth (K := K) (pe_call (ok_is_number T) (hr.mono (by decide)) (by rfl) T.is_number.g T.is_number.F.kp T.is_number.b .nil pass0 (pa_cons (pv 1) pa_nil)) (by intro _; rfl))) (pss_one (ps_raise rfl (takes_of rfl rfl rfl rfl) (pmk_oexN T.e_NoNumber.o T.e_NoNumber.i T.e_NoNumber.t (ok_StoreError_init T.m_StoreError_init T.z_ValueError T.vV) (hr.mono (by decide)) T.m_StoreError_init.b pass0 (by rfl) T.e_NoNumber.g))) pss_nil)
    (pss_cons (psFld (K := K) (pv 0) (pv 1) rfl)
    (pss_cons (psFld (K := K) (pv 0) pe_int rfl)
    (pss_cons (psFld (K := K) (pv 0) pe_dnewK rfl)
    (pss_cons (psFld (K := K) (pv 0) pe_dnewK rfl)
    (pss_one (psFld (K := K) (pv 0) pe_dnewK rfl))))))), ?_⟩
    walk_at "go"
    refine ⟨x, N, d, rfl, hd, ?_⟩
    cases e0 : isND d with
    | false =>
      walk_at "go"
      exact e_raise T.e_NoNumber.o (kE e0)
    | true =>
      obtain ⟨l, rfl⟩ : ∃ l, d = .int l := by
        cases d with
        | int l => exact ⟨l, rfl⟩
        | _ => cases e0
      have l0 : 0 ≤ l := of_decide_eq_true e0
      cases hd
      walk_at "go"
      refine s_fld rfl e T.k_Check.cl T.n_Check__last (by show 0 < 1000; decide) ?_
      walk_at "go"
      refine s_fld rfl upd_same T.k_Check.cl T.n_Check__many (by show 1 < 1000; decide) ?_
      have o1 : Oth p H (upd (upd H p (.ins T.C_Check dx (putF "_last" (.int l) []))) p (.ins T.C_Check dx (putF "_many" (.int 0) (putF "_last" (.int l) [])))) := fun b o n z => by rw [upd_ne n, upd_ne n]; exact z
      have p1 : (upd (upd H p (.ins T.C_Check dx (putF "_last" (.int l) []))) p (.ins T.C_Check dx (putF "_many" (.int 0) (putF "_last" (.int l) [])))) p = some (.ins T.C_Check dx (putF "_many" (.int 0) (putF "_last" (.int l) []))) := upd_same
      generalize upd (upd H p _) p _ = G at *
      have free : ∀ {G2 : Hp} {c : Addr}, Oth p H G2 → G2 p ≠ none → G2 c = none → H c = none := fun {G2 c} o1 np z => by
        cases e : H c with
        | none => rfl
        | some u =>
          by_cases q : c = p
          · rw [q] at z; exact absurd z np
          · rw [o1 c u q e] at z; cases z
      walk_at "go"
      refine e_dnew fun u G1 n1 s1 h1 => ?_
      have q1 := at_ s1 p1
      walk_at "go"
      refine s_fld rfl q1 T.k_Check.cl T.n_Check__under_way (by show 2 < 1000; decide) ?_
      have up : u ≠ p := (ne_of_none p1 n1).symm
      have nu := free o1 (by rw [p1]; exact fun z => nomatch z) n1
      have o2 : Oth p H (upd G1 p (.ins T.C_Check dx (putF "_under_way" (.ref u) (putF "_many" (.int 0) (putF "_last" (.int l) []))))) := fun b o n z => by rw [upd_ne n]; exact s1 _ _ (o1 b o n z)
      have h1' : (upd G1 p (.ins T.C_Check dx (putF "_under_way" (.ref u) (putF "_many" (.int 0) (putF "_last" (.int l) []))))) u = some (.dK []) := (upd_ne up).trans h1
      have p2 : (upd G1 p (.ins T.C_Check dx (putF "_under_way" (.ref u) (putF "_many" (.int 0) (putF "_last" (.int l) []))))) p = _ := upd_same
      generalize upd G1 p _ = G2 at *
      walk_at "go"
      refine e_dnew fun d G3 n3 s3 h3 => ?_
      walk_at "go"
      refine s_fld rfl (at_ s3 p2) T.k_Check.cl T.n_Check__dealings (by show 3 < 1000; decide) ?_
      have dp : d ≠ p := (ne_of_none p2 n3).symm
      have ud : u ≠ d := ne_of_none h1' n3
      have nd := free o2 (by rw [p2]; exact fun z => nomatch z) n3
      have o3 : Oth p H (upd G3 p (.ins T.C_Check dx (putF "_dealings" (.ref d) (putF "_under_way" (.ref u) (putF "_many" (.int 0) (putF "_last" (.int l) [])))))) := fun b o n z => by rw [upd_ne n]; exact s3 _ _ (o2 b o n z)
      have h3' : (upd G3 p (.ins T.C_Check dx (putF "_dealings" (.ref d) (putF "_under_way" (.ref u) (putF "_many" (.int 0) (putF "_last" (.int l) [])))))) d = some (.dK []) := (upd_ne dp).trans h3
      have h1'' : (upd G3 p (.ins T.C_Check dx (putF "_dealings" (.ref d) (putF "_under_way" (.ref u) (putF "_many" (.int 0) (putF "_last" (.int l) [])))))) u = some (.dK []) := (upd_ne up).trans (at_ s3 h1')
      have p3 : (upd G3 p (.ins T.C_Check dx (putF "_dealings" (.ref d) (putF "_under_way" (.ref u) (putF "_many" (.int 0) (putF "_last" (.int l) [])))))) p = _ := upd_same
      generalize upd G3 p _ = G4 at *
      walk_at "go"
      refine e_dnew fun n G5 n5 s5 h5 => ?_
      walk_at "go"
      refine s_fld rfl (at_ s5 p3) T.k_Check.cl T.n_Check__nexts (by show 4 < 1000; decide) ?_
      have np : n ≠ p := (ne_of_none p3 n5).symm
      have nn := free o3 (by rw [p3]; exact fun z => nomatch z) n5
      rw [cf_new]
      exact k l rfl l0 _ ⟨l, 0, u, d, n, [], [], []⟩ rfl rfl rfl rfl rfl ⟨⟨dx, upd_same⟩, (upd_ne up).trans (at_ s5 h1''), (upd_ne dp).trans (at_ s5 h3'), (upd_ne np).trans h5, ud, ne_of_none h1'' n5, ne_of_none h3' n5, fun e m => (nomatch m), fun e m => nomatch m⟩ (fun b o n z => by rw [upd_ne n]; exact s5 _ _ (o3 b o n z)) nu nd nn
end



section
variable {P : Program} {w : World} {K : PySem.W.Frag} {mg : Str → Option Value} {base : Heap}
/-! ### what stays while a check changes -/
def BtX (X : List Addr) (H H' : Hp) : Prop := ∀ b o, b ∉ X → H b = some o → H' b = some o
theorem BtX.of_same {X : List Addr} {H H' : Hp} (s : Same H H') : BtX X H H' := fun b o _ e => s b o e
theorem BtX.trans {X : List Addr} {H H1 H2 : Hp} (a : BtX X H H1) (b : BtX X H1 H2) : BtX X H H2 := fun c o n e => b c o n (a c o n e)
theorem BtX.upd {X : List Addr} {H : Hp} {x : Addr} {o : HO} (m : x ∈ X) : BtX X H (upd H x o) := fun b u n e => (upd_ne fun z => n (by rw [z]; exact m)).trans e
theorem BtX.mono {X Y : List Addr} {H H' : Hp} (a : BtX X H H') (s : ∀ x ∈ X, x ∈ Y) : BtX Y H H' := fun b o n e => a b o (fun m => n (s b m)) e
/-- what is new may change -/
theorem BtX.anew {X Y : List Addr} {H H1 H2 : Hp} (s : BtX Y H H1) (n : ∀ x ∈ X, x ∈ Y ∨ H x = none) (a : BtX X H1 H2) : BtX Y H H2 := fun b o m e => a b o (fun z => (n b z).elim m fun q => by rw [q] at e; cases e) (s b o m e)
def Ntp (H : Hp) (x : Addr) : Prop := (∃ d, H x = some (.dK d)) ∨ (∃ xs, H x = some (.lst xs)) ∨ ∃ C dx fs, H x = some (.ins C dx fs)
theorem btx_st {X : List Addr} {H H' : Hp} (k : BtX X H H') (nt : ∀ x ∈ X, Ntp H x) {a : Addr} {xs : List V} (s : SqT K H a xs) : SqT K H' a xs := by
  have out : ∀ {o}, H a = some o → (∀ d, o ≠ .dK d) → (∀ ys, o ≠ .lst ys) → (∀ C dx fs, o ≠ .ins C dx fs) → a ∉ X := fun {o} e h1 h2 h3 m => by
    rcases nt a m with ⟨d, q⟩ | ⟨ys, q⟩ | ⟨C, dx, fs, q⟩ <;> rw [e] at q <;> cases q
    · exact h1 _ rfl
    · exact h2 _ rfl
    · exact h3 _ _ _ rfl
  rcases s with (s | ⟨u, s⟩) | s
  · exact .inl (.inl (k _ _ (out s (fun _ z => by cases z) (fun _ z => by cases z) fun _ _ _ z => by cases z) s))
  · exact .inl (.inr ⟨u, k _ _ (out s (fun _ z => by cases z) (fun _ z => by cases z) fun _ _ _ z => by cases z) s⟩)
  · exact .inr s
abbrev ckF (p : Addr) (c : Ck) : List Addr := [p, c.u, c.d, c.n]
section
variable {C Cd p : Addr} {H H' : Hp} {c : Ck}
theorem CkAt.ntp (h : CkAt K C Cd H p c) : ∀ x ∈ ckF p c, Ntp H x := fun x m => by
  simp only [List.mem_cons, List.not_mem_nil, or_false] at m
  rcases m with z | z | z | z <;> subst z
  · obtain ⟨dx, e⟩ := h.ob; exact .inr (.inr ⟨_, _, _, e⟩)
  · exact .inl ⟨_, h.hu⟩
  · exact .inl ⟨_, h.hd⟩
  · exact .inl ⟨_, h.hn⟩
theorem CkAt.pu (h : CkAt K C Cd H p c) : p ≠ c.u ∧ p ≠ c.d ∧ p ≠ c.n := by
  obtain ⟨dx, e⟩ := h.ob
  refine ⟨fun z => ?_, fun z => ?_, fun z => ?_⟩ <;> rw [z] at e
  · rw [h.hu] at e; cases e
  · rw [h.hd] at e; cases e
  · rw [h.hn] at e; cases e
theorem CkAt.fr (h : CkAt K C Cd H p c) (k : BtX (ckF p c) H H') : (∀ e ∈ c.dl, DlAt K Cd H' e.2.1 e.2.2 ∧ e.2.2.ws.length ≤ 1000) ∧ ∀ e ∈ c.nx, H' e.2.1 = some (.lst (e.2.2.map V.int)) := by
  refine ⟨fun e m => ⟨(h.dls e m).1.mv (fun o q => k _ _ (fun z => ?_) q) fun a xs s => btx_st k h.ntp s, (h.dls e m).2⟩, fun e m => k _ _ (fun z => ?_) (h.nxs e m)⟩
  · obtain ⟨vg, vr, vw, ⟨dx, e1⟩, _⟩ := (h.dls e m).1.ex
    simp only [List.mem_cons, List.not_mem_nil, or_false] at z
    obtain ⟨dy, e2⟩ := h.ob
    rcases z with z | z | z | z <;> rw [z] at e1
    · rw [e2] at e1
      cases e1
    · rw [h.hu] at e1; cases e1
    · rw [h.hd] at e1; cases e1
    · rw [h.hn] at e1; cases e1
  · have e1 := h.nxs e m
    simp only [List.mem_cons, List.not_mem_nil, or_false] at z
    obtain ⟨dy, e2⟩ := h.ob
    rcases z with z | z | z | z <;> rw [z] at e1
    · rw [e2] at e1; cases e1
    · rw [h.hu] at e1; cases e1
    · rw [h.hd] at e1; cases e1
    · rw [h.hn] at e1; cases e1
end
/-! ### reading a check -/
def sp_last (C : Addr) : Sp := fun vs H Q _ => ∃ p l m u d n, vs = [.ref p] ∧ InsAt C H p (cf l m u d n) ∧ Q (.int l) H
theorem ok_Check_last (T : Txt K mg) : FnOk P w K mg base CX0 1 T.m_Check_last.f T.m_Check_last.fd ["self"] ((sp_last T.C_Check)) := by
  refine T.m_Check_last.F.ok sc_Check_last (fun vs H Q E h => ?_) (fun cdv A outer s H vs Q E hr h => ?_)
  · obtain ⟨p, l, m, u, d, n, rfl, _⟩ := h
    rfl
  · obtain ⟨p, l, m, u, d, n, rfl, h, k⟩ := h
    refine ⟨_, (pss_one (ps_ret (peFld (K := K) (pv 0) rfl))), ?_⟩
    walk_at "go"
    refine o_fld h T.k_Check.cl T.n_Check__last (cf_l _ _ _ _ _) ?_
    exact k
theorem kI_keys (ps : List (Int × Int)) : (kI ps).map (·.1) = (ps.map (·.1)).map Sum.inl := by
  unfold kI; rw [List.map_map, List.map_map]; rfl
theorem kR_keys {α : Type} (ps : List (Int × Addr × α)) : (kR ps).map (·.1) = (ps.map (·.1)).map Sum.inl := by
  unfold kR; rw [List.map_map, List.map_map]; rfl
def sp_open_e (C Cd : Addr) (K : PySem.W.Frag) : Sp := fun vs H Q _ => ∃ p c, vs = [.ref p] ∧ CkAt K C Cd H p c ∧ c.uw.length < 64 ∧ ∀ t H' (ys : List Int), Same H H' → ys.Perm (c.uw.map (·.1)) → ys.Pairwise (· ≤ ·) → H' t = some (.tup (ys.map V.int)) → Q (.ref t) H'
theorem ok_Check_open_entries (T : Txt K mg) : FnOk P w K mg base CX0 1 T.m_Check_open_entries.f T.m_Check_open_entries.fd ["self"] ((sp_open_e T.C_Check T.C_Dealing K)) := by
  refine T.m_Check_open_entries.F.ok sc_Check_open_entries (fun vs H Q E h => ?_) (fun cdv A outer s H vs Q E hr h => ?_)
  · obtain ⟨p, c, rfl, _⟩ := h
    rfl
  · obtain ⟨p, c, rfl, h, hl, k⟩ := h
    refine ⟨_, (pss_one (ps_ret (pe_callTy (cTupOf (K := K)) (by rfl) T.z_tuple (by decide +kernel) (pa_cons (pe_callB (call_sortedDI rfl) (by rfl) T.z_sorted (by decide +kernel) (pa_cons (peFld (K := K) (pv 0) rfl) pa_nil)) pa_nil)))), ?_⟩
    walk_at "go"
    refine o_fld h.ob T.k_Check.cl T.n_Check__under_way (cf_u _ _ _ _ _) ?_
    walk_at "go"
    refine ⟨c.u, kI c.uw, c.uw.map (·.1), rfl, .inl h.hu, kI_keys _, by rw [List.length_map]; exact hl, fun ys r pm so nr => ?_⟩
    have s1 : Same H (upd H r (.lst (ys.map V.int))) := Same.new nr
    have h1 : upd H r (.lst (ys.map V.int)) r = some (.lst (ys.map V.int)) := upd_same
    generalize upd H r (.lst (ys.map V.int)) = H1 at *
    walk_at "go"
    refine n_new0 fun t H2 n2 s2 h2 => ?_
    walk_at "go"
    exact k t H2 ys (s1.trans s2) pm so h2
def sp_remem (C Cd : Addr) (K : PySem.W.Frag) : Sp := fun vs H Q _ => ∃ p c, vs = [.ref p] ∧ CkAt K C Cd H p c ∧ c.dl.length < 64 ∧ ∀ t H' (ys : List Int), Same H H' → ys.Perm (c.dl.map (·.1)) → ys.Pairwise (· ≤ ·) → H' t = some (.tup (ys.map V.int)) → Q (.ref t) H'
theorem ok_Check_remembered (T : Txt K mg) : FnOk P w K mg base CX0 1 T.m_Check_remembered.f T.m_Check_remembered.fd ["self"] ((sp_remem T.C_Check T.C_Dealing K)) := by
  refine T.m_Check_remembered.F.ok sc_Check_remembered (fun vs H Q E h => ?_) (fun cdv A outer s H vs Q E hr h => ?_)
  · obtain ⟨p, c, rfl, _⟩ := h
    rfl
  · obtain ⟨p, c, rfl, h, hl, k⟩ := h
    refine ⟨_, (pss_one (ps_ret (pe_callTy (cTupOf (K := K)) (by rfl) T.z_tuple (by decide +kernel) (pa_cons (pe_callB (call_sortedDI rfl) (by rfl) T.z_sorted (by decide +kernel) (pa_cons (peFld (K := K) (pv 0) rfl) pa_nil)) pa_nil)))), ?_⟩
    walk_at "go"
    refine o_fld h.ob T.k_Check.cl T.n_Check__dealings (cf_d _ _ _ _ _) ?_
    walk_at "go"
    refine ⟨c.d, kR c.dl, c.dl.map (·.1), rfl, .inl h.hd, kR_keys _, by rw [List.length_map]; exact hl, fun ys r pm so nr => ?_⟩
    have s1 : Same H (upd H r (.lst (ys.map V.int))) := Same.new nr
    have h1 : upd H r (.lst (ys.map V.int)) r = some (.lst (ys.map V.int)) := upd_same
    generalize upd H r (.lst (ys.map V.int)) = H1 at *
    walk_at "go"
    refine n_new0 fun t H2 n2 s2 h2 => ?_
    walk_at "go"
    exact k t H2 ys (s1.trans s2) pm so h2
/-! ### opens -/
def minU (c : Ck) : Int := ((c.uw.map (·.2)).min?).getD 0
theorem min_is {ns : List Int} {m : Int} (h : m ∈ ns) (k : ∀ y ∈ ns, m ≤ y) : ns.min?.getD 0 = m := by
  rw [List.min?_eq_some_iff.mpr ⟨h, k⟩]; rfl
def standB (c : Ck) (s : Int) : Bool := decide (s = c.last) || (decide (0 < c.uw.length) && (decide (minU c ≤ s) && decide (s < c.last)))
theorem kI_vals (ps : List (Int × Int)) : (kI ps).map (·.2) = (ps.map (·.2)).map V.int := by
  unfold kI; rw [List.map_map, List.map_map]; rfl
theorem e_lv {te : TE} {σ : L2.St} {H : Hp} {Q : VK} (h : te σ H fun x H1 => rValuesL x H1 Q) : tListValues te σ H Q := h
def sp_stand (C Cd : Addr) (K : PySem.W.Frag) : Sp := fun vs H Q _ => ∃ p c s, vs = [.ref p, .int s] ∧ CkAt K C Cd H p c ∧ c.uw.length ≤ 100 ∧ ∀ H', Same H H' → Q (.bl (standB c s)) H'
theorem ok_Check__can_stand_at (T : Txt K mg) : FnOk P w K mg base CX0 1 T.m_Check__can_stand_at.f T.m_Check__can_stand_at.fd ["self", "snapshot"] ((sp_stand T.C_Check T.C_Dealing K)) := by
  refine T.m_Check__can_stand_at.F.ok sc_Check__can_stand_at (fun vs H Q E h => ?_) (fun cdv A outer s H vs Q E hr h => ?_)
  · obtain ⟨p, c, s, rfl, _⟩ := h
    rfl
  · obtain ⟨p, c, s, rfl, h, hl, k⟩ := h
    refine ⟨_, (pss_cons (ps_if (pt_cmpR (oEq (K := K) hr.units) (pv 1) (peFld (K := K) (pv 0) rfl) (nomark _)) (pss_one (ps_ret pe_bl)) pss_nil)
    (pss_one (ps_ret (pe_and (pe_cmpR op_gt (pe_callB cLenD (by rfl) T.z_len PySem.boot_len (pa_cons (peFld (K := K) (pv 0) rfl) pa_nil)) pe_int (nomark _)) (pe_one (pe_chain op_le oLt (pe_callB (cMinL (K := K) rfl) (by rfl) T.z_min (by decide +kernel) (pa_cons (pe_listValues rfl (peFld (K := K) (pv 0) rfl) (by rfl) T.z_list (by decide +kernel)) pa_nil)) (pv 1) (peFld (K := K) (pv 0) rfl))))))), ?_⟩
    walk_at "go"
    refine o_fld h.ob T.k_Check.cl T.n_Check__last (cf_l _ _ _ _ _) ?_
    unfold standB at k
    walk_at "go"
    refine i_d (fun z => ?_) (fun z => ?_)
    · walk_at "go"
      rw [decide_eq_true z] at k
      exact k _ (Same.refl _)
    · rw [decide_eq_false z] at k
      walk_at "go"
      refine o_fld h.ob T.k_Check.cl T.n_Check__under_way (cf_u _ _ _ _ _) ?_
      refine ⟨c.u, _, rfl, h.hu, ?_⟩
      have lk : (kI c.uw).length = c.uw.length := List.length_map _
      rw [lk]
      walk_at "go"
      refine i_d (fun z2 => ?_) (fun z2 => ?_)
      rotate_left 1
      · rw [decide_eq_false (show ¬ 0 < c.uw.length by omega)] at k
        walk_at "go"
        exact k _ (Same.refl _)
      · rw [decide_eq_true (show 0 < c.uw.length by omega)] at k
        walk_at "go"
        refine e_lv ?_
        walk_at "go"
        refine o_fld h.ob T.k_Check.cl T.n_Check__under_way (cf_u _ _ _ _ _) ?_
        refine ⟨c.u, _, rfl, h.hu, fun r nr => ?_⟩
        rw [kI_vals]
        have s1 : Same H (upd H r (.lst ((c.uw.map (·.2)).map V.int))) := Same.new nr
        have h1 : upd H r (.lst ((c.uw.map (·.2)).map V.int)) r = some (.lst ((c.uw.map (·.2)).map V.int)) := upd_same
        generalize upd H r (.lst ((c.uw.map (·.2)).map V.int)) = H1 at *
        walk_at "go"
        refine ⟨r, _, rfl, slO h1, by rw [List.length_map]; omega, fun m hm hmin => ?_⟩
        have em : minU c = m := min_is hm hmin
        rw [em] at k
        walk_at "go"
        refine i_d (fun z3 => ?_) (fun z3 => ?_)
        · rw [decide_eq_true z3] at k
          walk_at "go"
          refine o_fld (h.same s1).ob T.k_Check.cl T.n_Check__last (cf_l _ _ _ _ _) ?_
          walk_at "go"
          exact k _ s1
        · rw [decide_eq_false z3] at k
          walk_at "go"
          exact k _ s1
def opB (c : Ck) : PyData → Bool
  | .int s => standB c s
  | _ => false
def sp_opens (T : Txt K mg) : Sp := fun vs H Q E => ∃ p c x N d, vs = [.ref p, x] ∧ CkAt K T.C_Check T.C_Dealing H p c ∧ Dq K N H x d ∧ c.uw.length ≤ 100 ∧ (∀ s, (c.many, s) ∉ c.uw) ∧
  (opB c d = false → ∀ H', Same H H' → E (.ref T.e_NoSnapshot.C) none H') ∧ (∀ s, d = .int s → standB c s = true → ∀ H', BtX [p, c.u] H H' → CkAt K T.C_Check T.C_Dealing H' p { c with many := c.many + 1, uw := c.uw ++ [(c.many, s)] } → Q (.int c.many) H')
theorem r_addI {a b : Int} {H : Hp} {Q : VK} (q : Q (.int (a + b)) H) : rAdd (.int a) (.int b) H Q := ⟨a, b, rfl, rfl, q⟩
theorem putK_new {l : List (Key × V)} {k : Key} {v : V} (h : ∀ p ∈ l, p.1 ≠ k) : putK l k v = l ++ [(k, v)] := by
  unfold putK
  rw [if_neg]
  intro e
  obtain ⟨p, hp, q⟩ := List.any_eq_true.mp e
  exact h p hp (of_decide_eq_true q)
theorem ok_Check_opens (T : Txt K mg) : FnOk P w K mg base (L2.CX P w) 3 T.m_Check_opens.f T.m_Check_opens.fd ["self", "snapshot"] ((sp_opens T)) := by
  refine T.m_Check_opens.F.okX sc_Check_opens (fun vs H Q E h => ?_) (fun cdv A outer s H vs Q E hr h => ?_)
  · obtain ⟨p, c, x, N, d, rfl, _⟩ := h
    rfl
  · obtain ⟨p, c, x, N, d, rfl, h, hd, hl, hm, kE, k⟩ := h
    refine ⟨_, (pss_cons (ps_if (PW.pt (pw_or (pt_not (ptTruth (K := K) (pe_call (ok_is_integer T) (hr.mono (by decide)) (by rfl) T.is_integer.g T.is_integer.F.kp T.is_integer.b .nil pass0 (pa_cons (pv 1) pa_nil)) (by intro _; rfl))) (pw_or1 (pt_not (ptTruth (K := K) (pe_meth (pv 0) T.k_Check.cl T.m_Check__can_stand_at.i (ok_Check__can_stand_at T) (hr.mono (by decide)) T.m_Check__can_stand_at.b .nil pass0 (pa_cons (pv 1) pa_nil)) (by intro _; rfl)))))) (pss_one (ps_raise rfl (takes_of rfl rfl rfl rfl) (pmk_oexN T.e_NoSnapshot.o T.e_NoSnapshot.i T.e_NoSnapshot.t (ok_StoreError_init T.m_StoreError_init T.z_ValueError T.vV) (hr.mono (by decide)) T.m_StoreError_init.b pass0 (by rfl) T.e_NoSnapshot.g))) pss_nil)
    (pss_cons (ps_set (i := 2) sc_Check_opens.nd rfl (Or.inl rfl) (peFld (K := K) (pv 0) rfl))
    (pss_cons (ps_fldaug (pv 0) pe_int in_add)
    (pss_cons (ps_dput (hu_of hr) (peFld (K := K) (pv 0) rfl) (pv 2) (pv 1) rfl)
    (pss_one (ps_ret (pv 2))))))), ?_⟩
    walk_at "go"
    refine ⟨x, N, d, rfl, hd, ?_⟩
    walk_at "go"
    cases e0 : isID d with
    | false =>
      walk_at "go"
      refine e_raise T.e_NoSnapshot.o (kE ?_ _ (Same.refl _))
      cases d <;> first | rfl | cases e0
    | true =>
      obtain ⟨s, rfl⟩ : ∃ s, d = .int s := by
        cases d with
        | int s => exact ⟨s, rfl⟩
        | _ => cases e0
      cases hd
      walk_at "go"
      refine m_call0 h.ob (cf_no _ _ _ _ _ (by decide +kernel)) ?_
      walk_at "go"
      refine ⟨p, c, s, rfl, h, hl, fun H1 s1 => ?_⟩
      walk_at "go"
      have h1 := h.same s1
      cases e1 : standB c s with
      | false =>
        walk_at "go"
        exact e_raise T.e_NoSnapshot.o (kE e1 _ s1)
      | true =>
        walk_at "go"
        refine o_fld h1.ob T.k_Check.cl T.n_Check__many (cf_m _ _ _ _ _) ?_
        walk_at "go"
        obtain ⟨dx, eo⟩ := h1.ob
        refine e_var rfl ⟨p, _, dx, _, _, rfl, eo, T.k_Check.cl, T.n_Check__many, cf_m _ _ _ _ _, ?_⟩
        walk_at "go"
        refine r_addI ⟨dx, _, eo, by show 5 < 1000; decide, ?_⟩
        rw [cf_pm]
        have d1 := h1.pu
        have e2 : upd H1 p (.ins T.C_Check dx (cf c.last (c.many + 1) c.u c.d c.n)) p = some (.ins T.C_Check dx (cf c.last (c.many + 1) c.u c.d c.n)) := upd_same
        have u2 : upd H1 p (.ins T.C_Check dx (cf c.last (c.many + 1) c.u c.d c.n)) c.u = some (.dK (kI c.uw)) := (upd_ne d1.1.symm).trans h1.hu
        have b2 : BtX [p, c.u] H1 (upd H1 p (.ins T.C_Check dx (cf c.last (c.many + 1) c.u c.d c.n))) := BtX.upd (by simp)
        generalize upd H1 p (.ins T.C_Check dx (cf c.last (c.many + 1) c.u c.d c.n)) = H2 at *
        walk_at "go"
        refine o_fld ⟨dx, e2⟩ T.k_Check.cl T.n_Check__under_way (cf_u _ _ _ _ _) ?_
        have lk : (kI c.uw).length = c.uw.length := List.length_map _
        walk_at "go"
        refine ⟨c.u, _, rfl, DPut.k (k := Sum.inl c.many) u2 (lt_size (by omega)), ?_⟩
        have en : putK (kI c.uw) (Sum.inl c.many) (V.int s) = kI (c.uw ++ [(c.many, s)]) := by
          rw [putK_new]
          · unfold kI; rw [List.map_append]; rfl
          · intro q hq z
            obtain ⟨y, hy, rfl⟩ := List.mem_map.mp hq
            have z : (Sum.inl y.1 : Key) = Sum.inl c.many := z
            cases y with
            | mk a b => cases z; exact hm b hy
        have b3 : BtX [p, c.u] H1 (upd H2 c.u (.dK (putK (kI c.uw) (Sum.inl c.many) (V.int s)))) := b2.trans (BtX.upd (by simp))
        have bF : BtX (ckF p c) H1 (upd H2 c.u (.dK (putK (kI c.uw) (Sum.inl c.many) (V.int s)))) := b3.mono (by simp)
        obtain ⟨f1, f2⟩ := h1.fr bF
        have cD : c.d ∉ [p, c.u] := by
          simp only [List.mem_cons, List.not_mem_nil, or_false, not_or]
          exact ⟨d1.2.1.symm, h.ud.symm⟩
        have cN : c.n ∉ [p, c.u] := by
          simp only [List.mem_cons, List.not_mem_nil, or_false, not_or]
          exact ⟨d1.2.2.symm, h.un.symm⟩
        walk_at "go"
        refine k s rfl e1 _ (fun b o n e => b3 b o n (s1 b o e)) ⟨⟨dx, (upd_ne d1.1).trans e2⟩, by rw [← en]; exact upd_same, b3 _ _ cD h1.hd, b3 _ _ cN h1.hn, h.ud, h.un, h.dn, f1, f2⟩
end



section
variable {P : Program} {w : World} {K : PySem.W.Frag} {mg : Str → Option Value} {base : Heap}
theorem val_mem : ∀ {l : List (Key × V)} {p : Key × V}, (l.map (·.1)).Nodup → p ∈ l → valV l p.1 = some p.2
  | q :: l, p, n, h => by
    have n : (q.1 :: l.map (·.1)).Nodup := n
    rcases List.mem_cons.mp h with e | m
    · rw [e]; exact valV_pos rfl
    · rw [valV_neg (fun z => (List.nodup_cons.mp n).1 (z ▸ List.mem_map.mpr ⟨p, m, rfl⟩))]
      exact val_mem (List.nodup_cons.mp n).2 m
theorem e_dgetT {td ty : TE} {σ : L2.St} {H : Hp} {Q : VK} (h : td σ H fun x H1 => ty σ H1 fun y H2 => ∃ a v, x = .ref a ∧ DGet H2 a y (some v) ∧ Q v H2) : tDGet td ty σ H Q := h
theorem val_none {l : List (Key × V)} {k : Key} (h : k ∉ l.map (·.1)) : valV l k = none := by
  cases e : valV l k with
  | none => rfl
  | some v => exact absurd (valV_in e) h
theorem inl_nd {ks : List Int} (h : ks.Nodup) : (ks.map (Sum.inl (β := Str))).Nodup := List.pairwise_map.mpr (h.imp fun a b => a (Sum.inl.inj b))
theorem val_kR {α : Type} {l : List (Int × Addr × α)} (nd : (l.map (·.1)).Nodup) {e : Int × Addr × α} (h : e ∈ l) : valV (kR l) (Sum.inl e.1) = some (.ref e.2.1) := by
  have := val_mem (l := kR l) (p := ((Sum.inl e.1 : Key), V.ref e.2.1)) (by rw [kR_keys]; exact inl_nd nd) (List.mem_map.mpr ⟨e, h, rfl⟩)
  exact this
/-! ### who is under way -/
def openB (c : Ck) : PyData → Bool
  | .int e => decide (e ∈ c.uw.map (·.1))
  | _ => false
def sp_nuw (T : Txt K mg) : Sp := fun vs H Q E => ∃ p c x N d, vs = [.ref p, x] ∧ CkAt K T.C_Check T.C_Dealing H p c ∧ Dq K N H x d ∧ (openB c d = false → E (.ref T.e_NotOpen.C) none H) ∧ (openB c d = true → Q .non H)
theorem isSome_iff {l : List (Key × V)} {k : Key} : (valV l k).isSome = true ↔ k ∈ l.map (·.1) := by
  rw [← valV_any, List.any_eq_true]
  exact ⟨fun ⟨p, hp, e⟩ => List.mem_map.mpr ⟨p, hp, of_decide_eq_true e⟩, fun h => by
    obtain ⟨p, hp, e⟩ := List.mem_map.mp h
    exact ⟨p, hp, decide_eq_true e⟩⟩
theorem one_key {α : Type} : ∀ {l : List (Int × α)} {x y : Int × α}, (l.map (·.1)).Nodup → x ∈ l → y ∈ l → x.1 = y.1 → x = y
  | q :: l, x, y, n, hx, hy, e => by
    have n : (q.1 :: l.map (·.1)).Nodup := n
    obtain ⟨n1, n2⟩ := List.nodup_cons.mp n
    rcases List.mem_cons.mp hx with a | a <;> rcases List.mem_cons.mp hy with b | b
    · rw [a, b]
    · exact absurd (List.mem_map.mpr ⟨y, b, by rw [← e, a]⟩) n1
    · exact absurd (List.mem_map.mpr ⟨x, a, by rw [e, b]⟩) n1
    · exact one_key n2 a b e
theorem inl_mem {ks : List Int} {e : Int} : ((Sum.inl e : Key) ∈ ks.map Sum.inl) ↔ e ∈ ks := ⟨fun h => by
  obtain ⟨x, hx, q⟩ := List.mem_map.mp h
  cases q; exact hx, fun h => List.mem_map.mpr ⟨e, h, rfl⟩⟩
theorem ok_Check__need_under_way (T : Txt K mg) : FnOk P w K mg base (L2.CX P w) 3 T.m_Check__need_under_way.f T.m_Check__need_under_way.fd ["self", "entry"] ((sp_nuw T)) := by
  refine T.m_Check__need_under_way.F.okX sc_Check__need_under_way (fun vs H Q E h => ?_) (fun cdv A outer s H vs Q E hr h => ?_)
  · obtain ⟨p, c, x, N, d, rfl, _⟩ := h
    rfl
  · obtain ⟨p, c, x, N, d, rfl, h, hd, kE, k⟩ := h
    refine ⟨_, (pss_one (ps_if (PW.pt (pw_or (pt_not (ptTruth (K := K) (pe_call (ok_is_integer T) (hr.mono (by decide)) (by rfl) T.is_integer.g T.is_integer.F.kp T.is_integer.b .nil pass0 (pa_cons (pv 1) pa_nil)) (by intro _; rfl))) (pw_or1 (pt_cmp (pc_dnotin (hu_of hr) (pv 1) (peFld (K := K) (pv 0) rfl)))))) (pss_one (ps_raise rfl (takes_of rfl rfl rfl rfl) (pmk_oexN T.e_NotOpen.o T.e_NotOpen.i T.e_NotOpen.t (ok_StoreError_init T.m_StoreError_init T.z_ValueError T.vV) (hr.mono (by decide)) T.m_StoreError_init.b pass0 (by rfl) T.e_NotOpen.g))) pss_nil)), ?_⟩
    walk_at "go"
    refine ⟨x, N, d, rfl, hd, ?_⟩
    walk_at "go"
    cases e0 : isID d with
    | false =>
      walk_at "go"
      refine e_raise T.e_NotOpen.o (kE ?_)
      cases d <;> first | rfl | cases e0
    | true =>
      obtain ⟨e, rfl⟩ : ∃ e, d = .int e := by
        cases d with
        | int e => exact ⟨e, rfl⟩
        | _ => cases e0
      cases hd
      walk_at "go"
      refine o_fld h.ob T.k_Check.cl T.n_Check__under_way (cf_u _ _ _ _ _) ?_
      refine ⟨c.u, _, rfl, DGet.k (k := Sum.inl e) h.hu, ?_⟩
      have iff : (valV (kI c.uw) (Sum.inl e)).isSome = true ↔ e ∈ c.uw.map (·.1) := by rw [isSome_iff, kI_keys, inl_mem]
      by_cases m : e ∈ c.uw.map (·.1)
      · refine ⟨false, by rw [iff.mpr m]; rfl, ?_⟩
        rw [if_neg Bool.false_ne_true]
        walk_at "go"
        exact k (decide_eq_true m)
      · refine ⟨true, by rw [Bool.eq_false_iff.mpr (fun z => m (iff.mp z))]; rfl, ?_⟩
        rw [if_pos rfl]
        walk_at "go"
        exact e_raise T.e_NotOpen.o (kE (decide_eq_false m))
def behindB (D : Dl) (s : Int) : Bool := match D.nm with
  | none => false
  | some n => decide (s < n)
def sp_behind (K : PySem.W.Frag) (C : Addr) : Sp := fun vs H Q _ => ∃ p D s, vs = [.ref p, .int s] ∧ DlAt K C H p D ∧ Q (.bl (behindB D s)) H
theorem ok_is_behind (T : Txt K mg) : FnOk P w K mg base CX0 1 T.is_behind.f T.is_behind.fd ["dealing", "snapshot"] ((sp_behind K T.C_Dealing)) := by
  refine T.is_behind.F.ok sc_is_behind (fun vs H Q E h => ?_) (fun cdv A outer s H vs Q E hr h => ?_)
  · obtain ⟨p, D, s, rfl, _⟩ := h
    rfl
  · obtain ⟨p, D, s, rfl, hD, k⟩ := h
    refine ⟨_, (pss_one (ps_ret (pe_and (pe_cmpR oNotN (peFld (K := K) (pv 0) rfl) pe_non (nomark _)) (pe_one (pe_cmpR op_gt (peFld (K := K) (pv 0) rfl) (pv 1) (nomark _)))))), ?_⟩
    obtain ⟨vg, vr, vw, hI, _, _, _⟩ := id hD
    unfold behindB at k
    walk_at "go"
    refine o_fld hI T.k_Dealing.cl T.n_Dealing_number (df_n _ _ _ _ _) ?_
    cases en : D.nm with
    | none =>
      rw [en] at k
      walk_at "go"
      exact k
    | some n =>
      rw [en] at k
      walk_at "go"
      refine o_fld hI T.k_Dealing.cl T.n_Dealing_number (by rw [df_n, en]) ?_
      walk_at "go"
      exact k
def behE (c : Ck) (s : Int) (e : Int) : Bool := c.dl.any fun x => decide (x.1 = e) && behindB x.2.2 s
theorem behE_of {c : Ck} {s : Int} (nd : (c.dl.map (·.1)).Nodup) {x : Int × Addr × Dl} (h : x ∈ c.dl) : behE c s x.1 = behindB x.2.2 s := by
  unfold behE
  cases e : behindB x.2.2 s with
  | true => exact List.any_eq_true.mpr ⟨x, h, by rw [e, decide_eq_true rfl]; rfl⟩
  | false =>
    refine List.any_eq_false.mpr fun y hy q => ?_
    rw [Bool.and_eq_true] at q
    have e1 : y.1 = x.1 := of_decide_eq_true q.1
    have : y = x := one_key nd hy h e1
    rw [this, e] at q
    exact absurd q.2 Bool.false_ne_true
def sp_sources (C Cd : Addr) (K : PySem.W.Frag) : Sp := fun vs H Q _ => ∃ p c, vs = [.ref p] ∧ CkAt K C Cd H p c ∧ c.uw.length ≤ 100 ∧ c.dl.length < 64 ∧ (c.dl.map (·.1)).Nodup ∧
  ∀ r H' (ns : List Int), Same H H' → H r = none → H' r = some (.lst (ns.map V.int)) → ns.Nodup → (∀ e ∈ ns, e ∈ c.dl.map (·.1)) → (c.uw ≠ [] → ∀ e ∈ c.dl, (e.1 ∈ ns ↔ behindB e.2.2 (minU c) = true)) → Q (.ref r) H'
theorem ok_Check__sources (T : Txt K mg) : FnOk P w K mg base CX0 2 T.m_Check__sources.f T.m_Check__sources.fd ["self"] ((sp_sources T.C_Check T.C_Dealing K)) := by
  refine T.m_Check__sources.F.ok sc_Check__sources (fun vs H Q E h => ?_) (fun cdv A outer s H vs Q E hr h => ?_)
  · obtain ⟨p, c, rfl, _⟩ := h
    rfl
  · obtain ⟨p, c, rfl, h, hl, hl2, nd, k⟩ := h
    refine ⟨_, (pss_cons (ps_if (pt_not (ptTruth (K := K) (peFld (K := K) (pv 0) rfl) (by intro _; rfl))) (pss_one (ps_ret (pe_lst pa_nil))) pss_nil)
    (pss_cons (ps_set (i := 1) sc_Check__sources.nd rfl (Or.inr rfl) (pe_callB (cMinL (K := K) rfl) (by rfl) T.z_min (by decide +kernel) (pa_cons (pe_listValues rfl (peFld (K := K) (pv 0) rfl) (by rfl) T.z_list (by decide +kernel)) pa_nil)))
    (pss_one (ps_ret (pe_lc (own := [("entry", 2)]) rfl sc_Check__sources.nd (piL (K := K) (pe_callB (call_sortedDI rfl) (by rfl) T.z_sorted (by decide +kernel) (pa_cons (peFld (K := K) (pv 0) rfl) pa_nil))) (blkOk_by (N := n_Check__sources) (sc := defScope s_Check__sources) (by decide +kernel)) (fun _ _ _ _ _ => (pg_name (i := 2) sc_Check__sources.nd rfl (Or.inl rfl))) (fun _ _ _ _ _ => (pts_one (ptTruth (K := K) (pe_call (ok_is_behind T) (hr.mono (by decide)) (by rfl) T.is_behind.g T.is_behind.F.kp T.is_behind.b .nil pass0 (pa_cons (pe_dget (hu_of hr) (peFld (K := K) (pv 0) rfl) (pv 2) (fun _ _ => rfl)) (pa_cons (pv 1) pa_nil))) (by intro _; rfl)))) (fun _ _ _ _ _ => (pv 2))))))), ?_⟩
    walk_at "go"
    refine o_fld h.ob T.k_Check.cl T.n_Check__under_way (cf_u _ _ _ _ _) ?_
    refine ⟨!(kI c.uw).isEmpty, .inr (.inr ⟨_, h.hu, rfl⟩), ?_⟩
    cases eu : c.uw with
    | nil =>
      walk_at "go"
      refine n_new (le_size (by simp)) fun r H1 n1 s1 h1 => ?_
      walk_at "go"
      exact k r H1 [] s1 n1 h1 List.nodup_nil (fun e m => nomatch m) fun z => absurd eu z
    | cons x0 xr =>
      rw [← eu]
      have hne : c.uw ≠ [] := by rw [eu]; simp
      have e1 : (!(kI c.uw).isEmpty) = true := by rw [eu]; rfl
      rw [e1]
      walk_at "go"
      refine e_lv ?_
      walk_at "go"
      refine o_fld h.ob T.k_Check.cl T.n_Check__under_way (cf_u _ _ _ _ _) ?_
      refine ⟨c.u, _, rfl, h.hu, fun r nr => ?_⟩
      rw [kI_vals]
      have s1 : Same H (upd H r (.lst ((c.uw.map (·.2)).map V.int))) := Same.new nr
      have h1 : upd H r (.lst ((c.uw.map (·.2)).map V.int)) r = some (.lst ((c.uw.map (·.2)).map V.int)) := upd_same
      generalize upd H r (.lst ((c.uw.map (·.2)).map V.int)) = H1 at *
      walk_at "go"
      refine ⟨r, _, rfl, slO h1, by rw [List.length_map, eu]; simp, fun m hm hmin => ?_⟩
      have em : minU c = m := min_is hm hmin
      have k := k
      rw [em] at k
      walk_at "go"
      refine o_fld (h.same s1).ob T.k_Check.cl T.n_Check__dealings (cf_d _ _ _ _ _) ?_
      walk_at "go"
      refine ⟨c.d, kR c.dl, c.dl.map (·.1), rfl, .inl (s1 _ _ h.hd), kR_keys _, by rw [List.length_map]; exact hl2, fun ys r2 pm so nr2 => ?_⟩
      have s2 : Same H (upd H1 r2 (.lst (ys.map V.int))) := s1.trans (Same.new nr2)
      have h2 : upd H1 r2 (.lst (ys.map V.int)) r2 = some (.lst (ys.map V.int)) := upd_same
      generalize upd H1 r2 (.lst (ys.map V.int)) = H2 at *
      have h2c := h.same s2
      have ly : ys.length < 64 := by rw [pm.length_eq, List.length_map]; exact hl2
      refine i_lst (slO h2) ?_
      refine c_lst (xs := ys.map V.int) (fun i acc H3 => Same H2 H3 ∧ acc = ((ys.take i).filter (behE c m)).map V.int) (fun D hD => ⟨upd_free (Same.refl _) hD, rfl⟩) (fun i acc H3 hi p => slO (at_ p.1 h2)) (fun acc D H3 hD hp p => ?_) (fun _ => rfl) (fun i v acc H3 D hv hD hp p => ?_)
      · obtain ⟨p2, rfl⟩ := p
        rw [List.length_map, List.take_length] at hp
        refine k D H3 (ys.filter (behE c m)) (s2.trans p2) (free_ s2 hD) hp ((pm.nodup_iff.mpr nd).sublist List.filter_sublist) (fun e me => pm.mem_iff.mp (List.mem_filter.mp me).1) fun _ e he => ?_
        rw [List.mem_filter, behE_of nd he]
        exact ⟨fun z => z.2, fun z => ⟨pm.mem_iff.mpr (List.mem_map.mpr ⟨e, he, rfl⟩), z⟩⟩
      · obtain ⟨p2, rfl⟩ := p
        have hi' : i < ys.length := by
          have := (List.getElem?_eq_some_iff.mp hv).1
          simpa using this
        have ex : v = .int ys[i] := by
          rw [List.getElem?_map, List.getElem?_eq_getElem hi'] at hv
          exact (Option.some.inj hv).symm
        subst ex
        have more : (ys.take (i + 1)) = ys.take i ++ [ys[i]] := by rw [List.take_add_one, List.getElem?_eq_getElem hi']; rfl
        obtain ⟨e, he, ee⟩ := List.mem_map.mp (pm.mem_iff.mp (List.getElem_mem hi'))
        have al : (((ys.take i).filter (behE c m)).map V.int).length ≤ 64 := by
          rw [List.length_map]
          exact Nat.le_trans (List.length_filter_le _ _) (by rw [List.length_take]; omega)
        have h3c := h2c.same p2
        have bq := behE_of (s := m) nd he
        rw [ee] at bq
        have vq := val_kR nd he
        rw [ee] at vq
        generalize ys[i] = y at *
        walk_at "go"
        refine e_dgetT ?_
        walk_at "go"
        refine o_fld h3c.ob T.k_Check.cl T.n_Check__dealings (cf_d _ _ _ _ _) ?_
        walk_at "go"
        refine ⟨c.d, .ref e.2.1, rfl, vq ▸ DGet.k (k := Sum.inl y) h3c.hd, ?_⟩
        walk_at "go"
        refine ⟨e.2.1, e.2.2, m, rfl, (h3c.dls e he).1, ?_⟩
        cases e5 : behindB e.2.2 m with
        | true =>
          walk_at "go"
          refine ⟨_, hp, lt_size (by omega), _, upd_same, upd_free p2 hD, ?_⟩
          rw [more, List.filter_append, List.filter_cons_of_pos (by rw [bq, e5]), List.filter_nil, List.map_append]; rfl
        | false =>
          walk_at "go"
          refine ⟨_, hp, p2, ?_⟩
          rw [more, List.filter_append, List.filter_cons_of_neg (by rw [bq, e5]; exact Bool.false_ne_true), List.filter_nil, List.append_nil]
end



section
variable {P : Program} {w : World} {K : PySem.W.Frag} {mg : Str → Option Value} {base : Heap}
/-! ### what is reached -/
structure Wy (H H1 : Hp) (came todo : Addr) (ks ns : List Int) (em : Prop) (done : Nat) (td : List Int) (kvs : List (Key × V)) : Prop where
  s : Same H H1
  hc : H1 came = some (.dK kvs)
  ht : H1 todo = some (.lst (td.map V.int))
  sub : ∀ t ∈ td, t ∈ ks
  kk : ∃ js : List Int, kvs.map (·.1) = js.map Sum.inl ∧ js.Nodup ∧ ∀ j ∈ js, j ∈ ks
  cnt : done + td.length = kvs.length
  src : ∀ s ∈ ns, (valV kvs (Sum.inl s)).isSome = true
  ex : em → kvs = ns.map fun s => ((Sum.inl s : Key), V.non)
theorem keys_nd {kvs : List (Key × V)} {js : List Int} (e : kvs.map (·.1) = js.map Sum.inl) : kvs.length = js.length := by
  simpa using congrArg List.length e
theorem Wy.len {H H1 : Hp} {came todo : Addr} {ks ns : List Int} {em : Prop} {done : Nat} {td : List Int} {kvs : List (Key × V)} (h : Wy H H1 came todo ks ns em done td kvs) : kvs.length ≤ ks.length := by
  obtain ⟨js, e, nd, sub⟩ := h.kk
  rw [keys_nd e]
  exact nd.length_le_of_subset sub
def sp_ways (C Cd : Addr) (K : PySem.W.Frag) : Sp := fun vs H Q _ => ∃ (p : Addr) (c : Ck) (r : Addr) (ns : List Int), vs = [.ref p, .ref r] ∧ CkAt K C Cd H p c ∧ H r = some (.lst (ns.map V.int)) ∧ ns.Nodup ∧ (∀ e ∈ ns, e ∈ c.nx.map (·.1)) ∧ (c.nx.map (·.1)).Nodup ∧ c.nx.length ≤ 100 ∧ (∀ x ∈ c.nx, ∀ y ∈ x.2.2, y ∈ c.nx.map (·.1)) ∧
  ∀ (q : Addr) (H' : Hp) (kvs : List (Key × V)), Same H H' → H q = none → H' q = some (.dK kvs) → (∀ s ∈ ns, (valV kvs (Sum.inl s)).isSome = true) → ((∀ x ∈ c.nx, x.2.2 = []) → kvs = ns.map fun s => ((Sum.inl s : Key), V.non)) → Q (.ref q) H'
theorem ok_Check__ways_from (T : Txt K mg) : FnOk P w K mg base CX0 1 T.m_Check__ways_from.f T.m_Check__ways_from.fd ["self", "sources"] ((sp_ways T.C_Check T.C_Dealing K)) := by
  refine T.m_Check__ways_from.F.ok sc_Check__ways_from (fun vs H Q E h => ?_) (fun cdv A outer s H vs Q E hr h => ?_)
  · obtain ⟨p, c, r, ns, rfl, _⟩ := h
    rfl
  · obtain ⟨p, c, r, ns, rfl, h, hr0, nd, sub, ndx, hl, rows, k⟩ := h
    refine ⟨_, (pss_cons (ps_setDc (i := 2) (own := [("entry", 4)]) rfl sc_Check__ways_from.nd rfl rfl (swD_true rfl rfl rfl (by decide +kernel)) (piL (K := K) (pv 1)) (blkOk_by (N := n_Check__ways_from) (sc := defScope s_Check__ways_from) (by decide +kernel)) (fun _ _ _ _ _ => (pg_name (i := 4) sc_Check__ways_from.nd rfl (Or.inl rfl))) (fun _ _ _ _ _ => pts_nil) (fun _ _ _ _ _ => (pv 4)) (fun _ _ _ _ _ => pe_non))
    (pss_cons (ps_set (i := 3) sc_Check__ways_from.nd rfl (Or.inl rfl) (pe_callTy (cListOf (K := K)) (by rfl) T.z_list (by decide +kernel) (pa_cons (pv 1) pa_nil)))
    (pss_cons (ps_while PassesOwn.never (ptTruth (K := K) (pv 3) (by intro _; rfl)) (pss_cons (ps_set (i := 4) sc_Check__ways_from.nd rfl (Or.inl rfl) (pe_bm0 PySem.F.plainAttrs_list PySem.F.slot_list_pop PySem.F.type_list_pop mt_pop (pv 3)))
    (pss_one (ps_for PassesOwn.never rfl (piL (K := K) (pe_dget (hu_of hr) (peFld (K := K) (pv 0) rfl) (pv 4) (fun _ _ => rfl))) (pg_name (i := 5) sc_Check__ways_from.nd rfl (Or.inl rfl))
      (pss_one (ps_if (pt_cmp (pc_dnotin (hu_of hr) (pv 5) (pv 2))) (pss_cons (ps_dput (hu_of hr) (pv 2) (pv 5) (pv 4) rfl)
    (pss_one (ps_expr (peApp (K := K) (pe_bm PySem.F.plainAttrs_list PySem.F.slot_list_append PySem.F.type_list_append mt_append (pv 3) (pa_cons (pv 5) pa_nil)))))) pss_nil))))))
    (pss_one (ps_ret (pv 2)))))), ?_⟩
    obtain ⟨ks, eks⟩ : ∃ ks, ks = c.nx.map (·.1) := ⟨_, rfl⟩
    rw [← eks] at sub ndx rows
    have lks : ks.length ≤ 100 := by rw [eks, List.length_map]; exact hl
    have lns : ns.length ≤ ks.length := nd.length_le_of_subset sub
    walk_at "go"
    refine i_lst (slO hr0) ?_
    refine d_it (walk_list (xs := ns.map V.int)) (fun i acc H1 => Same H H1 ∧ acc = (ns.take i).map fun s => ((Sum.inl s : Key), V.non)) (fun D hD => ⟨upd_free (Same.refl _) hD, rfl⟩) (fun i acc H1 hi p => slO (at_ p.1 hr0)) (fun acc came H1 nc hc p => ?_) (fun i x acc H1 H2 D hi hD hp p y => ?_)
    rotate_left 1
    · obtain ⟨s1, rfl⟩ := p
      obtain ⟨rfl, hx⟩ := y
      have hi' : i < ns.length := by simpa using hi
      have ex : x = .int ns[i] := by
        rw [List.getElem?_map, List.getElem?_eq_getElem hi'] at hx
        exact (Option.some.inj hx).symm
      subst ex
      refine ⟨rfl, ?_⟩
      walk_at "go"
      refine ⟨_, Sum.inl ns[i], rfl, hp, lt_size (by rw [List.length_map, List.length_take]; omega), _, upd_same, upd_free s1 hD, ?_⟩
      have fresh : ∀ q ∈ (ns.take i).map (fun s => ((Sum.inl s : Key), V.non)), q.1 ≠ Sum.inl ns[i] := fun q hq z => by
        obtain ⟨y, hy, rfl⟩ := List.mem_map.mp hq
        have z : y = ns[i] := Sum.inl.inj z
        obtain ⟨j, hj, ej⟩ := List.getElem_of_mem hy
        rw [List.getElem_take] at ej
        have hj2 : j < i := by rw [List.length_take] at hj; omega
        exact List.pairwise_iff_getElem.mp nd j i (by omega) hi' hj2 (ej.trans z)
      rw [putK_new fresh, List.take_add_one, List.getElem?_eq_getElem hi', List.map_append]; rfl
    · obtain ⟨s1, rfl⟩ := p
      rw [List.length_map, List.take_length] at hc
      have hr1 : SqL K H1 r (ns.map V.int) := slO (s1 _ _ hr0)
      walk_at "go"
      refine n_new0 fun todo H2 n2 s2 h2 => ?_
      have hc2 := s2 _ _ hc
      have ct : came ≠ todo := ne_of_none hc n2
      have nt : H todo = none := free_ s1 n2
      have em0 : ns.map (fun s => ((Sum.inl s : Key), V.non)) = ns.map fun s => ((Sum.inl s : Key), V.non) := rfl
      have w0 : Wy H H2 came todo ks ns (∀ x ∈ c.nx, x.2.2 = []) 0 ns (ns.map fun s => ((Sum.inl s : Key), V.non)) := by
        refine ⟨s1.trans s2, hc2, h2, sub, ⟨ns, by rw [List.map_map]; rfl, nd, sub⟩, by rw [List.length_map]; omega, fun s hs => ?_, fun _ => rfl⟩
        rw [isSome_iff, List.map_map]
        exact List.mem_map.mpr ⟨s, hs, rfl⟩
      clear hc hc2 h2 n2
      walk_at "go"
      refine while_m (fun m σ3 H3 => ∃ (done : Nat) (td : List Int) (kvs : List (Key × V)) (y4 y5 : Option V), m = 100 - done ∧ σ3 = [some (.ref p), some (.ref r), some (.ref came), some (.ref todo), y4, y5] ∧ Wy H H3 came todo ks ns (∀ x ∈ c.nx, x.2.2 = []) done td kvs) 100 ⟨0, ns, _, none, none, rfl, rfl, w0⟩ ?_
      rintro m σ3 H3 ⟨done, td, kvs, y4, y5, rfl, rfl, W⟩
      have hlen := W.len
      have hcnt := W.cnt
      have hT := W.ht
      walk_at "go"
      cases etd : td with
      | nil =>
        rw [show (!(List.map V.int ([] : List Int)).isEmpty) = false from rfl, if_neg Bool.false_ne_true]
        walk_at "go"
        exact k came H3 kvs W.s nc W.hc W.src W.ex
      | cons x0 xr =>
        rw [← etd]
        have hne : 0 < td.length := by rw [etd]; simp
        rw [show (!(List.map V.int td).isEmpty) = true by rw [etd]; rfl, if_pos rfl]
        refine ⟨fun σ4 H4 => ∃ (td : List Int) (kvs : List (Key × V)) (y4 y5 : Option V), σ4 = [some (.ref p), some (.ref r), some (.ref came), some (.ref todo), y4, y5] ∧ Wy H H4 came todo ks ns (∀ x ∈ c.nx, x.2.2 = []) (done + 1) td kvs, ?_, ?_⟩
        · rintro σ4 H4 ⟨td', kvs', y4', y5', e4, W'⟩
          have := W'.len
          have := W'.cnt
          exact ⟨100 - (done + 1), by omega, done + 1, td', kvs', y4', y5', rfl, e4, W'⟩
        · have hlast : td.length - 1 < td.length := by omega
          have gl := List.getElem?_eq_getElem hlast
          have memE : td[td.length - 1] ∈ ks := W.sub _ (List.getElem_mem hlast)
          walk_at "go"
          refine ⟨todo, td.map V.int, .int td[td.length - 1], rfl, rfl, hT, by rw [List.length_map, List.getElem?_map, gl]; rfl, ?_⟩
          have W1 : Wy H (upd H3 todo (.lst (td.map V.int).dropLast)) came todo ks ns (∀ x ∈ c.nx, x.2.2 = []) (done + 1) td.dropLast kvs := by
            refine ⟨fun b o e => by rw [upd_ne (ne_of_none e nt)]; exact W.s b o e, (upd_ne ct).trans W.hc, by rw [upd_same, List.map_dropLast], fun t m => W.sub t (List.dropLast_subset _ m), W.kk, by rw [List.length_dropLast]; omega, W.src, W.ex⟩
          generalize upd H3 todo (.lst (td.map V.int).dropLast) = H4 at *
          rw [eks] at memE
          obtain ⟨e, he, ee⟩ := List.mem_map.mp memE
          have vq := val_kR (by rw [← eks]; exact ndx) he
          rw [ee] at vq
          generalize td[td.length - 1] = en at *
          walk_at "go"
          have hC4 := h.same W1.s
          refine e_dgetT ?_
          walk_at "go"
          refine o_fld hC4.ob T.k_Check.cl T.n_Check__nexts (cf_n _ _ _ _ _) ?_
          walk_at "go"
          refine ⟨c.n, .ref e.2.1, rfl, vq ▸ DGet.k (k := Sum.inl en) hC4.hn, ?_⟩
          have hrow := hC4.nxs e he
          refine i_lst (slO hrow) ?_
          refine l_lst (xs := e.2.2.map V.int) (fun i σ5 H5 => ∃ (td : List Int) (kvs : List (Key × V)) (y5 : Option V), σ5 = [some (.ref p), some (.ref r), some (.ref came), some (.ref todo), some (.int en), y5] ∧ Wy H H5 came todo ks ns (∀ x ∈ c.nx, x.2.2 = []) (done + 1) td kvs) ⟨_, _, y5, rfl, W1⟩ (fun i σ5 H5 hi z => ?_) (fun σ5 H5 z => ?_) (fun i v σ5 H5 hv z => ?_)
          · obtain ⟨_, _, _, _, W5⟩ := z
            exact slO ((h.same W5.s).nxs e he)
          · obtain ⟨td5, kvs5, y, rfl, W5⟩ := z
            exact ⟨td5, kvs5, _, y, rfl, W5⟩
          · obtain ⟨td5, kvs5, y, rfl, W5⟩ := z
            have hi' : i < e.2.2.length := by
              have := (List.getElem?_eq_some_iff.mp hv).1
              simpa using this
            have ex : v = .int e.2.2[i] := by
              rw [List.getElem?_map, List.getElem?_eq_getElem hi'] at hv
              exact (Option.some.inj hv).symm
            subst ex
            have mo := rows e he _ (List.getElem_mem hi')
            have notEm : ¬ ∀ x ∈ c.nx, x.2.2 = [] := fun z => by
              have := z e he
              rw [this] at hi'
              simp at hi'
            generalize e.2.2[i] = ot at *
            have l5 := W5.len
            have c5 := W5.cnt
            walk_at "go"
            refine ⟨came, _, rfl, DGet.k (k := Sum.inl ot) W5.hc, ?_⟩
            cases eo : (valV kvs5 (Sum.inl ot)).isSome with
            | true =>
              refine ⟨false, rfl, ?_⟩
              rw [if_neg Bool.false_ne_true]
              walk_at "go"
              exact ⟨td5, kvs5, _, rfl, W5⟩
            | false =>
              refine ⟨true, rfl, ?_⟩
              rw [if_pos rfl]
              have fresh : (Sum.inl ot : Key) ∉ kvs5.map (·.1) := fun z => by rw [isSome_iff.mpr z] at eo; cases eo
              walk_at "go"
              refine ⟨came, _, rfl, DPut.k (k := Sum.inl ot) W5.hc (lt_size (by omega)), ?_⟩
              have hT6 : upd H5 came (.dK (putK kvs5 (Sum.inl ot) (.int en))) todo = some (.lst (td5.map V.int)) := (upd_ne ct.symm).trans W5.ht
              have hC6 : upd H5 came (.dK (putK kvs5 (Sum.inl ot) (.int en))) came = some (.dK (putK kvs5 (Sum.inl ot) (.int en))) := upd_same
              have s6 : Same H (upd H5 came (.dK (putK kvs5 (Sum.inl ot) (.int en)))) := fun b o z => by rw [upd_ne (ne_of_none z nc)]; exact W5.s b o z
              generalize upd H5 came (.dK (putK kvs5 (Sum.inl ot) (.int en))) = H6 at *
              walk_at "go"
              refine r_app hT6 (by rw [List.length_map]; omega) fun H7 o7 h7 => ?_
              have en2 : putK kvs5 (Sum.inl ot) (V.int en) = kvs5 ++ [(Sum.inl ot, .int en)] := putK_new fun q hq z => fresh (z ▸ List.mem_map.mpr ⟨q, hq, rfl⟩)
              obtain ⟨js, ej, nj, sj⟩ := W5.kk
              refine ⟨td5 ++ [ot], kvs5 ++ [(Sum.inl ot, .int en)], _, rfl, ⟨fun b o z => o7 b o (ne_of_none z nt) (s6 b o z), (o7 _ _ ct hC6).trans (by rw [en2]), by rw [h7, List.map_append]; rfl, fun t m => ?_, ⟨js ++ [ot], by rw [List.map_append, ej, List.map_append]; rfl, ?_, fun j m => ?_⟩, by rw [List.length_append, List.length_append, List.length_singleton, List.length_singleton]; omega, fun s hs => ?_, fun z => absurd z notEm⟩⟩
              · rcases List.mem_append.mp m with q | q
                · exact W5.sub t q
                · rw [List.mem_singleton.mp q]; exact mo
              · refine List.nodup_append.mpr ⟨nj, List.nodup_cons.mpr ⟨List.not_mem_nil, List.nodup_nil⟩, fun a ha b hb z => fresh ?_⟩
                have hb : b = ot := List.mem_singleton.mp hb
                rw [ej, inl_mem, ← hb, ← z]; exact ha
              · rcases List.mem_append.mp m with q | q
                · exact sj j q
                · rw [List.mem_singleton.mp q]; exact mo
              · have := W5.src s hs
                rw [isSome_iff] at this ⊢
                rw [List.map_append]
                exact List.mem_append_left _ this
end



section
variable {P : Program} {w : World} {K : PySem.W.Frag} {mg : Str → Option Value} {base : Heap}
/-! ### what is forgotten -/
def ItsQ (R : It → Hp → Prop) (x : V) (H1 : Hp) : Prop := ∃ d o kvs, x = .ref d ∧ H1 d = some (.frz o (.dK kvs)) ∧ R (Iti d o kvs) H1
theorem i_items0 {td : TE} {σ : L2.St} {H : Hp} {R : It → Hp → Prop} (h : td σ H fun x H1 => ItsQ R x H1) : iItems td σ H R := h
structure Shape (c : Ck) : Prop where
  eq : c.nx.map (·.1) = c.dl.map (·.1)
  nd : (c.dl.map (·.1)).Nodup
  ln : c.dl.length < 64
  lu : c.uw.length ≤ 100
  rows : ∀ x ∈ c.nx, ∀ y ∈ x.2.2, y ∈ c.nx.map (·.1)
def sp_forget (C Cd : Addr) (K : PySem.W.Frag) : Sp := fun vs H Q _ => ∃ (p : Addr) (c : Ck), vs = [.ref p] ∧ CkAt K C Cd H p c ∧ Shape c ∧
  ∀ (S : Int → Bool) (H' : Hp) (d' n' : Addr), (c.uw ≠ [] → ∀ e ∈ c.dl, behindB e.2.2 (minU c) = true → S e.1 = true) → BtX [p] H H' → CkAt K C Cd H' p { c with d := d', n := n', dl := c.dl.filter (fun e => S e.1), nx := c.nx.filter (fun e => S e.1) } → Q .non H'
theorem ok_Check__forget (T : Txt K mg) : FnOk P w K mg base CX0 3 T.m_Check__forget.f T.m_Check__forget.fd ["self"] ((sp_forget T.C_Check T.C_Dealing K)) := by
  refine T.m_Check__forget.F.ok sc_Check__forget (fun vs H Q E h => ?_) (fun cdv A outer s H vs Q E hr h => ?_)
  · obtain ⟨p, c, rfl, _⟩ := h
    rfl
  · obtain ⟨p, c, rfl, h, sh, k⟩ := h
    refine ⟨_, (pss_cons (ps_set (i := 1) sc_Check__forget.nd rfl (Or.inr rfl) (pe_meth (pv 0) T.k_Check.cl T.m_Check__ways_from.i (ok_Check__ways_from T) (hr.mono (by decide)) T.m_Check__ways_from.b .nil pass0 (pa_cons (pe_meth0 (pv 0) T.k_Check.cl T.m_Check__sources.i (ok_Check__sources T) (hr.mono (by decide)) T.m_Check__sources.b .nil pass0) pa_nil)))
    (pss_cons (psFld (K := K) (pv 0) (pe_lock (pe_dc (own := [("entry", 2), ("dealing", 3)]) rfl sc_Check__forget.nd (pi_items (peFld (K := K) (pv 0) rfl)) (blkOk_by (N := n_Check__forget) (sc := defScope s_Check__forget) (by decide +kernel)) (fun _ _ _ _ _ => (pgTup (K := K) (n := 2) (pg_tup (n := 2) rfl (pgs_cons (pg_name (i := 2) sc_Check__forget.nd rfl (Or.inl rfl)) (pgs_cons (pg_name (i := 3) sc_Check__forget.nd rfl (Or.inl rfl)) pgs_nil))))) (fun _ _ _ _ _ => (pts_one (pt_cmp (pc_din (hu_of hr) (pv 2) (pv 1))))) (fun _ _ _ _ _ => (pv 2)) (fun _ _ _ _ _ => (pv 3)))) rfl)
    (pss_one (psFld (K := K) (pv 0) (pe_lock (pe_dc (own := [("entry", 2), ("row", 4)]) rfl sc_Check__forget.nd (pi_items (peFld (K := K) (pv 0) rfl)) (blkOk_by (N := n_Check__forget) (sc := defScope s_Check__forget) (by decide +kernel)) (fun _ _ _ _ _ => (pgTup (K := K) (n := 2) (pg_tup (n := 2) rfl (pgs_cons (pg_name (i := 2) sc_Check__forget.nd rfl (Or.inl rfl)) (pgs_cons (pg_name (i := 4) sc_Check__forget.nd rfl (Or.inl rfl)) pgs_nil))))) (fun _ _ _ _ _ => (pts_one (pt_cmp (pc_din (hu_of hr) (pv 2) (pv 1))))) (fun _ _ _ _ _ => (pv 2)) (fun _ _ _ _ _ => (pv 4)))) rfl)))), ?_⟩
    have ndnx : (c.nx.map (·.1)).Nodup := sh.eq ▸ sh.nd
    have nddl := sh.nd
    have ldl := sh.ln
    have lnx : c.nx.length < 64 := by
      have := congrArg List.length sh.eq
      rw [List.length_map, List.length_map] at this
      omega
    have lu := sh.lu
    walk_at "go"
    refine m_call0 h.ob (cf_no _ _ _ _ _ (by decide +kernel)) ?_
    walk_at "go"
    refine m_call0 h.ob (cf_no _ _ _ _ _ (by decide +kernel)) ?_
    refine ⟨p, c, rfl, h, lu, ldl, nddl, fun r H1 ns s1 nr hr1 nns sub src => ?_⟩
    walk_at "go"
    refine ⟨p, c, r, ns, rfl, h.same s1, hr1, nns, fun e m => sh.eq ▸ sub e m, ndnx, by omega, sh.rows, fun q H2 kvs s2 nq hq sq _ => ?_⟩
    obtain ⟨S, eS⟩ : ∃ S : Int → Bool, S = fun e => (valV kvs (Sum.inl e)).isSome := ⟨_, rfl⟩
    have hS : c.uw ≠ [] → ∀ e ∈ c.dl, behindB e.2.2 (minU c) = true → S e.1 = true := fun ne e he b => by
      rw [eS]
      exact sq e.1 ((src ne e he).mpr b)
    have eSv : ∀ e : Int, (valV kvs (Sum.inl e)).isSome = S e := fun e => by rw [eS]
    clear eS sq src
    have h2 := (h.same s1).same s2
    have s02 := s1.trans s2
    have nqH := free_ s1 nq
    have pu := h.pu
    have obA := h2.ob
    have qd : q ≠ c.d := fun z => by rw [z, (h.same s1).hd] at nq; cases nq
    have qn : q ≠ c.n := fun z => by rw [z, (h.same s1).hn] at nq; cases nq
    walk_at "go"
    refine ⟨c.d, .dK (kR c.dl), h2.hd, trivial, fun od => ?_⟩
    have frzA : upd H2 c.d (.frz od (.dK (kR c.dl))) c.d = some (.frz od (.dK (kR c.dl))) := upd_same
    have offA : ∀ x, x ≠ c.d → upd H2 c.d (.frz od (.dK (kR c.dl))) x = H2 x := fun x z => upd_ne z
    generalize upd H2 c.d (.frz od (.dK (kR c.dl))) = LA at *
    have hqLA : LA q = some (.dK kvs) := (offA _ qd).trans hq
    walk_at "go"
    refine i_items0 ?_
    walk_at "go"
    obtain ⟨dxA, eoA⟩ := obA
    refine o_fld ⟨dxA, (offA _ pu.2.1).trans eoA⟩ T.k_Check.cl T.n_Check__dealings (cf_d _ _ _ _ _) ?_
    refine ⟨c.d, od, _, rfl, frzA, ?_⟩
    refine d_it (walk_items (kvs := kR c.dl)) (fun i acc G => Same LA G ∧ acc = kR ((c.dl.take i).filter (fun e => S e.1))) (fun D hD => ⟨upd_free (Same.refl _) hD, rfl⟩) (fun i acc G hi z => z.1 _ _ frzA) (fun acc NA GA hNA hGA z => ?_) (fun i x acc G G2 D hi hD hG z y => ?_)
    rotate_left 1
    · obtain ⟨s3, rfl⟩ := z
      obtain ⟨t, x, y, rfl, nt, rfl, ex, ey⟩ := y
      have hi' : i < c.dl.length := by simpa [kR] using hi
      have eg : (kR c.dl)[i]? = some ((Sum.inl c.dl[i].1 : Key), V.ref c.dl[i].2.1) := by
        unfold kR
        rw [List.getElem?_map, List.getElem?_eq_getElem hi']; rfl
      simp only [eg, Option.map_some] at ex ey
      obtain rfl := Option.some.inj ex
      obtain rfl := Option.some.inj ey
      have more : (c.dl.take (i + 1)) = c.dl.take i ++ [c.dl[i]] := by rw [List.take_add_one, List.getElem?_eq_getElem hi']; rfl
      have fresh : ∀ q ∈ kR ((c.dl.take i).filter (fun e => S e.1)), q.1 ≠ Sum.inl c.dl[i].1 := fun q hq z => by
        obtain ⟨y, hy, rfl⟩ := List.mem_map.mp hq
        have z : y.1 = c.dl[i].1 := Sum.inl.inj z
        obtain ⟨j, hj, ej⟩ := List.getElem_of_mem (List.mem_filter.mp hy).1
        rw [List.getElem_take] at ej
        have hj2 : j < i := by rw [List.length_take] at hj; omega
        exact List.pairwise_iff_getElem.mp nddl j i (by rw [List.length_map]; omega) (by rw [List.length_map]; exact hi') hj2 (by rw [List.getElem_map, List.getElem_map, ej, z])
      have al : (kR ((c.dl.take i).filter (fun e => S e.1))).length ≤ 100 := by
        unfold kR
        rw [List.length_map]
        exact Nat.le_trans (List.length_filter_le _ _) (by rw [List.length_take]; omega)
      generalize c.dl[i] = e at *
      have st : Same G (upd G t (.tup [kV (Sum.inl e.1), V.ref e.2.1])) := Same.new nt
      have ht : upd G t (.tup [kV (Sum.inl e.1), V.ref e.2.1]) t = some (.tup [.int e.1, V.ref e.2.1]) := upd_same
      generalize upd G t (.tup [kV (Sum.inl e.1), V.ref e.2.1]) = G2 at *
      refine g_pair ht ⟨rfl, ?_⟩
      walk_at "go"
      refine ⟨q, _, rfl, DGet.k (k := Sum.inl e.1) (at_ (s3.trans st) hqLA), ?_⟩
      cases es : S e.1 with
      | true =>
        refine ⟨true, by rw [eSv, es], ?_⟩
        rw [if_pos rfl]
        walk_at "go"
        refine ⟨_, Sum.inl e.1, rfl, at_ st hG, lt_size (by omega), _, upd_same, upd_free (s3.trans st) hD, ?_⟩
        rw [putK_new fresh, more, List.filter_append, List.filter_cons_of_pos (by exact es), List.filter_nil]
        unfold kR
        rw [List.map_append]; rfl
      | false =>
        refine ⟨false, by rw [eSv, es], ?_⟩
        rw [if_neg Bool.false_ne_true]
        walk_at "go"
        refine ⟨_, at_ st hG, s3.trans st, ?_⟩
        rw [more, List.filter_append, List.filter_cons_of_neg (by rw [es]; exact Bool.false_ne_true), List.filter_nil, List.append_nil]
    obtain ⟨s3A, rfl⟩ := z
    rw [show (kR c.dl).length = c.dl.length from List.length_map _, List.take_length] at hGA
    refine ⟨s3A _ _ frzA, ?_⟩
    have nwA : NA ≠ c.d := fun z => by rw [z, frzA] at hNA; cases hNA
    have freeA : H2 NA = none := by rw [← offA _ nwA]; exact hNA
    have s4A : Same H2 (upd GA c.d (.dK (kR c.dl))) := fun b o e => by
      by_cases z : b = c.d
      · rw [z, h2.hd] at e; cases e
        rw [z]; exact upd_same
      · rw [upd_ne z]; exact s3A b o ((offA b z).trans e)
    have hN4A : upd GA c.d (.dK (kR c.dl)) NA = some (.dK (kR (c.dl.filter fun e => S e.1))) := (upd_ne nwA).trans hGA
    generalize upd GA c.d (.dK (kR c.dl)) = H3 at *
    have obA3 : InsAt T.C_Check H3 p (cf c.last c.many c.u c.d c.n) := ⟨dxA, s4A _ _ eoA⟩
    have np : NA ≠ p := fun z => by rw [z, eoA] at freeA; cases freeA
    walk_at "go"
    refine s_fld rfl (s4A _ _ eoA) T.k_Check.cl T.n_Check__dealings (by show 5 < 1000; decide) ?_
    rw [cf_pd]
    have o4 : BtX [p] H (upd H3 p (.ins T.C_Check dxA (cf c.last c.many c.u NA c.n))) := fun b o n e => (upd_ne fun z => n (by rw [z]; simp)).trans (s4A b o (s02 b o e))
    have hp4 : upd H3 p (.ins T.C_Check dxA (cf c.last c.many c.u NA c.n)) p = some (.ins T.C_Check dxA (cf c.last c.many c.u NA c.n)) := upd_same
    have hN4 : upd H3 p (.ins T.C_Check dxA (cf c.last c.many c.u NA c.n)) NA = some (.dK (kR (c.dl.filter fun e => S e.1))) := (upd_ne np).trans hN4A
    have hq4 : upd H3 p (.ins T.C_Check dxA (cf c.last c.many c.u NA c.n)) q = some (.dK kvs) := (upd_ne fun z => by rw [z, eoA] at hq; cases hq).trans (s4A _ _ hq)
    generalize upd H3 p (.ins T.C_Check dxA (cf c.last c.many c.u NA c.n)) = H4 at *
    have hn4 : H4 c.n = some (.dK (kR c.nx)) := o4 _ _ (by simpa using pu.2.2.symm) h.hn
    have hu4 : H4 c.u = some (.dK (kI c.uw)) := o4 _ _ (by simpa using pu.1.symm) h.hu
    have freeH : H NA = none := free_ s02 freeA
    clear obA3 frzA offA s3A hNA nwA hGA
    have obB : InsAt T.C_Check H4 p (cf c.last c.many c.u NA c.n) := ⟨dxA, hp4⟩
    walk_at "go"
    refine ⟨c.n, .dK (kR c.nx), hn4, trivial, fun od => ?_⟩
    have frzB : upd H4 c.n (.frz od (.dK (kR c.nx))) c.n = some (.frz od (.dK (kR c.nx))) := upd_same
    have offB : ∀ x, x ≠ c.n → upd H4 c.n (.frz od (.dK (kR c.nx))) x = H4 x := fun x z => upd_ne z
    generalize upd H4 c.n (.frz od (.dK (kR c.nx))) = LB at *
    have hqLB : LB q = some (.dK kvs) := (offB _ qn).trans hq4
    walk_at "go"
    refine i_items0 ?_
    walk_at "go"
    obtain ⟨dxB, eoB⟩ := obB
    refine o_fld ⟨dxB, (offB _ pu.2.2).trans eoB⟩ T.k_Check.cl T.n_Check__nexts (cf_n _ _ _ _ _) ?_
    refine ⟨c.n, od, _, rfl, frzB, ?_⟩
    refine d_it (walk_items (kvs := kR c.nx)) (fun i acc G => Same LB G ∧ acc = kR ((c.nx.take i).filter (fun e => S e.1))) (fun D hD => ⟨upd_free (Same.refl _) hD, rfl⟩) (fun i acc G hi z => z.1 _ _ frzB) (fun acc NB GB hNB hGB z => ?_) (fun i x acc G G2 D hi hD hG z y => ?_)
    rotate_left 1
    · obtain ⟨s3, rfl⟩ := z
      obtain ⟨t, x, y, rfl, nt, rfl, ex, ey⟩ := y
      have hi' : i < c.nx.length := by simpa [kR] using hi
      have eg : (kR c.nx)[i]? = some ((Sum.inl c.nx[i].1 : Key), V.ref c.nx[i].2.1) := by
        unfold kR
        rw [List.getElem?_map, List.getElem?_eq_getElem hi']; rfl
      simp only [eg, Option.map_some] at ex ey
      obtain rfl := Option.some.inj ex
      obtain rfl := Option.some.inj ey
      have more : (c.nx.take (i + 1)) = c.nx.take i ++ [c.nx[i]] := by rw [List.take_add_one, List.getElem?_eq_getElem hi']; rfl
      have fresh : ∀ q ∈ kR ((c.nx.take i).filter (fun e => S e.1)), q.1 ≠ Sum.inl c.nx[i].1 := fun q hq z => by
        obtain ⟨y, hy, rfl⟩ := List.mem_map.mp hq
        have z : y.1 = c.nx[i].1 := Sum.inl.inj z
        obtain ⟨j, hj, ej⟩ := List.getElem_of_mem (List.mem_filter.mp hy).1
        rw [List.getElem_take] at ej
        have hj2 : j < i := by rw [List.length_take] at hj; omega
        exact List.pairwise_iff_getElem.mp ndnx j i (by rw [List.length_map]; omega) (by rw [List.length_map]; exact hi') hj2 (by rw [List.getElem_map, List.getElem_map, ej, z])
      have al : (kR ((c.nx.take i).filter (fun e => S e.1))).length ≤ 100 := by
        unfold kR
        rw [List.length_map]
        exact Nat.le_trans (List.length_filter_le _ _) (by rw [List.length_take]; omega)
      generalize c.nx[i] = e at *
      have st : Same G (upd G t (.tup [kV (Sum.inl e.1), V.ref e.2.1])) := Same.new nt
      have ht : upd G t (.tup [kV (Sum.inl e.1), V.ref e.2.1]) t = some (.tup [.int e.1, V.ref e.2.1]) := upd_same
      generalize upd G t (.tup [kV (Sum.inl e.1), V.ref e.2.1]) = G2 at *
      refine g_pair ht ⟨rfl, ?_⟩
      walk_at "go"
      refine ⟨q, _, rfl, DGet.k (k := Sum.inl e.1) (at_ (s3.trans st) hqLB), ?_⟩
      cases es : S e.1 with
      | true =>
        refine ⟨true, by rw [eSv, es], ?_⟩
        rw [if_pos rfl]
        walk_at "go"
        refine ⟨_, Sum.inl e.1, rfl, at_ st hG, lt_size (by omega), _, upd_same, upd_free (s3.trans st) hD, ?_⟩
        rw [putK_new fresh, more, List.filter_append, List.filter_cons_of_pos (by exact es), List.filter_nil]
        unfold kR
        rw [List.map_append]; rfl
      | false =>
        refine ⟨false, by rw [eSv, es], ?_⟩
        rw [if_neg Bool.false_ne_true]
        walk_at "go"
        refine ⟨_, at_ st hG, s3.trans st, ?_⟩
        rw [more, List.filter_append, List.filter_cons_of_neg (by rw [es]; exact Bool.false_ne_true), List.filter_nil, List.append_nil]
    obtain ⟨s3B, rfl⟩ := z
    rw [show (kR c.nx).length = c.nx.length from List.length_map _, List.take_length] at hGB
    refine ⟨s3B _ _ frzB, ?_⟩
    have nwB : NB ≠ c.n := fun z => by rw [z, frzB] at hNB; cases hNB
    have freeB : H4 NB = none := by rw [← offB _ nwB]; exact hNB
    have s4B : Same H4 (upd GB c.n (.dK (kR c.nx))) := fun b o e => by
      by_cases z : b = c.n
      · rw [z, hn4] at e; cases e
        rw [z]; exact upd_same
      · rw [upd_ne z]; exact s3B b o ((offB b z).trans e)
    have hN4B : upd GB c.n (.dK (kR c.nx)) NB = some (.dK (kR (c.nx.filter fun e => S e.1))) := (upd_ne nwB).trans hGB
    generalize upd GB c.n (.dK (kR c.nx)) = H5 at *
    walk_at "go"
    refine s_fld rfl (s4B _ _ hp4) T.k_Check.cl T.n_Check__nexts (by show 5 < 1000; decide) ?_
    rw [cf_pn]
    have npB : NB ≠ p := fun z => by rw [z, hp4] at freeB; cases freeB
    have o6 : BtX [p] H (upd H5 p (.ins T.C_Check dxA (cf c.last c.many c.u NA NB))) := fun b o n e => (upd_ne fun z => n (by rw [z]; simp)).trans (s4B b o (o4 b o n e))
    have oF : BtX (ckF p c) H (upd H5 p (.ins T.C_Check dxA (cf c.last c.many c.u NA NB))) := o6.mono (by simp)
    obtain ⟨f1, f2⟩ := h.fr oF
    refine k S _ NA NB hS o6 ⟨⟨dxA, upd_same⟩, (upd_ne pu.1.symm).trans (s4B _ _ hu4), (upd_ne np).trans (s4B _ _ hN4), (upd_ne npB).trans hN4B, ?_, ?_, ?_, fun e m => f1 e (List.mem_filter.mp m).1, fun e m => f2 e (List.mem_filter.mp m).1⟩
    · exact fun z => by
        have z : c.u = NA := z
        rw [← z, h.hu] at freeH; cases freeH
    · exact fun z => by
        have z : c.u = NB := z
        rw [← z, hu4] at freeB; cases freeB
    · exact fun z => by
        have z : NA = NB := z
        rw [← z, hN4] at freeB; cases freeB
end



section
variable {P : Program} {w : World} {K : PySem.W.Frag} {mg : Str → Option Value} {base : Heap}
/-! ### given up, copied -/
theorem drop_kI (ps : List (Int × Int)) (e : Int) : dropK (kI ps) (Sum.inl e) = kI (ps.filter fun x => decide (x.1 ≠ e)) := by
  unfold kI dropK
  rw [List.filter_map]
  congr 1
  refine List.filter_congr fun x _ => ?_
  show decide ((Sum.inl x.1 : Key) ≠ Sum.inl e) = decide (x.1 ≠ e)
  exact decide_eq_decide.mpr ⟨fun h z => h (congrArg _ z), fun h z => h (Sum.inl.inj z)⟩
theorem s_ddl {td ty : TE} {D : Ends} {σ : L2.St} {H : Hp} (h : td σ H fun x H1 => ty σ H1 fun y H2 => ∃ a kvs k, x = .ref a ∧ H2 a = some (.dK kvs) ∧ y = kV k ∧ (valV kvs k).isSome = true ∧ D.nx σ (upd H2 a (.dK (dropK kvs k)))) : sDDel td ty D σ H := h
def MakeQ (C : Addr) (sp : Sp) (dvs : List V) (E : XK) (vs : List V) (H1 : Hp) (Q : VK) : Prop := ∀ x dx, H1 x = none → H1 dx = none → dx ≠ x → sp (.ref x :: (vs ++ dvs)) (upd (upd H1 dx (.own x)) x (.ins C dx [])) (fun v H2 => v = .non ∧ Q (.ref x) H2) E
theorem e_make {C : Addr} {sp : Sp} {dvs : List V} {E : XK} {t : TA} {σ : L2.St} {H : Hp} {Q : VK} (h : t σ H fun vs H1 => MakeQ C sp dvs E vs H1 Q) : tMake C sp dvs E t σ H Q := h
abbrev lessU (c : Ck) (e : Int) : Ck := { c with uw := c.uw.filter fun x => decide (x.1 ≠ e) }
def sp_gives_up (T : Txt K mg) : Sp := fun vs H Q E => ∃ (p : Addr) (c : Ck) (x : V) (N : Addr → Prop) (d : PyData), vs = [.ref p, x] ∧ CkAt K T.C_Check T.C_Dealing H p c ∧ Shape c ∧ Dq K N H x d ∧ (openB c d = false → E (.ref T.e_NotOpen.C) none H) ∧
  ∀ e, d = .int e → openB c d = true → ∀ (S : Int → Bool) (H' : Hp) (d' n' : Addr), ((lessU c e).uw ≠ [] → ∀ y ∈ c.dl, behindB y.2.2 (minU (lessU c e)) = true → S y.1 = true) → BtX [p, c.u] H H' → CkAt K T.C_Check T.C_Dealing H' p { lessU c e with d := d', n := n', dl := c.dl.filter (fun y => S y.1), nx := c.nx.filter (fun y => S y.1) } → Q .non H'
theorem ok_Check_gives_up (T : Txt K mg) : FnOk P w K mg base (L2.CX P w) 4 T.m_Check_gives_up.f T.m_Check_gives_up.fd ["self", "entry"] ((sp_gives_up T)) := by
  refine T.m_Check_gives_up.F.okX sc_Check_gives_up (fun vs H Q E h => ?_) (fun cdv A outer s H vs Q E hr h => ?_)
  · obtain ⟨p, c, x, N, d, rfl, _⟩ := h
    rfl
  · obtain ⟨p, c, x, N, d, rfl, h, sh, hd, kE, k⟩ := h
    refine ⟨_, (pss_cons (ps_expr (pe_meth (pv 0) T.k_Check.cl T.m_Check__need_under_way.i (ok_Check__need_under_way T) (hr.mono (by decide)) T.m_Check__need_under_way.b .nil (passes_call (takes_of rfl rfl rfl rfl) (fun _ _ _ _ h => h)) (pa_cons (pv 1) pa_nil)))
    (pss_cons (ps_ddel (peFld (K := K) (pv 0) rfl) (pv 1))
    (pss_one (ps_expr (pe_meth0 (pv 0) T.k_Check.cl T.m_Check__forget.i (ok_Check__forget T) (hr.mono (by decide)) T.m_Check__forget.b .nil pass0))))), ?_⟩
    walk_at "go"
    refine m_call0 h.ob (cf_no _ _ _ _ _ (by decide +kernel)) ?_
    walk_at "go"
    refine ⟨p, c, x, N, d, rfl, h, hd, kE, fun eo => ?_⟩
    obtain ⟨e, rfl⟩ : ∃ e, d = .int e := by
      cases d with
      | int e => exact ⟨e, rfl⟩
      | _ => cases eo
    cases hd
    have me : e ∈ c.uw.map (·.1) := of_decide_eq_true eo
    walk_at "go"
    refine s_ddl ?_
    walk_at "go"
    refine o_fld h.ob T.k_Check.cl T.n_Check__under_way (cf_u _ _ _ _ _) ?_
    walk_at "go"
    refine ⟨c.u, _, Sum.inl e, rfl, h.hu, rfl, isSome_iff.mpr (by rw [kI_keys, inl_mem]; exact me), ?_⟩
    rw [drop_kI]
    have pu := h.pu
    have b1 : BtX [p, c.u] H (upd H c.u (.dK (kI (c.uw.filter fun x => decide (x.1 ≠ e))))) := BtX.upd (by simp)
    have hu1 : upd H c.u (.dK (kI (c.uw.filter fun x => decide (x.1 ≠ e)))) c.u = some (.dK (kI (c.uw.filter fun x => decide (x.1 ≠ e)))) := upd_same
    have ne1 : ∀ x, x ≠ c.u → upd H c.u (.dK (kI (c.uw.filter fun x => decide (x.1 ≠ e)))) x = H x := fun x z => upd_ne z
    generalize upd H c.u (.dK (kI (c.uw.filter fun x => decide (x.1 ≠ e)))) = H1 at *
    obtain ⟨f1, f2⟩ := h.fr (b1.mono (by simp))
    have h1 : CkAt K T.C_Check T.C_Dealing H1 p (lessU c e) := ⟨h.ob.elim fun dx z => ⟨dx, (ne1 _ pu.1).trans z⟩, hu1, (ne1 _ h.ud.symm).trans h.hd, (ne1 _ h.un.symm).trans h.hn, h.ud, h.un, h.dn, f1, f2⟩
    walk_at "go"
    refine m_call0 h1.ob (cf_no _ _ _ _ _ (by decide +kernel)) ?_
    refine ⟨p, lessU c e, rfl, h1, ⟨sh.eq, sh.nd, sh.ln, Nat.le_trans (List.length_filter_le _ _) sh.lu, sh.rows⟩, fun S H' d' n' hS b2 h2 => ?_⟩
    walk_at "go"
    exact k e rfl eo S H' d' n' hS (b1.trans (b2.mono (by simp))) h2
def dat (x : Int × Addr × List Int) : Int × List Int := (x.1, x.2.2)
def sp_copy (C Cd : Addr) (K : PySem.W.Frag) : Sp := fun vs H Q _ => ∃ (p : Addr) (c : Ck), vs = [.ref p] ∧ CkAt K C Cd H p c ∧ 0 ≤ c.last ∧ c.nx.length < 64 ∧ (c.nx.map (·.1)).Nodup ∧
  ∀ (q : Addr) (H' : Hp) (c' : Ck), Same H H' → H q = none → H c'.u = none → H c'.d = none → H c'.n = none → c'.last = c.last → c'.many = c.many → c'.uw = c.uw → c'.dl = c.dl → c'.nx.map dat = c.nx.map dat → CkAt K C Cd H' q c' → Q (.ref q) H'
theorem ok_Check_copy (T : Txt K mg) : FnOk P w K mg base CX0 5 T.m_Check_copy.f T.m_Check_copy.fd ["self"] ((sp_copy T.C_Check T.C_Dealing K)) := by
  refine T.m_Check_copy.F.ok sc_Check_copy (fun vs H Q E h => ?_) (fun cdv A outer s H vs Q E hr h => ?_)
  · obtain ⟨p, c, rfl, _⟩ := h
    rfl
  · obtain ⟨p, c, rfl, h, l0, lnx, ndnx, k⟩ := h
    refine ⟨_, (pss_cons (ps_set (i := 1) sc_Check_copy.nd rfl (Or.inl rfl) (pe_make (T.m_Check_init.made T.k_Check) (ok_Check_init T) (hr.mono (by decide)) (by rfl) T.k_Check.g T.m_Check_init.b .nil passL (pa_cons (peFld (K := K) (pv 0) rfl) pa_nil)))
    (pss_cons (psFld (K := K) (pv 1) (peFld (K := K) (pv 0) rfl) rfl)
    (pss_cons (psFld (K := K) (pv 1) (pe_callTy call_dictD (by rfl) T.z_dict (by decide +kernel) (pa_cons (peFld (K := K) (pv 0) rfl) pa_nil)) rfl)
    (pss_cons (psFld (K := K) (pv 1) (pe_callTy call_dictD (by rfl) T.z_dict (by decide +kernel) (pa_cons (peFld (K := K) (pv 0) rfl) pa_nil)) rfl)
    (pss_cons (psFld (K := K) (pv 1) (pe_lock (pe_dc (own := [("entry", 2), ("row", 3)]) rfl sc_Check_copy.nd (pi_items (peFld (K := K) (pv 0) rfl)) (blkOk_by (N := n_Check_copy) (sc := defScope s_Check_copy) (by decide +kernel)) (fun _ _ _ _ _ => (pgTup (K := K) (n := 2) (pg_tup (n := 2) rfl (pgs_cons (pg_name (i := 2) sc_Check_copy.nd rfl (Or.inl rfl)) (pgs_cons (pg_name (i := 3) sc_Check_copy.nd rfl (Or.inl rfl)) pgs_nil))))) (fun _ _ _ _ _ => pts_nil) (fun _ _ _ _ _ => (pv 2)) (fun _ _ _ _ _ => (pe_callTy (cListOf (K := K)) (by rfl) T.z_list (by decide +kernel) (pa_cons (pv 3) pa_nil))))) rfl)
    (pss_one (ps_ret (pv 1)))))))), ?_⟩
    walk_at "go"
    refine e_make ?_
    walk_at "go"
    refine o_fld h.ob T.k_Check.cl T.n_Check__last (cf_l _ _ _ _ _) ?_
    walk_at "go"
    intro q dx nq ndx ne
    show sp_check_init T [.ref q, .int c.last] _ _ _
    have s0 : Same H (upd (upd H dx (.own q)) q (.ins T.C_Check dx [])) := fun x o e => by
      rw [upd_ne (ne_of_none e nq), upd_ne (ne_of_none e ndx)]; exact e
    have hq0 : upd (upd H dx (.own q)) q (.ins T.C_Check dx []) q = some (.ins T.C_Check dx []) := upd_same
    generalize upd (upd H dx (.own q)) q (.ins T.C_Check dx []) = H0 at *
    refine ⟨q, .int c.last, NF, .int c.last, rfl, ⟨dx, hq0⟩, .int _, fun z => ?_, fun l el _ H1 c1 e1 e2 e3 e4 e5 h1 o1 n1 n2 n3 => ⟨rfl, ?_⟩⟩
    · rw [show isND (.int c.last) = true from decide_eq_true l0] at z; cases z
    cases el
    have s1 : Same H H1 := fun b o e => o1 b o (ne_of_none e nq) (s0 b o e)
    have hH1 := h.same s1
    have pq : p ≠ q := fun z => by
      obtain ⟨dy, e⟩ := h.ob
      rw [z, nq] at e; cases e
    obtain ⟨dq, eq1⟩ := h1.ob
    rw [e1, e2] at eq1
    walk_at "go"
    refine o_fld hH1.ob T.k_Check.cl T.n_Check__many (cf_m _ _ _ _ _) ?_
    walk_at "go"
    refine s_fld rfl eq1 T.k_Check.cl T.n_Check__many (by show 5 < 1000; decide) ?_
    rw [cf_pm]
    have s2 : Same H (upd H1 q (.ins T.C_Check dq (cf c.last c.many c1.u c1.d c1.n))) := fun b o e => (upd_ne (ne_of_none e nq)).trans (s1 b o e)
    have q2 : upd H1 q (.ins T.C_Check dq (cf c.last c.many c1.u c1.d c1.n)) q = some (.ins T.C_Check dq (cf c.last c.many c1.u c1.d c1.n)) := upd_same
    generalize upd H1 q (.ins T.C_Check dq (cf c.last c.many c1.u c1.d c1.n)) = H2 at *
    have hH2 := h.same s2
    walk_at "go"
    refine o_fld hH2.ob T.k_Check.cl T.n_Check__under_way (cf_u _ _ _ _ _) ?_
    walk_at "go"
    refine ⟨c.u, _, rfl, .inl hH2.hu, fun u' nu' => ?_⟩
    have su : Same H (upd H2 u' (.dK (kI c.uw))) := s2.trans (Same.new nu')
    have hu' : upd H2 u' (.dK (kI c.uw)) u' = some (.dK (kI c.uw)) := upd_same
    have q3 := (Same.new (o := .dK (kI c.uw)) nu') _ _ q2
    have nuH := free_ s2 nu'
    generalize upd H2 u' (.dK (kI c.uw)) = H3 at *
    have uq : u' ≠ q := fun z => by rw [z, q2] at nu'; cases nu'
    walk_at "go"
    refine s_fld rfl q3 T.k_Check.cl T.n_Check__under_way (by show 5 < 1000; decide) ?_
    have p_u : putF "_under_way" (V.ref u') (cf c.last c.many c1.u c1.d c1.n) = cf c.last c.many u' c1.d c1.n := rfl
    rw [p_u]
    have s4 : Same H (upd H3 q (.ins T.C_Check dq (cf c.last c.many u' c1.d c1.n))) := fun b o e => (upd_ne (ne_of_none e nq)).trans (su b o e)
    have q4 : upd H3 q (.ins T.C_Check dq (cf c.last c.many u' c1.d c1.n)) q = some (.ins T.C_Check dq (cf c.last c.many u' c1.d c1.n)) := upd_same
    have u4 : upd H3 q (.ins T.C_Check dq (cf c.last c.many u' c1.d c1.n)) u' = some (.dK (kI c.uw)) := (upd_ne uq).trans hu'
    generalize upd H3 q (.ins T.C_Check dq (cf c.last c.many u' c1.d c1.n)) = H4 at *
    have hH4 := h.same s4
    walk_at "go"
    refine o_fld hH4.ob T.k_Check.cl T.n_Check__dealings (cf_d _ _ _ _ _) ?_
    walk_at "go"
    refine ⟨c.d, _, rfl, .inl hH4.hd, fun d' nd' => ?_⟩
    have sd : Same H (upd H4 d' (.dK (kR c.dl))) := s4.trans (Same.new nd')
    have sd4 : Same H4 (upd H4 d' (.dK (kR c.dl))) := Same.new nd'
    have hd' : upd H4 d' (.dK (kR c.dl)) d' = some (.dK (kR c.dl)) := upd_same
    have ndH := free_ s4 nd'
    have ud : u' ≠ d' := ne_of_none u4 nd'
    have dq' : d' ≠ q := fun z => by rw [z, q4] at nd'; cases nd'
    generalize upd H4 d' (.dK (kR c.dl)) = H5 at *
    walk_at "go"
    refine s_fld rfl (sd4 _ _ q4) T.k_Check.cl T.n_Check__dealings (by show 5 < 1000; decide) ?_
    rw [cf_pd]
    have s6 : Same H (upd H5 q (.ins T.C_Check dq (cf c.last c.many u' d' c1.n))) := fun b o e => (upd_ne (ne_of_none e nq)).trans (sd b o e)
    have q6 : upd H5 q (.ins T.C_Check dq (cf c.last c.many u' d' c1.n)) q = some (.ins T.C_Check dq (cf c.last c.many u' d' c1.n)) := upd_same
    have u6 : upd H5 q (.ins T.C_Check dq (cf c.last c.many u' d' c1.n)) u' = some (.dK (kI c.uw)) := (upd_ne uq).trans (sd4 _ _ u4)
    have d6 : upd H5 q (.ins T.C_Check dq (cf c.last c.many u' d' c1.n)) d' = some (.dK (kR c.dl)) := (upd_ne dq').trans hd'
    generalize upd H5 q (.ins T.C_Check dq (cf c.last c.many u' d' c1.n)) = H6 at *
    clear u4 q4 hd' q3 hu' nu' nd' hH4 hH2 sd sd4 su s4 s2 eq1 h1 o1
    have hH6 := h.same s6
    have pu := h.pu
    walk_at "go"
    refine ⟨c.n, .dK (kR c.nx), hH6.hn, trivial, fun od => ?_⟩
    have frz : upd H6 c.n (.frz od (.dK (kR c.nx))) c.n = some (.frz od (.dK (kR c.nx))) := upd_same
    have off : ∀ x, x ≠ c.n → upd H6 c.n (.frz od (.dK (kR c.nx))) x = H6 x := fun x z => upd_ne z
    generalize upd H6 c.n (.frz od (.dK (kR c.nx))) = L at *
    have rowN : ∀ e ∈ c.nx, e.2.1 ≠ c.n := fun e m z => by
      have := h.nxs e m
      rw [z, h.hn] at this; cases this
    walk_at "go"
    refine i_items0 ?_
    walk_at "go"
    obtain ⟨dx6, eo6⟩ := hH6.ob
    refine o_fld ⟨dx6, (off _ pu.2.2).trans eo6⟩ T.k_Check.cl T.n_Check__nexts (cf_n _ _ _ _ _) ?_
    refine ⟨c.n, od, _, rfl, frz, ?_⟩
    refine d_it (walk_items (kvs := kR c.nx)) (fun i acc G => Same L G ∧ ∃ ys : List (Int × Addr × List Int), acc = kR ys ∧ ys.map dat = (c.nx.take i).map dat ∧ ∀ e ∈ ys, G e.2.1 = some (.lst (e.2.2.map V.int))) (fun D hD => ⟨upd_free (Same.refl _) hD, [], rfl, rfl, fun e m => nomatch m⟩) (fun i acc G hi z => z.1 _ _ frz) (fun acc Nn G hN hG z => ?_) (fun i x acc G G2 D hi hD hG z y => ?_)
    rotate_left 1
    · obtain ⟨s3, ys, rfl, ey0, hys⟩ := z
      obtain ⟨t, x, y, rfl, nt, rfl, ex, ey⟩ := y
      have hi' : i < c.nx.length := by simpa [kR] using hi
      have eg : (kR c.nx)[i]? = some ((Sum.inl c.nx[i].1 : Key), V.ref c.nx[i].2.1) := by
        unfold kR
        rw [List.getElem?_map, List.getElem?_eq_getElem hi']; rfl
      simp only [eg, Option.map_some] at ex ey
      obtain rfl := Option.some.inj ex
      obtain rfl := Option.some.inj ey
      have more : (c.nx.take (i + 1)) = c.nx.take i ++ [c.nx[i]] := by rw [List.take_add_one, List.getElem?_eq_getElem hi']; rfl
      have ks : ys.map (·.1) = (c.nx.take i).map (·.1) := by
        have := congrArg (List.map Prod.fst) ey0
        rw [List.map_map, List.map_map] at this
        exact this
      have fresh : ∀ q ∈ kR ys, q.1 ≠ Sum.inl c.nx[i].1 := fun q hq z => by
        obtain ⟨y, hy, rfl⟩ := List.mem_map.mp hq
        have z : y.1 = c.nx[i].1 := Sum.inl.inj z
        have hy2 : y.1 ∈ (c.nx.take i).map (·.1) := ks ▸ List.mem_map.mpr ⟨y, hy, rfl⟩
        obtain ⟨y2, hy3, e3⟩ := List.mem_map.mp hy2
        obtain ⟨j, hj, ej⟩ := List.getElem_of_mem hy3
        rw [List.getElem_take] at ej
        have hj2 : j < i := by rw [List.length_take] at hj; omega
        exact List.pairwise_iff_getElem.mp ndnx j i (by rw [List.length_map]; omega) (by rw [List.length_map]; exact hi') hj2 (by rw [List.getElem_map, List.getElem_map, ej, e3, z])
      have al : (kR ys).length ≤ 100 := by
        have := congrArg List.length ks
        rw [List.length_map, List.length_map, List.length_take] at this
        unfold kR
        rw [List.length_map]; omega
      have he := List.getElem_mem hi'
      generalize c.nx[i] = e at *
      have st : Same G (upd G t (.tup [kV (Sum.inl e.1), V.ref e.2.1])) := Same.new nt
      have ht : upd G t (.tup [kV (Sum.inl e.1), V.ref e.2.1]) t = some (.tup [.int e.1, V.ref e.2.1]) := upd_same
      generalize upd G t (.tup [kV (Sum.inl e.1), V.ref e.2.1]) = G2 at *
      have hrow : SqL K G2 e.2.1 (e.2.2.map V.int) := slO ((s3.trans st) _ _ ((off _ (rowN e he)).trans (hH6.nxs e he)))
      refine g_pair ht ⟨rfl, ?_⟩
      walk_at "go"
      refine n_new0 fun r2 G3 n3 sG3 h3 => ?_
      have s13 := s3.trans (st.trans sG3)
      have hG3 := at_ (st.trans sG3) hG
      refine ⟨_, Sum.inl e.1, rfl, hG3, lt_size (by omega), _, upd_same, upd_free s13 hD, ys ++ [(e.1, r2, e.2.2)], ?_, by rw [more, List.map_append, List.map_append, ey0]; rfl, fun y m => ?_⟩
      · rw [putK_new fresh]
        unfold kR
        rw [List.map_append]; rfl
      · have nD : ∀ z, G3 z = some (.lst (y.2.2.map V.int)) → z ≠ D := fun z e1 e2 => by rw [e2, hG3] at e1; cases e1
        rcases List.mem_append.mp m with m | m
        · have := (st.trans sG3) _ _ (hys y m)
          exact (upd_ne (nD _ this)).trans this
        · rw [List.mem_singleton.mp m]
          exact (upd_ne (fun z => by
            have z : r2 = D := z
            rw [z, hG3] at h3; cases h3)).trans h3
    obtain ⟨s3, ys, rfl, ey0, hys⟩ := z
    rw [show (kR c.nx).length = c.nx.length from List.length_map _, List.take_length] at ey0
    refine ⟨s3 _ _ frz, ?_⟩
    have nwN : Nn ≠ c.n := fun z => by rw [z, frz] at hN; cases hN
    have freeN : H6 Nn = none := by rw [← off _ nwN]; exact hN
    have s47 : Same H6 (upd G c.n (.dK (kR c.nx))) := fun b o e => by
      by_cases z : b = c.n
      · rw [z, hH6.hn] at e; cases e
        rw [z]; exact upd_same
      · rw [upd_ne z]; exact s3 b o ((off b z).trans e)
    have hN7 : upd G c.n (.dK (kR c.nx)) Nn = some (.dK (kR ys)) := (upd_ne nwN).trans hG
    have hys7 : ∀ e ∈ ys, upd G c.n (.dK (kR c.nx)) e.2.1 = some (.lst (e.2.2.map V.int)) := fun e m => (upd_ne fun z => by
      have := hys e m
      rw [z, s3 _ _ frz] at this; cases this).trans (hys e m)
    generalize upd G c.n (.dK (kR c.nx)) = H7 at *
    have nNq : Nn ≠ q := fun z => by rw [z, q6] at freeN; cases freeN
    walk_at "go"
    refine s_fld rfl (s47 _ _ q6) T.k_Check.cl T.n_Check__nexts (by show 5 < 1000; decide) ?_
    rw [cf_pn]
    have s8 : Same H (upd H7 q (.ins T.C_Check dq (cf c.last c.many u' d' Nn))) := fun b o e => (upd_ne (ne_of_none e nq)).trans (s47 b o (s6 b o e))
    have hH8 := h.same s8
    walk_at "go"
    refine k q _ ⟨c.last, c.many, u', d', Nn, c.uw, c.dl, ys⟩ s8 nq nuH ndH (free_ s6 freeN) rfl rfl rfl rfl ey0 ⟨⟨dq, upd_same⟩, (upd_ne uq).trans (s47 _ _ u6), (upd_ne dq').trans (s47 _ _ d6), (upd_ne nNq).trans hN7, ud, ?_, ?_, hH8.dls, fun e m => (upd_ne fun z => ?_).trans (hys7 e m)⟩
    · exact fun z => by
        have z : u' = Nn := z
        rw [← z, u6] at freeN; cases freeN
    · exact fun z => by
        have z : d' = Nn := z
        rw [← z, d6] at freeN; cases freeN
    · have := hys7 e m
      rw [z, s47 _ _ q6] at this; cases this
end



section
variable {P : Program} {w : World} {K : PySem.W.Frag} {mg : Str → Option Value} {base : Heap}
/-! ### a dealing of a check -/
def snapOf (c : Ck) (e : Int) : Int := match valV (kI c.uw) (Sum.inl e) with
  | some (.int s) => s
  | _ => 0
theorem snap_of {c : Ck} {e : Int} (h : e ∈ c.uw.map (·.1)) : valV (kI c.uw) (Sum.inl e) = some (.int (snapOf c e)) ∧ ∃ y ∈ c.uw, y.2 = snapOf c e := by
  have s : (valV (kI c.uw) (Sum.inl e)).isSome = true := isSome_iff.mpr (by rw [kI_keys, inl_mem]; exact h)
  obtain ⟨v, hv⟩ := Option.isSome_iff_exists.mp s
  have hv2 := hv
  unfold valV at hv2
  obtain ⟨q, hq, rfl⟩ := Option.map_eq_some_iff.mp hv2
  obtain ⟨y, hy, rfl⟩ := List.mem_map.mp (List.mem_of_find?_eq_some hq)
  have e1 : snapOf c e = y.2 := by unfold snapOf; rw [hv]
  exact ⟨by rw [hv, e1], y, hy, e1.symm⟩
def dealD (c : Ck) (e : Int) (gs : List Str) (rs : List (Str × Str × List Str)) (ws : List (Str × Option Int)) : Dl := ⟨snapOf c e, if ws = [] then none else some (c.last + 1), gs, rs, ws⟩
structure Args (K : PySem.W.Frag) (H : Hp) (c : Ck) (x vk vr vw : V) (d dk dr dw : PyData) : Prop where
  x : ∃ N, Dq K N H x d
  k : ∃ N, Dq K N H vk dk
  r : ∃ N, Dq K N H vr dr
  w : ∃ N, Dq K N H vw dw
  zk : szD dk = true
  zr : szD dr = true
  zw : szD dw = true
  l0 : 0 ≤ c.last
  uw : ∀ y ∈ c.uw, 0 ≤ y.2 ∧ y.2 ≤ c.last
def seenOk (dk dr : PyData) : Bool := keysD dk && rangesD dr
structure Bad (T : Txt K mg) (H : Hp) (c : Ck) (d dk dr dw : PyData) (E : XK) : Prop where
  o : openB c d = false → ∀ H', Same H H' → E (.ref T.e_NotOpen.C) none H'
  s : openB c d = true → seenOk dk dr = false → ∀ H', Same H H' → E (.ref T.e_BadSeen.C) none H'
  w : openB c d = true → seenOk dk dr = true → writesD dw = false → ∀ H', Same H H' → E (.ref T.e_BadWrites.C) none H'
def sp_deal_of (T : Txt K mg) : Sp := fun vs H Q E => ∃ (p : Addr) (c : Ck) (x vk vr vw : V) (d dk dr dw : PyData), vs = [.ref p, x, vk, vr, vw] ∧ CkAt K T.C_Check T.C_Dealing H p c ∧ Args K H c x vk vr vw d dk dr dw ∧ Bad T H c d dk dr dw E ∧
  ∀ e gs rs ws, d = .int e → openB c d = true → dk = gsP gs → dr = rsP rs → dw = wsP ws → DataOk gs rs ws → ∀ (H' : Hp) (a : Addr), Same H H' → H a = none → DlAt K T.C_Dealing H' a (dealD c e gs rs ws) → Q (.ref a) H'
theorem ok_Check__dealing_of (T : Txt K mg) : FnOk P w K mg base (L2.CX P w) 9 T.m_Check__dealing_of.f T.m_Check__dealing_of.fd ["self", "entry", "keys", "ranges", "writes"] ((sp_deal_of T)) := by
  refine T.m_Check__dealing_of.F.okX sc_Check__dealing_of (fun vs H Q E h => ?_) (fun cdv A outer s H vs Q E hr h => ?_)
  · obtain ⟨p, c, x, vk, vr, vw, d, dk, dr, dw, rfl, _⟩ := h
    rfl
  · obtain ⟨p, c, x, vk, vr, vw, d, dk, dr, dw, rfl, h, ar, bad, k⟩ := h
    refine ⟨_, (pss_cons (ps_expr (pe_meth (pv 0) T.k_Check.cl T.m_Check__need_under_way.i (ok_Check__need_under_way T) (hr.mono (by decide)) T.m_Check__need_under_way.b .nil (passes_call (takes_of rfl rfl rfl rfl) (fun _ _ _ _ h => h)) (pa_cons (pv 1) pa_nil)))
    (pss_cons (ps_if (PW.pt (pw_or (pt_not (ptTruth (K := K) (pe_call (ok_are_keys T) (hr.mono (by decide)) (by rfl) T.are_keys.g T.are_keys.F.kp T.are_keys.b .nil pass0 (pa_cons (pv 2) pa_nil)) (by intro _; rfl))) (pw_or1 (pt_not (ptTruth (K := K) (pe_call (ok_are_ranges T) (hr.mono (by decide)) (by rfl) T.are_ranges.g T.are_ranges.F.kp T.are_ranges.b .nil pass0 (pa_cons (pv 3) pa_nil)) (by intro _; rfl)))))) (pss_one (ps_raise rfl (takes_of rfl rfl rfl rfl) (pmk_oexN T.e_BadSeen.o T.e_BadSeen.i T.e_BadSeen.t (ok_StoreError_init T.m_StoreError_init T.z_ValueError T.vV) (hr.mono (by decide)) T.m_StoreError_init.b pass0 (by rfl) T.e_BadSeen.g))) pss_nil)
    (pss_cons (ps_if (pt_not (ptTruth (K := K) (pe_call (ok_are_writes T) (hr.mono (by decide)) (by rfl) T.are_writes.g T.are_writes.F.kp T.are_writes.b .nil pass0 (pa_cons (pv 4) pa_nil)) (by intro _; rfl))) (pss_one (ps_raise rfl (takes_of rfl rfl rfl rfl) (pmk_oexN T.e_BadWrites.o T.e_BadWrites.i T.e_BadWrites.t (ok_StoreError_init T.m_StoreError_init T.z_ValueError T.vV) (hr.mono (by decide)) T.m_StoreError_init.b pass0 (by rfl) T.e_BadWrites.g))) pss_nil)
    (Evl.pss_cut (ps_set (i := 5) sc_Check__dealing_of.nd rfl (Or.inl rfl) (pe_ifExp (pt_cmpR op_gt (pe_callB (cLen (K := K)) (by rfl) T.z_len PySem.boot_len (pa_cons (pv 4) pa_nil)) pe_int (nomark _)) (pe_op oAdd (peFld (K := K) (pv 0) rfl) pe_int) pe_non))
    (pss_one (ps_ret (pe_make (T.m_Dealing_init.made T.k_Dealing) (ok_Dealing_init T) (hr.mono (by decide)) (by rfl) T.k_Dealing.g T.m_Dealing_init.b .nil (passes_call (takes_of rfl rfl rfl rfl) (fun _ _ _ _ h => h)) (pa_cons (pe_dget (hu_of hr) (peFld (K := K) (pv 0) rfl) (pv 1) (fun _ _ => rfl)) (pa_cons (pv 5) (pa_cons (pv 2) (pa_cons (pv 3) (pa_cons (pv 4) pa_nil)))))))))))), ?_⟩
    obtain ⟨Nx, hx⟩ := ar.x
    obtain ⟨Nk, hk⟩ := ar.k
    obtain ⟨Nr, hrr⟩ := ar.r
    obtain ⟨Nw, hw⟩ := ar.w
    walk_at "go"
    refine m_call0 h.ob (cf_no _ _ _ _ _ (by decide +kernel)) ?_
    walk_at "go"
    refine ⟨p, c, x, Nx, d, rfl, h, hx, fun z => bad.o z _ (Same.refl _), fun eo => ?_⟩
    walk_at "go"
    refine ⟨vk, Nk, dk, rfl, hk, ar.zk, fun H1 s1 => ?_⟩
    walk_at "go"
    cases e1 : keysD dk with
    | false =>
      walk_at "go"
      exact e_raise T.e_BadSeen.o (bad.s eo (by unfold seenOk; rw [e1]; rfl) _ s1)
    | true =>
    walk_at "go"
    refine ⟨vr, Nr, dr, rfl, hrr.same s1, ar.zr, fun H2 s2 => ?_⟩
    walk_at "go"
    have s12 := s1.trans s2
    cases e2 : rangesD dr with
    | false =>
      walk_at "go"
      exact e_raise T.e_BadSeen.o (bad.s eo (by unfold seenOk; rw [e1, e2]; rfl) _ s12)
    | true =>
    walk_at "go"
    refine ⟨vw, Nw, dw, rfl, hw.same s12, ar.zw, fun H3 s3 => ?_⟩
    walk_at "go"
    have s13 := s12.trans s3
    cases e3 : writesD dw with
    | false =>
      walk_at "go"
      exact e_raise T.e_BadWrites.o (bad.w eo (by unfold seenOk; rw [e1, e2]; rfl) e3 _ s13)
    | true =>
    obtain ⟨gs, rfl⟩ := gs_of e1
    obtain ⟨rs, rfl⟩ := rs_of e2
    obtain ⟨ws, rfl⟩ := ws_of e3
    have dOk : DataOk gs rs ws := ⟨e1, e2, e3, ar.zk, ar.zr, ar.zw⟩
    obtain ⟨e, rfl⟩ : ∃ e, d = .int e := by
      cases d with
      | int e => exact ⟨e, rfl⟩
      | _ => cases eo
    cases hx
    have me : e ∈ c.uw.map (·.1) := of_decide_eq_true eo
    obtain ⟨vq, y, hy, ey⟩ := snap_of me
    obtain ⟨b0, b1⟩ := ar.uw y hy
    rw [ey] at b0 b1
    have hk3 := Dq.nf _ _ (nl_gs gs) (hk.same s13)
    have hr3 := Dq.nf _ _ (nl_rs rs) (hrr.same s13)
    have hw3 := Dq.nf _ _ (nl_ws ws) (hw.same s13)
    have h3 := h.same s13
    have fin : ∀ nm, nm = (if ws = [] then none else some (c.last + 1)) → NumOk (snapOf c e) nm ws := fun nm en => by
      by_cases z : ws = []
      · rw [if_pos z] at en
        exact .inl ⟨z, en⟩
      · rw [if_neg z] at en
        exact .inr ⟨z, _, en, by omega⟩
    obtain ⟨aw, xw, rfl, hSw, hAw⟩ := dq_tupl hw3
    obtain ⟨lw, _⟩ := all_map hAw
    walk_at "go"
    refine s_cut (fun σ4 H4 => H4 = H3 ∧ σ4 = [some (.ref p), some (.int e), some vk, some vr, some (.ref aw), some (markV (if ws = [] then none else some (c.last + 1)))]) ?_ ?_
    · walk_at "go"
      refine i_d (fun z => ?_) (fun z => ?_)
      · have z' : ws ≠ [] := fun q => by
          rw [q] at lw
          have : xw.length = 0 := lw
          omega
        walk_at "go"
        refine o_fld h3.ob T.k_Check.cl T.n_Check__last (cf_l _ _ _ _ _) ?_
        walk_at "go"
        rw [if_neg z']
        exact ⟨rfl, rfl⟩
      · have z' : ws = [] := by
          cases ws with
          | nil => rfl
          | cons q qs =>
            rw [List.length_cons] at lw
            omega
        walk_at "go"
        rw [if_pos z']
        exact ⟨rfl, rfl⟩
    · rintro σ4 H4 ⟨rfl, rfl⟩
      walk_at "go"
      refine e_make ?_
      walk_at "go"
      refine e_dgetT ?_
      walk_at "go"
      refine o_fld h3.ob T.k_Check.cl T.n_Check__under_way (cf_u _ _ _ _ _) ?_
      walk_at "go"
      refine ⟨c.u, _, rfl, vq ▸ DGet.k (k := Sum.inl e) h3.hu, ?_⟩
      walk_at "go"
      intro a dx na ndx ne
      have s4 : Same H4 (upd (upd H4 dx (.own a)) a (.ins T.C_Dealing dx [])) := fun x o e => by
        rw [upd_ne (ne_of_none e na), upd_ne (ne_of_none e ndx)]; exact e
      have ha : upd (upd H4 dx (.own a)) a (.ins T.C_Dealing dx []) a = some (.ins T.C_Dealing dx []) := upd_same
      generalize upd (upd H4 dx (.own a)) a (.ins T.C_Dealing dx []) = H5 at *
      show sp_deal K T.C_Dealing [.ref a, .int (snapOf c e), markV (if ws = [] then none else some (c.last + 1)), vk, vr, .ref aw] _ _ _
      refine ⟨a, snapOf c e, _, gs, rs, ws, vk, vr, .ref aw, rfl, ⟨dx, ha⟩, b0, fin _ rfl, hk3.same s4, hr3.same s4, hw3.same s4, dOk, fun H6 o6 hD => ⟨rfl, ?_⟩⟩
      exact k e gs rs ws rfl eo rfl rfl rfl dOk H6 a (fun b o e => o6 b o (ne_of_none e (free_ s13 na)) (s4 b o (s13 b o e))) (free_ s13 na) hD
/-! ### who leads to whom -/
def nxD (c : Ck) (e : Int) (D : Dl) : List (Int × List Int) := match c.dl with
  | [] => [(e, [])]
  | (k, _, D1) :: _ => [(k, if tiedB D1 D then [e] else []), (e, if tiedB D D1 then [k] else [])]
def Small (c : Ck) (e : Int) : Prop := (c.dl = [] ∧ c.nx = []) ∨ ∃ k a1 D1 r1, c.dl = [(k, a1, D1)] ∧ c.nx = [(k, r1, [])] ∧ e ≠ k
def sp_nexts (C Cd : Addr) (K : PySem.W.Frag) : Sp := fun vs H Q _ => ∃ (p : Addr) (c : Ck) (e : Int) (a : Addr) (D : Dl), vs = [.ref p, .int e, .ref a] ∧ CkAt K C Cd H p c ∧ Small c e ∧ DlAt K Cd H a D ∧ D.ws.length ≤ 1000 ∧
  ∀ (n' : Addr) (H' : Hp) (nx' : List (Int × Addr × List Int)), Same H H' → H n' = none → H' n' = some (.dK (kR nx')) → (∀ x ∈ nx', H' x.2.1 = some (.lst (x.2.2.map V.int))) → nx'.map dat = nxD c e D → Q (.ref n') H'
theorem ok_Check__nexts_with (T : Txt K mg) : FnOk P w K mg base CX0 4 T.m_Check__nexts_with.f T.m_Check__nexts_with.fd ["self", "entry", "dealing"] ((sp_nexts T.C_Check T.C_Dealing K)) := by
  refine T.m_Check__nexts_with.F.ok sc_Check__nexts_with (fun vs H Q E h => ?_) (fun cdv A outer s H vs Q E hr h => ?_)
  · obtain ⟨p, c, e, a, D, rfl, _⟩ := h
    rfl
  · obtain ⟨p, c, e, a, D, rfl, h, sm, hD, lD, k⟩ := h
    refine ⟨_, (pss_cons (ps_set (i := 3) sc_Check__nexts_with.nd rfl (Or.inl rfl) pe_dnewK)
    (pss_cons (ps_lock (ps_for PassesOwn.never rfl (pi_items (peFld (K := K) (pv 0) rfl)) (pgTup (K := K) (n := 2) (pg_tup (n := 2) rfl (pgs_cons (pg_name (i := 4) sc_Check__nexts_with.nd rfl (Or.inl rfl)) (pgs_cons (pg_name (i := 5) sc_Check__nexts_with.nd rfl (Or.inl rfl)) pgs_nil))))
      (pss_cons (ps_dput (hu_of hr) (pv 3) (pv 4) (pe_callTy (cListOf (K := K)) (by rfl) T.z_list (by decide +kernel) (pa_cons (pv 5) pa_nil)) rfl)
    (pss_one (ps_if (ptTruth (K := K) (pe_call (ok_is_tied T) (hr.mono (by decide)) (by rfl) T.is_tied.g T.is_tied.F.kp T.is_tied.b .nil pass0 (pa_cons (pe_dget (hu_of hr) (peFld (K := K) (pv 0) rfl) (pv 4) (fun _ _ => rfl)) (pa_cons (pv 2) pa_nil))) (by intro _; rfl)) (pss_one (ps_dput (hu_of hr) (pv 3) (pv 4) (pe_callB (cSortI (K := K)) (by rfl) T.z_sorted (by decide +kernel) (pa_cons (pe_op oAdd (pv 5) (pe_lst (pa_cons (pv 1) pa_nil))) pa_nil)) rfl)) pss_nil)))))
    (pss_cons (ps_dput (hu_of hr) (pv 3) (pv 1) (pe_lc (own := [("other", 4)]) rfl sc_Check__nexts_with.nd (piL (K := K) (pe_callB (call_sortedDI rfl) (by rfl) T.z_sorted (by decide +kernel) (pa_cons (peFld (K := K) (pv 0) rfl) pa_nil))) (blkOk_by (N := n_Check__nexts_with) (sc := defScope s_Check__nexts_with) (by decide +kernel)) (fun _ _ _ _ _ => (pg_name (i := 4) sc_Check__nexts_with.nd rfl (Or.inl rfl))) (fun _ _ _ _ _ => (pts_one (ptTruth (K := K) (pe_call (ok_is_tied T) (hr.mono (by decide)) (by rfl) T.is_tied.g T.is_tied.F.kp T.is_tied.b .nil pass0 (pa_cons (pv 2) (pa_cons (pe_dget (hu_of hr) (peFld (K := K) (pv 0) rfl) (pv 4) (fun _ _ => rfl)) pa_nil))) (by intro _; rfl)))) (fun _ _ _ _ _ => (pv 4))) rfl)
    (pss_one (ps_ret (pv 3)))))), ?_⟩
    walk_at "go"
    refine e_dnew fun n' H1 n1 s1 h1 => ?_
    have hC1 := h.same s1
    have pu := h.pu
    have nC : n' ≠ c.n := fun z => by rw [z, h.hn] at n1; cases n1
    walk_at "go"
    refine ⟨c.n, .dK (kR c.nx), hC1.hn, trivial, fun od => ?_⟩
    have frz : upd H1 c.n (.frz od (.dK (kR c.nx))) c.n = some (.frz od (.dK (kR c.nx))) := upd_same
    have off : ∀ x, x ≠ c.n → upd H1 c.n (.frz od (.dK (kR c.nx))) x = H1 x := fun x z => upd_ne z
    have bX : BtX (ckF p c) H (upd H1 c.n (.frz od (.dK (kR c.nx)))) := fun b o m e => (upd_ne fun z => m (by rw [z]; simp)).trans (s1 b o e)
    generalize upd H1 c.n (.frz od (.dK (kR c.nx))) = L at *
    obtain ⟨fL, gL⟩ := h.fr bX
    walk_at "go"
    refine i_items0 ?_
    walk_at "go"
    obtain ⟨dx1, eo1⟩ := hC1.ob
    refine o_fld ⟨dx1, (off _ pu.2.2).trans eo1⟩ T.k_Check.cl T.n_Check__nexts (cf_n _ _ _ _ _) ?_
    refine ⟨c.n, od, _, rfl, frz, ?_⟩
    have fin : ∀ (G : Hp) (nxA : List (Int × Addr × List Int)), G c.n = some (.frz od (.dK (kR c.nx))) → (∀ b o, b ≠ c.n → b ≠ n' → H1 b = some o → G b = some o) → G n' = some (.dK (kR nxA)) → (∀ x ∈ nxA, G x.2.1 = some (.lst (x.2.2.map V.int))) →
        (Same H1 (upd (upd G c.n (.dK (kR c.nx))) n' (.dK [])) → True) ∧ Same H (upd G c.n (.dK (kR c.nx))) ∧ upd G c.n (.dK (kR c.nx)) n' = some (.dK (kR nxA)) ∧ (∀ x ∈ nxA, upd G c.n (.dK (kR c.nx)) x.2.1 = some (.lst (x.2.2.map V.int))) := fun G nxA g1 g2 g3 g4 => by
      refine ⟨fun _ => trivial, fun b o eb => ?_, (upd_ne nC).trans g3, fun x m => (upd_ne fun z => ?_).trans (g4 x m)⟩
      · by_cases z : b = c.n
        · rw [z, h.hn] at eb; cases eb
          rw [z]; exact upd_same
        · rw [upd_ne z]
          exact g2 b o z (ne_of_none eb n1) (s1 b o eb)
      · have := g4 x m
        rw [z, g1] at this; cases this
    have hn1L : L n' = some (.dK []) := (off _ nC).trans h1
    rcases sm with ⟨ed, en⟩ | ⟨kk, a1, D1, r1, ed, en, ne⟩
    · refine l_it (walk_items (kvs := kR c.nx)) (fun i σ G => G = L ∧ ∃ y4 y5 : Option V, σ = [some (.ref p), some (.int e), some (.ref a), some (.ref n'), y4, y5]) ⟨rfl, none, none, rfl⟩ (fun i σ G hi z => z.1 ▸ frz) (fun σ G z => ?_) (fun i x σ G G2 hi z y => ?_)
      rotate_left 1
      · rw [en] at hi
        exact absurd hi (Nat.not_lt_zero i)
      · obtain ⟨rfl, y4, y5, rfl⟩ := z
        refine ⟨frz, ?_⟩
        obtain ⟨_, s3, g3, _⟩ := fin G [] frz (fun b o z1 _ eb => (off b z1).trans eb) hn1L (fun x m => nomatch m)
        generalize upd G c.n (.dK (kR c.nx)) = H3 at *
        have hC3 := h.same s3
        walk_at "go"
        refine o_fld hC3.ob T.k_Check.cl T.n_Check__dealings (cf_d _ _ _ _ _) ?_
        walk_at "go"
        refine ⟨c.d, kR c.dl, c.dl.map (·.1), rfl, .inl hC3.hd, kR_keys _, by rw [ed]; simp, fun ys r2 pm so nr2 => ?_⟩
        have ey : ys = [] := by rw [ed] at pm; exact List.perm_nil.mp pm
        subst ey
        have s4 : Same H3 (upd H3 r2 (.lst (([] : List Int).map V.int))) := Same.new nr2
        have h4 : upd H3 r2 (.lst (([] : List Int).map V.int)) r2 = some (.lst (([] : List Int).map V.int)) := upd_same
        generalize upd H3 r2 (.lst (([] : List Int).map V.int)) = H4 at *
        refine i_lst (slO h4) ?_
        refine c_lst (xs := ([] : List Int).map V.int) (fun i acc G => Same H4 G ∧ acc = []) (fun D hD => ⟨upd_free (Same.refl _) hD, rfl⟩) (fun i acc G hi p => slO (at_ p.1 h4)) (fun acc r5 H5 hr5 h5 p => ?_) (fun _ => rfl) (fun i v acc G D hv hD hp p => by simp at hv)
        obtain ⟨s5, rfl⟩ := p
        have g5 := (s4.trans s5) _ _ g3
        walk_at "go"
        refine ⟨n', _, rfl, DPut.k (k := Sum.inl e) g5 (lt_size (by simp [kR])), ?_⟩
        have s6 : Same H (upd H5 n' (.dK (putK (kR ([] : List (Int × Addr × List Int))) (Sum.inl e) (.ref r5)))) := fun b o eb => (upd_ne (ne_of_none eb n1)).trans ((s4.trans s5) b o (s3 b o eb))
        walk_at "go"
        refine k n' _ [(e, r5, [])] s6 n1 (by rw [upd_same]; rfl) (fun x m => ?_) (by unfold nxD; rw [ed]; rfl)
        rw [List.mem_singleton.mp m]
        exact (upd_ne fun z => by
          have z : r5 = n' := z
          rw [z, g5] at h5; cases h5).trans h5
    · have lk : (kR c.nx).length = 1 := by rw [en]; rfl
      have hdlm : (kk, a1, D1) ∈ c.dl := by rw [ed]; exact List.mem_cons_self
      have hnxm : (kk, r1, ([] : List Int)) ∈ c.nx := by rw [en]; exact List.mem_cons_self
      have vdl : valV (kR c.dl) (Sum.inl kk) = some (.ref a1) := by rw [ed]; exact valV_pos rfl
      refine l_it (walk_items (kvs := kR c.nx)) (fun i σ G => (∀ b o, b ≠ n' → L b = some o → G b = some o) ∧ ∃ (y4 y5 : Option V) (nxA : List (Int × Addr × List Int)), σ = [some (.ref p), some (.int e), some (.ref a), some (.ref n'), y4, y5] ∧ G n' = some (.dK (kR nxA)) ∧ (∀ x ∈ nxA, G x.2.1 = some (.lst (x.2.2.map V.int))) ∧ ((i = 0 ∧ nxA = []) ∨ (i = 1 ∧ nxA.map dat = [(kk, if tiedB D1 D then [e] else [])]))) ⟨fun _ _ _ z => z, none, none, [], rfl, hn1L, fun x m => (nomatch m), .inl ⟨rfl, rfl⟩⟩ (fun i σ G hi z => z.1 _ _ nC.symm frz) (fun σ G z => ?_) (fun i x σ G G2 hi z y => ?_)
      · obtain ⟨o3, y4, y5, nxA, rfl, gA, rA, cs⟩ := z
        rw [lk] at cs
        have eA : nxA.map dat = [(kk, if tiedB D1 D then [e] else [])] := cs.elim (fun q => absurd q.1 (by decide)) fun q => q.2
        have frzG := o3 _ _ nC.symm frz
        refine ⟨frzG, ?_⟩
        obtain ⟨_, s3, g3, r3⟩ := fin G nxA frzG (fun b o z1 z2 eb => o3 b o z2 ((off b z1).trans eb)) gA rA
        clear fin gA rA o3 frzG
        generalize upd G c.n (.dK (kR c.nx)) = H3 at *
        have hC3 := h.same s3
        walk_at "go"
        refine o_fld hC3.ob T.k_Check.cl T.n_Check__dealings (cf_d _ _ _ _ _) ?_
        walk_at "go"
        refine ⟨c.d, kR c.dl, c.dl.map (·.1), rfl, .inl hC3.hd, kR_keys _, by rw [ed]; simp, fun ys r2 pm so nr2 => ?_⟩
        have ey : ys = [kk] := by rw [ed] at pm; exact List.perm_singleton.mp pm
        subst ey
        have s4 : Same H3 (upd H3 r2 (.lst ([kk].map V.int))) := Same.new nr2
        have h4 : upd H3 r2 (.lst ([kk].map V.int)) r2 = some (.lst ([kk].map V.int)) := upd_same
        generalize upd H3 r2 (.lst ([kk].map V.int)) = H4 at *
        refine i_lst (slO h4) ?_
        refine c_lst (xs := [kk].map V.int) (fun i acc G => Same H4 G ∧ ((i = 0 ∧ acc = []) ∨ (i = 1 ∧ acc = (if tiedB D D1 then [kk] else []).map V.int))) (fun D9 hD9 => ⟨upd_free (Same.refl _) hD9, .inl ⟨rfl, rfl⟩⟩) (fun i acc G hi p => slO (at_ p.1 h4)) (fun acc r5 H5 hr5 h5 p => ?_) (fun _ => rfl) (fun i v acc G D9 hv hD9 hp p => ?_)
        · obtain ⟨s5, cs⟩ := p
          have ea : acc = (if tiedB D D1 then [kk] else []).map V.int := cs.elim (fun q => absurd q.1 (by simp)) fun q => q.2
          subst ea
          have g5 := (s4.trans s5) _ _ g3
          have lA : nxA.length = 1 := by simpa using congrArg List.length eA
          have lkA : (kR nxA).length ≤ 10 := by unfold kR; rw [List.length_map]; omega
          walk_at "go"
          refine ⟨n', _, rfl, DPut.k (k := Sum.inl e) g5 (lt_size (by omega)), ?_⟩
          have s6 : Same H (upd H5 n' (.dK (putK (kR nxA) (Sum.inl e) (.ref r5)))) := fun b o eb => (upd_ne (ne_of_none eb n1)).trans ((s4.trans s5) b o (s3 b o eb))
          have keyA : ∀ x ∈ nxA, x.1 = kk := fun x m => by
            have : dat x ∈ nxA.map dat := List.mem_map.mpr ⟨x, m, rfl⟩
            rw [eA] at this
            exact congrArg Prod.fst (List.mem_singleton.mp this)
          walk_at "go"
          refine k n' _ (nxA ++ [(e, r5, if tiedB D D1 then [kk] else [])]) s6 n1 ?_ (fun x m => ?_) ?_
          · rw [upd_same, putK_new]
            · unfold kR; rw [List.map_append]; rfl
            · intro q hq z
              obtain ⟨x, hx, rfl⟩ := List.mem_map.mp hq
              exact ne ((Sum.inl.inj z).symm.trans (keyA x hx))
          · have off5 : ∀ z, H5 z = some (.lst (x.2.2.map V.int)) → z ≠ n' := fun z q1 q2 => by rw [q2, g5] at q1; cases q1
            rcases List.mem_append.mp m with m | m
            · have := (s4.trans s5) _ _ (r3 x m)
              exact (upd_ne (off5 _ this)).trans this
            · rw [List.mem_singleton.mp m] at off5 ⊢
              exact (upd_ne (off5 _ h5)).trans h5
          · rw [List.map_append, eA]
            unfold nxD
            rw [ed]; rfl
        · obtain ⟨s5, cs⟩ := p
          have hi0 : i = 0 := by
            have := (List.getElem?_eq_some_iff.mp hv).1
            simp at this
            exact this
          subst hi0
          have ea : acc = [] := cs.elim (fun q => q.2) fun q => absurd q.1 (by decide)
          subst ea
          have ev : v = .int kk := (Option.some.inj hv).symm
          subst ev
          have hC5 := (hC3.same s4).same s5
          have hD5 := ((hD.same s3).same s4).same s5
          walk_at "go"
          refine e_dgetT ?_
          walk_at "go"
          refine o_fld hC5.ob T.k_Check.cl T.n_Check__dealings (cf_d _ _ _ _ _) ?_
          walk_at "go"
          refine ⟨c.d, _, rfl, vdl ▸ DGet.k (k := Sum.inl kk) hC5.hd, ?_⟩
          walk_at "go"
          obtain ⟨q1, q2⟩ := hC5.dls _ hdlm
          refine ⟨a, D, a1, D1, rfl, hD5, q1, lD, q2, fun H6 s6 => ?_⟩
          have hp6 := at_ s6 hp
          cases et : tiedB D D1 with
          | true =>
            walk_at "go"
            refine ⟨_, hp6, lt_size (by simp), _, upd_same, upd_free (s5.trans s6) hD9, .inr ⟨rfl, ?_⟩⟩
            rw [if_pos rfl]; rfl
          | false =>
            walk_at "go"
            refine ⟨_, hp6, s5.trans s6, .inr ⟨rfl, ?_⟩⟩
            rw [if_neg Bool.false_ne_true]; rfl
      · obtain ⟨o3, y4, y5, nxA, rfl, gA, rA, cs⟩ := z
        rw [lk] at hi
        have hi0 : i = 0 := by omega
        subst hi0
        have ea : nxA = [] := cs.elim (fun q => q.2) fun q => absurd q.1 (by decide)
        subst ea
        obtain ⟨t, x, y, rfl, nt, rfl, ex, ey⟩ := y
        have eg : (kR c.nx)[0]? = some ((Sum.inl kk : Key), V.ref r1) := by rw [en]; rfl
        simp only [eg, Option.map_some] at ex ey
        obtain rfl := Option.some.inj ex
        obtain rfl := Option.some.inj ey
        have st : Same G (upd G t (.tup [kV (Sum.inl kk), V.ref r1])) := Same.new nt
        have ht : upd G t (.tup [kV (Sum.inl kk), V.ref r1]) t = some (.tup [.int kk, V.ref r1]) := upd_same
        generalize upd G t (.tup [kV (Sum.inl kk), V.ref r1]) = G2 at *
        have rN : r1 ≠ n' := fun z => by
          have := h.nxs _ hnxm
          rw [z, n1] at this; cases this
        have hr1 : G2 r1 = some (.lst (([] : List Int).map V.int)) := st _ _ (o3 _ _ rN (gL _ hnxm))
        have hr1s : SqL K G2 r1 (([] : List Int).map V.int) := slO hr1
        have gA2 := st _ _ gA
        have o4 : ∀ b o, b ≠ n' → L b = some o → G2 b = some o := fun b o z eb => st _ _ (o3 b o z eb)
        refine g_pair ht ?_
        walk_at "go"
        refine n_new0 fun r2 G3 n3 sG3 h3 => ?_
        have gA3 := sG3 _ _ gA2
        walk_at "go"
        refine ⟨n', _, rfl, DPut.k (k := Sum.inl kk) gA3 (lt_size (by simp [kR])), ?_⟩
        have e0 : putK (kR ([] : List (Int × Addr × List Int))) (Sum.inl kk) (.ref r2) = kR [(kk, r2, ([] : List Int))] := rfl
        rw [e0]
        have gA4 : upd G3 n' (.dK (kR [(kk, r2, ([] : List Int))])) n' = some (.dK (kR [(kk, r2, ([] : List Int))])) := upd_same
        have o5 : ∀ b o, b ≠ n' → L b = some o → upd G3 n' (.dK (kR [(kk, r2, ([] : List Int))])) b = some o := fun b o z eb => (upd_ne z).trans (sG3 _ _ (o4 b o z eb))
        have hr2 : upd G3 n' (.dK (kR [(kk, r2, ([] : List Int))])) r2 = some (.lst (([] : List Int).map V.int)) := (upd_ne fun z => by rw [z, gA3] at h3; cases h3).trans h3
        generalize upd G3 n' (.dK (kR [(kk, r2, ([] : List Int))])) = G4 at *
        have bL : BtX (n' :: ckF p c) H G4 := fun b o m eb => o5 b o (fun z => m (by rw [z]; simp)) (bX b o (fun z => m (List.mem_cons_of_mem _ z)) eb)
        have tupK : ∀ a xs, SqT K H a xs → SqT K G4 a xs := fun a xs s => by
          have sL := btx_st bX h.ntp s
          have : BtX [n'] L G4 := fun b o m eb => o5 b o (by simpa using m) eb
          exact btx_st this (fun x m => by rw [List.mem_singleton.mp m]; exact .inl ⟨_, hn1L⟩) sL
        have insK : ∀ {b : Addr} {C : Addr} {dx : Addr} {fs}, H b = some (.ins C dx fs) → b ≠ p → G4 b = some (.ins C dx fs) := fun {b C dx fs} eb np => bL b _ (by
          simp only [List.mem_cons, List.not_mem_nil, or_false, not_or]
          refine ⟨fun z => ?_, np, fun z => ?_, fun z => ?_, fun z => ?_⟩ <;> rw [z] at eb
          · rw [n1] at eb; cases eb
          · rw [h.hu] at eb; cases eb
          · rw [h.hd] at eb; cases eb
          · rw [h.hn] at eb; cases eb) eb
        have dlK : ∀ {b : Addr} {F : Dl}, DlAt K T.C_Dealing H b F → DlAt K T.C_Dealing G4 b F := fun {b F} hF => by
          refine hF.mv (fun o eb => ?_) tupK
          obtain ⟨vg, vr, vw, ⟨dy, e2⟩, _⟩ := hF.ex
          rw [e2] at eb
          obtain rfl := Option.some.inj eb
          refine insK e2 fun z => ?_
          obtain ⟨dz, e3⟩ := h.ob
          rw [z, e3] at e2
          have e2 := Option.some.inj e2
          injection e2 with _ _ q
          have q1 : (["_last", "_many", "_under_way", "_dealings", "_nexts"] : List Str) = (["snapshot", "number", "gets", "ranges", "writes"] : List Str) := congrArg (List.map Prod.fst) q
          exact absurd q1 (by decide +kernel)
        have obG : InsAt T.C_Check G4 p (cf c.last c.many c.u c.d c.n) := by
          obtain ⟨dz, e3⟩ := h.ob
          refine ⟨dz, o5 _ _ (ne_of_none e3 n1) ((off _ pu.2.2).trans (s1 _ _ e3))⟩
        have hdG : G4 c.d = some (.dK (kR c.dl)) := o5 _ _ (ne_of_none h.hd n1) ((off _ h.dn).trans (s1 _ _ h.hd))
        obtain ⟨q1, q2⟩ := h.dls _ hdlm
        walk_at "go"
        refine e_dgetT ?_
        walk_at "go"
        refine o_fld obG T.k_Check.cl T.n_Check__dealings (cf_d _ _ _ _ _) ?_
        walk_at "go"
        refine ⟨c.d, _, rfl, vdl ▸ DGet.k (k := Sum.inl kk) hdG, ?_⟩
        walk_at "go"
        refine ⟨a1, D1, a, D, rfl, dlK q1, dlK hD, q2, lD, fun G5 s5 => ?_⟩
        have gA5 := s5 _ _ gA4
        have hr25 := s5 _ _ hr2
        cases et : tiedB D1 D with
        | false =>
          walk_at "go"
          refine ⟨fun b o z eb => s5 _ _ (o5 b o z eb), _, _, [(kk, r2, [])], rfl, gA5, fun x m => ?_, .inr ⟨rfl, ?_⟩⟩
          · rw [List.mem_singleton.mp m]; exact hr25
          · rw [if_neg Bool.false_ne_true]; rfl
        | true =>
          have hr15 := s5 _ _ (o5 _ _ rN (gL _ hnxm))
          walk_at "go"
          refine n_new (le_size (by simp)) fun r6 G6 n6 s6 h6 => ?_
          refine o_cat (s6 _ _ hr15) h6 (by simp) ?_
          refine n_new0 fun r7 G7 n7 s7 h7 => ?_
          have h7 : G7 r7 = some (.lst ([e].map V.int)) := h7
          walk_at "go"
          refine ⟨r7, [e], rfl, slO h7, fun ns' r8 pm so nr8 => ?_⟩
          have ens : ns' = [e] := List.perm_singleton.mp pm
          subst ens
          have s8 : Same G7 (upd G7 r8 (.lst ([e].map V.int))) := Same.new nr8
          have h8 : upd G7 r8 (.lst ([e].map V.int)) r8 = some (.lst ([e].map V.int)) := upd_same
          generalize upd G7 r8 (.lst ([e].map V.int)) = G8 at *
          have s58 := s6.trans (s7.trans s8)
          have gA8 := s58 _ _ gA5
          walk_at "go"
          refine ⟨n', _, rfl, DPut.k (k := Sum.inl kk) gA8 (lt_size (by simp [kR])), ?_⟩
          have e9 : putK (kR [(kk, r2, ([] : List Int))]) (Sum.inl kk) (.ref r8) = kR [(kk, r8, [e])] := by
            unfold putK kR
            simp
          rw [e9]
          refine ⟨fun b o z eb => (upd_ne z).trans (s58 _ _ (s5 _ _ (o5 b o z eb))), _, _, [(kk, r8, [e])], rfl, upd_same, fun x m => ?_, .inr ⟨rfl, ?_⟩⟩
          · rw [List.mem_singleton.mp m]
            exact (upd_ne fun z => by
              have z : r8 = n' := z
              rw [z, gA8] at h8; cases h8).trans h8
          · rw [if_pos rfl]; rfl
end



section
variable {P : Program} {w : World} {K : PySem.W.Frag} {mg : Str → Option Value} {base : Heap}
/-! ### a way back, a ring -/
def nextV (ch : List Int) (i : Nat) : V := if h : i < ch.length then .int ch[i] else .non
theorem e_tr {te : TE} {σ : L2.St} {H : Hp} {Q : VK} (h : te σ H fun v H1 => ∃ (a : Addr) (xs : List V), v = .ref a ∧ SqL K H1 a xs ∧ ∀ q, H1 q = none → Q (.ref q) (upd H1 q (.tup xs.reverse))) : tTupRev K te σ H Q := h
def sp_way : Sp := fun vs H Q _ => ∃ (q : Addr) (kvs : List (Key × V)) (ch : List Int), vs = [nextV ch 0, .ref q] ∧ H q = some (.dK kvs) ∧ ch.length ≤ 100 ∧ (∀ (i : Nat) (h : i < ch.length), valV kvs (Sum.inl ch[i]) = some (nextV ch (i + 1))) ∧ ∀ t H', Same H H' → H' t = some (.tup (ch.reverse.map V.int)) → Q (.ref t) H'
theorem ok_way_to (T : Txt K mg) : FnOk P w K mg base CX0 1 T.way_to.f T.way_to.fd ["entry", "came"] ((sp_way)) := by
  refine T.way_to.F.ok sc_way_to (fun vs H Q E h => ?_) (fun cdv A outer s H vs Q E hr h => ?_)
  · obtain ⟨q, kvs, ch, rfl, _⟩ := h
    rfl
  · obtain ⟨q, kvs, ch, rfl, hq, hl, hv, k⟩ := h
    refine ⟨_, (pss_cons (ps_set (i := 2) sc_way_to.nd rfl (Or.inl rfl) (pe_lst pa_nil))
    (pss_cons (ps_while PassesOwn.never (pt_cmpR oNotN (pv 0) pe_non (nomark _)) (pss_cons (ps_expr (peApp (K := K) (pe_bm PySem.F.plainAttrs_list PySem.F.slot_list_append PySem.F.type_list_append mt_append (pv 2) (pa_cons (pv 0) pa_nil))))
    (pss_one (ps_set (i := 0) sc_way_to.nd rfl (Or.inl rfl) (pe_dget (hu_of hr) (pv 1) (pv 0) (fun _ _ => rfl))))))
    (pss_one (ps_ret (pe_tupRev rfl (by rfl) T.z_tuple (by rfl) T.z_reversed (pv 2)))))), ?_⟩
    walk_at "go"
    refine n_new (le_size (by simp)) fun wy H1 n1 s1 h1 => ?_
    have nq : wy ≠ q := fun z => by rw [z, hq] at n1; cases n1
    walk_at "go"
    refine while_m (fun m σ G => ∃ i, i ≤ ch.length ∧ m = ch.length - i ∧ σ = [some (nextV ch i), some (.ref q), some (.ref wy)] ∧ Same H G ∧ G wy = some (.lst ((ch.take i).map V.int))) ch.length ⟨0, Nat.zero_le _, rfl, rfl, s1, h1⟩ ?_
    rintro m σ G ⟨i, hi, rfl, rfl, sG, hG⟩
    by_cases hlt : i < ch.length
    · have e0 : nextV ch i = .int ch[i] := dif_pos hlt
      rw [e0]
      walk_at "go"
      refine ⟨fun σ' G' => ∃ y0, σ' = [some y0, some (.ref q), some (.ref wy)] ∧ y0 = nextV ch (i + 1) ∧ Same H G' ∧ G' wy = some (.lst ((ch.take (i + 1)).map V.int)), ?_, ?_⟩
      · rintro σ' G' ⟨y0, rfl, rfl, s', h'⟩
        exact ⟨ch.length - (i + 1), by omega, i + 1, hlt, rfl, rfl, s', h'⟩
      · walk_at "go"
        refine r_app hG (by simp; omega) fun G2 o2 h2 => ?_
        have hq2 : G2 q = some (.dK kvs) := o2 _ _ nq.symm (sG _ _ hq)
        have s2 : Same H G2 := fun b o e => o2 b o (ne_of_none e n1) (sG b o e)
        walk_at "go"
        refine e_dgetT ?_
        walk_at "go"
        refine ⟨q, _, rfl, (hv i hlt) ▸ DGet.k (k := Sum.inl ch[i]) hq2, ?_⟩
        walk_at "go"
        refine ⟨_, rfl, rfl, s2, ?_⟩
        rw [h2, List.take_add_one, List.getElem?_eq_getElem hlt, List.map_append]; rfl
    · have e0 : nextV ch i = .non := dif_neg hlt
      have ei : ch.take i = ch := List.take_of_length_le (by omega)
      rw [ei] at hG
      rw [e0]
      walk_at "go"
      refine e_tr ?_
      walk_at "go"
      refine ⟨wy, _, rfl, slO hG, fun t nt => ?_⟩
      rw [← List.map_reverse]
      walk_at "go"
      exact k t _ (sG.trans (Same.new nt)) upd_same
structure RingB (H : Hp) (kvs : List (Key × V)) (e k : Int) (ra rb : Addr) (Qn Qr : Prop) : Prop where
  ne : e ≠ k
  ra : H ra = some (.lst [.int k])
  vb : valV kvs (Sum.inl k) = some (.ref rb)
  cs : (H rb = some (.lst []) ∧ Qn) ∨ (H rb = some (.lst [.int e]) ∧ Qr)
def sp_ring : Sp := fun vs H Q _ => ∃ (e : Int) (nd : Addr) (kvs : List (Key × V)) (ra : Addr), vs = [.int e, .ref nd] ∧ H nd = some (.dK kvs) ∧ valV kvs (Sum.inl e) = some (.ref ra) ∧
  ((H ra = some (.lst []) ∧ ∀ H', Same H H' → Q .non H') ∨ ∃ k rb, RingB H kvs e k ra rb (∀ H', Same H H' → Q .non H') (∀ t H', Same H H' → Q (.ref t) H'))
def Turn2 (H G : Hp) (kvs : List (Key × V)) (e : Int) (ra x came : Addr) (Qn Qr : Prop) : Prop := (G x = some (.lst []) ∧ Qn) ∨ ∃ k rb, RingB H kvs e k ra rb Qn Qr ∧ G x = some (.lst [.int k]) ∧ G came = some (.dK [(Sum.inl e, .non), (Sum.inl k, .int e)])
theorem ok_ring_from (T : Txt K mg) : FnOk P w K mg base CX0 2 T.ring_from.f T.ring_from.fd ["start", "nexts"] ((sp_ring)) := by
  refine T.ring_from.F.ok sc_ring_from (fun vs H Q E h => ?_) (fun cdv A outer s H vs Q E hr h => ?_)
  · obtain ⟨e, nd, kvs, ra, rfl, _⟩ := h
    rfl
  · obtain ⟨e, nd, kvs, ra, rfl, hnd, va, k⟩ := h
    refine ⟨_, (pss_cons (ps_set (i := 2) sc_ring_from.nd rfl (Or.inl rfl) (pe_disp (pps_cons (pv 0) pe_non pps_nil) (by rfl) (by rfl) (fun z => by cases z) (by decide)))
    (pss_cons (ps_set (i := 3) sc_ring_from.nd rfl (Or.inl rfl) (pe_lst (pa_cons (pv 0) pa_nil)))
    (pss_cons (ps_while PassesOwn.never (ptTruth (K := K) (pv 3) (by intro _; rfl)) (pss_cons (ps_set (i := 4) sc_ring_from.nd rfl (Or.inl rfl) (pe_lst pa_nil))
    (pss_cons (ps_for PassesOwn.never rfl (piL (K := K) (pv 3)) (pg_name (i := 5) sc_ring_from.nd rfl (Or.inl rfl))
      (pss_one (ps_for PassesOwn.never rfl (piL (K := K) (pe_dget (hu_of hr) (pv 1) (pv 5) (fun _ _ => rfl))) (pg_name (i := 6) sc_ring_from.nd rfl (Or.inl rfl))
      (pss_cons (ps_if (pt_cmpR (oEq (K := K) hr.units) (pv 6) (pv 0) (nomark _)) (pss_one (ps_ret (pe_call (ok_way_to T) (hr.mono (by decide)) (by rfl) T.way_to.g T.way_to.F.kp T.way_to.b .nil pass0 (pa_cons (pv 5) (pa_cons (pv 2) pa_nil))))) pss_nil)
    (pss_one (ps_if (pt_cmp (pc_dnotin (hu_of hr) (pv 6) (pv 2))) (pss_cons (ps_dput (hu_of hr) (pv 2) (pv 6) (pv 5) rfl)
    (pss_one (ps_expr (peApp (K := K) (pe_bm PySem.F.plainAttrs_list PySem.F.slot_list_append PySem.F.type_list_append mt_append (pv 4) (pa_cons (pv 6) pa_nil)))))) pss_nil))))))
    (pss_one (ps_set (i := 3) sc_ring_from.nd rfl (Or.inl rfl) (pv 4))))))
    (pss_one (ps_ret pe_non))))), ?_⟩
    obtain ⟨Qn, eQn⟩ : ∃ Qn : Prop, Qn = ∀ H', Same H H' → Q .non H' := ⟨_, rfl⟩
    obtain ⟨Qr, eQr⟩ : ∃ Qr : Prop, Qr = ∀ t H', Same H H' → Q (.ref t) H' := ⟨_, rfl⟩
    rw [← eQn, ← eQr] at k
    walk_at "go"
    refine e_disp fun came H1 n1 s1 h1 => ?_
    walk_at "go"
    refine disp_end [(Sum.inl e, .non)] h1 rfl (by show 1 ≤ 15; decide) fun H2 o2 h2 => ?_
    have h2 : H2 came = some (.dK [(Sum.inl e, .non)]) := h2
    have s2 : Same H H2 := fun b o z => o2 b o (ne_of_none z n1) (s1 b o z)
    walk_at "go"
    refine n_new (le_size (by simp)) fun row0 H3 n3 s3 h3 => ?_
    have c3 := s3 _ _ h2
    have s03 := s2.trans s3
    clear h1 h2 o2 s1
    walk_at "go"
    refine while_m (fun m σ G => ∃ (row : Addr) (y4 y5 y6 : Option V), σ = [some (.int e), some (.ref nd), some (.ref came), some (.ref row), y4, y5, y6] ∧ Same H G ∧ row ≠ came ∧ H row = none ∧ ((m = 2 ∧ G row = some (.lst [.int e]) ∧ G came = some (.dK [(Sum.inl e, .non)])) ∨ (m ≤ 1 ∧ Turn2 H G kvs e ra row came Qn Qr ∧ (m = 0 → G row = some (.lst []))))) 2 ⟨row0, none, none, none, rfl, s03, (fun z => by rw [z, c3] at h3; cases h3), free_ s2 n3, .inl ⟨rfl, h3, c3⟩⟩ ?_
    rintro m σ G ⟨row, y4, y5, y6, rfl, sG, rc, rn, cs⟩
    have hndG := sG _ _ hnd
    rcases cs with ⟨rfl, hrow, hcame⟩ | ⟨hm, t2, hz⟩
    · walk_at "go"
      refine ⟨fun σ' G' => ∃ (row : Addr) (y4 y5 y6 : Option V), σ' = [some (.int e), some (.ref nd), some (.ref came), some (.ref row), y4, y5, y6] ∧ Same H G' ∧ row ≠ came ∧ H row = none ∧ Turn2 H G' kvs e ra row came Qn Qr, ?_, ?_⟩
      · rintro σ' G' ⟨row', y4', y5', y6', rfl, s', rc', rn', t'⟩
        exact ⟨1, by omega, row', y4', y5', y6', rfl, s', rc', rn', .inr ⟨Nat.le_refl _, t', fun z => by cases z⟩⟩
      · walk_at "go"
        refine n_new (le_size (by simp)) fun fu G1 nf sf hf => ?_
        have fuH := free_ sG nf
        have fc : fu ≠ came := fun z => by rw [z, hcame] at nf; cases nf
        have fr : fu ≠ row := fun z => by rw [z, hrow] at nf; cases nf
        have hrow1 := sf _ _ hrow
        have hcame1 := sf _ _ hcame
        have sG1 := sG.trans sf
        walk_at "go"
        refine i_lst (slO hrow1) ?_
        refine l_lst (xs := [.int e]) (fun i σ G2 => ∃ (y5 y6 : Option V), σ = [some (.int e), some (.ref nd), some (.ref came), some (.ref row), some (.ref fu), y5, y6] ∧ Same H G2 ∧ G2 row = some (.lst [.int e]) ∧ ((i = 0 ∧ G2 fu = some (.lst []) ∧ G2 came = some (.dK [(Sum.inl e, .non)])) ∨ (i = 1 ∧ Turn2 H G2 kvs e ra fu came Qn Qr))) ⟨y5, y6, rfl, sG1, hrow1, .inl ⟨rfl, hf, hcame1⟩⟩ (fun i σ G2 hi z => ?_) (fun σ G2 z => ?_) (fun i v σ G2 hv z => ?_)
        · obtain ⟨_, _, _, _, hr2, _⟩ := z
          exact slO hr2
        · obtain ⟨y5, y6, rfl, s2', hr2, cs⟩ := z
          have t' := cs.elim (fun q => absurd q.1 (by simp)) fun q => q.2
          walk_at "go"
          exact ⟨fu, _, y5, y6, rfl, s2', fc, fuH, t'⟩
        · obtain ⟨y5, y6, rfl, s2', hr2, cs⟩ := z
          have hi0 : i = 0 := by
            have := (List.getElem?_eq_some_iff.mp hv).1
            simp at this
            exact this
          subst hi0
          obtain ⟨_, hf2, hc2⟩ := cs.elim id fun q => absurd q.1 (by decide)
          have ev : v = .int e := (Option.some.inj hv).symm
          subst ev
          walk_at "go"
          refine e_dgetT ?_
          walk_at "go"
          refine ⟨nd, _, rfl, va ▸ DGet.k (k := Sum.inl e) (s2' _ _ hnd), ?_⟩
          rcases k with ⟨hra, qn⟩ | ⟨kk, rb, B⟩
          · refine i_lst (slO (s2' _ _ hra)) ?_
            refine l_lst (xs := []) (fun i σ G3 => G3 = G2 ∧ ∃ y6, σ = [some (.int e), some (.ref nd), some (.ref came), some (.ref row), some (.ref fu), some (.int e), y6]) ⟨rfl, y6, rfl⟩ (fun i σ G3 hi z => z.1 ▸ slO (s2' _ _ hra)) (fun σ G3 z => ?_) (fun i v σ G3 hv z => by simp at hv)
            obtain ⟨rfl, y6, rfl⟩ := z
            exact ⟨_, y6, rfl, s2', hr2, .inr ⟨rfl, .inl ⟨hf2, qn⟩⟩⟩
          · have hra2 := s2' _ _ B.ra
            refine i_lst (slO hra2) ?_
            refine l_lst (xs := [.int kk]) (fun i σ G3 => ∃ y6, σ = [some (.int e), some (.ref nd), some (.ref came), some (.ref row), some (.ref fu), some (.int e), y6] ∧ Same H G3 ∧ G3 row = some (.lst [.int e]) ∧ ((i = 0 ∧ G3 fu = some (.lst []) ∧ G3 came = some (.dK [(Sum.inl e, .non)])) ∨ (i = 1 ∧ G3 fu = some (.lst [.int kk]) ∧ G3 came = some (.dK [(Sum.inl e, .non), (Sum.inl kk, .int e)])))) ⟨y6, rfl, s2', hr2, .inl ⟨rfl, hf2, hc2⟩⟩ (fun i σ G3 hi z => ?_) (fun σ G3 z => ?_) (fun i v σ G3 hv z => ?_)
            · obtain ⟨_, _, s3', _⟩ := z
              exact slO (s3' _ _ B.ra)
            · obtain ⟨y6, rfl, s3', hr3, cs⟩ := z
              obtain ⟨_, hf3, hc3⟩ := cs.elim (fun q => absurd q.1 (by simp)) id
              exact ⟨_, y6, rfl, s3', hr3, .inr ⟨rfl, .inr ⟨kk, rb, B, hf3, hc3⟩⟩⟩
            · obtain ⟨y6, rfl, s3', hr3, cs⟩ := z
              have hi0 : i = 0 := by
                have := (List.getElem?_eq_some_iff.mp hv).1
                simp at this
                exact this
              subst hi0
              obtain ⟨_, hf3, hc3⟩ := cs.elim id fun q => absurd q.1 (by decide)
              have ev : v = .int kk := (Option.some.inj hv).symm
              subst ev
              have nek := B.ne
              walk_at "go"
              refine ⟨came, _, rfl, DGet.k (k := Sum.inl kk) hc3, ?_⟩
              have nokk : (valV [((Sum.inl e : Key), V.non)] (Sum.inl kk)).isSome = false := by
                rw [val_none]
                · rfl
                · simp only [List.map_cons, List.map_nil, List.mem_singleton]
                  exact fun z => nek (Sum.inl.inj z).symm
              refine ⟨true, by rw [nokk]; rfl, ?_⟩
              rw [if_pos rfl]
              walk_at "go"
              refine ⟨came, _, rfl, DPut.k (k := Sum.inl kk) hc3 (lt_size (by simp)), ?_⟩
              have ep : putK [((Sum.inl e : Key), V.non)] (Sum.inl kk) (.int e) = [(Sum.inl e, .non), (Sum.inl kk, .int e)] := by
                rw [putK_new]
                · rfl
                · intro q hq z
                  rw [List.mem_singleton.mp hq] at z
                  exact nek (Sum.inl.inj z)
              rw [ep]
              have hf4 : upd G3 came (.dK [(Sum.inl e, .non), (Sum.inl kk, .int e)]) fu = some (.lst []) := (upd_ne fc).trans hf3
              have hr4 : upd G3 came (.dK [(Sum.inl e, .non), (Sum.inl kk, .int e)]) row = some (.lst [.int e]) := (upd_ne rc).trans hr3
              have hc4 : upd G3 came (.dK [(Sum.inl e, .non), (Sum.inl kk, .int e)]) came = some (.dK [(Sum.inl e, .non), (Sum.inl kk, .int e)]) := upd_same
              have s4 : Same H (upd G3 came (.dK [(Sum.inl e, .non), (Sum.inl kk, .int e)])) := fun b o z => (upd_ne (ne_of_none z n1)).trans (s3' b o z)
              generalize upd G3 came (.dK [(Sum.inl e, .non), (Sum.inl kk, .int e)]) = G4 at *
              walk_at "go"
              refine r_app hf4 (by simp) fun G5 o5 h5 => ?_
              exact ⟨_, rfl, fun b o z => o5 b o (ne_of_none z fuH) (s4 b o z), o5 _ _ fr.symm hr4, .inr ⟨rfl, h5, o5 _ _ fc.symm hc4⟩⟩
    · rcases t2 with ⟨hrow, qn⟩ | ⟨kk, rb, B, hrow, hcame⟩
      · rw [eQn] at qn
        walk_at "go"
        exact qn G sG
      · have hm1 : m = 1 := by
          have : m ≠ 0 := fun z => by
            have := hz z
            rw [hrow] at this; cases this
          omega
        subst hm1
        walk_at "go"
        refine ⟨fun σ' G' => ∃ (row : Addr) (y4 y5 y6 : Option V), σ' = [some (.int e), some (.ref nd), some (.ref came), some (.ref row), y4, y5, y6] ∧ Same H G' ∧ row ≠ came ∧ H row = none ∧ G' row = some (.lst []) ∧ Qn, ?_, ?_⟩
        · rintro σ' G' ⟨row', y4', y5', y6', rfl, s', rc', rn', r', q'⟩
          exact ⟨0, by omega, row', y4', y5', y6', rfl, s', rc', rn', .inr ⟨by omega, .inl ⟨r', q'⟩, fun _ => r'⟩⟩
        · walk_at "go"
          refine n_new (le_size (by simp)) fun fu G1 nf sf hf => ?_
          have fuH := free_ sG nf
          have fc : fu ≠ came := fun z => by rw [z, hcame] at nf; cases nf
          have hrow1 := sf _ _ hrow
          have hcame1 := sf _ _ hcame
          have sG1 := sG.trans sf
          walk_at "go"
          refine i_lst (slO hrow1) ?_
          refine l_lst (xs := [.int kk]) (fun i σ G2 => G2 = G1 ∧ ∃ (y5 y6 : Option V), σ = [some (.int e), some (.ref nd), some (.ref came), some (.ref row), some (.ref fu), y5, y6] ∧ (i = 1 → Qn)) ⟨rfl, y5, y6, rfl, fun z => by cases z⟩ (fun i σ G2 hi z => z.1 ▸ slO hrow1) (fun σ G2 z => ?_) (fun i v σ G2 hv z => ?_)
          · obtain ⟨rfl, y5, y6, rfl, qn⟩ := z
            walk_at "go"
            exact ⟨fu, _, y5, y6, rfl, sG1, fc, fuH, hf, qn rfl⟩
          · obtain ⟨rfl, y5, y6, rfl, _⟩ := z
            have hi0 : i = 0 := by
              have := (List.getElem?_eq_some_iff.mp hv).1
              simp at this
              exact this
            subst hi0
            have ev : v = .int kk := (Option.some.inj hv).symm
            subst ev
            walk_at "go"
            refine e_dgetT ?_
            walk_at "go"
            refine ⟨nd, _, rfl, B.vb ▸ DGet.k (k := Sum.inl kk) (sG1 _ _ hnd), ?_⟩
            rcases B.cs with ⟨hrb, qn⟩ | ⟨hrb, qr⟩
            · refine i_lst (slO (sG1 _ _ hrb)) ?_
              refine l_lst (xs := []) (fun i σ G3 => G3 = G2 ∧ ∃ y6, σ = [some (.int e), some (.ref nd), some (.ref came), some (.ref row), some (.ref fu), some (.int kk), y6]) ⟨rfl, y6, rfl⟩ (fun i σ G3 hi z => z.1 ▸ slO (sG1 _ _ hrb)) (fun σ G3 z => ?_) (fun i v σ G3 hv z => by simp at hv)
              obtain ⟨rfl, y6, rfl⟩ := z
              exact ⟨rfl, _, y6, rfl, fun _ => qn⟩
            · rw [eQr] at qr
              refine i_lst (slO (sG1 _ _ hrb)) ?_
              refine l_lst (xs := [.int e]) (fun i σ G3 => G3 = G2 ∧ i = 0 ∧ ∃ y6, σ = [some (.int e), some (.ref nd), some (.ref came), some (.ref row), some (.ref fu), some (.int kk), y6]) ⟨rfl, rfl, y6, rfl⟩ (fun i σ G3 hi z => z.1 ▸ slO (sG1 _ _ hrb)) (fun σ G3 z => absurd z.2.1 (by simp)) (fun i v σ G3 hv z => ?_)
              obtain ⟨rfl, rfl, y6, rfl⟩ := z
              have ev : v = .int e := (Option.some.inj hv).symm
              subst ev
              walk_at "go"
              refine ⟨came, _, [kk, e], rfl, hcame1, by simp, fun i hi => ?_, fun t H' s' ht => qr t H' (sG1.trans s')⟩
              match i, hi with
              | 0, _ =>
                show valV [((Sum.inl e : Key), V.non), (Sum.inl kk, .int e)] (Sum.inl kk) = some (.int e)
                rw [valV_neg (fun z => B.ne (Sum.inl.inj z)), valV_pos rfl]
              | 1, _ =>
                show valV [((Sum.inl e : Key), V.non), (Sum.inl kk, .int e)] (Sum.inl e) = some .non
                exact valV_pos rfl
end



section
variable {P : Program} {w : World} {K : PySem.W.Frag} {mg : Str → Option Value} {base : Heap}
/-! ### committed, or refused -/
def sp_need (T : Txt K mg) : Sp := fun vs H Q E => ∃ (e : Int) (nd : Addr) (kvs : List (Key × V)) (ra : Addr), vs = [.int e, .ref nd] ∧ H nd = some (.dK kvs) ∧ valV kvs (Sum.inl e) = some (.ref ra) ∧
  ((H ra = some (.lst []) ∧ ∀ H', Same H H' → Q .non H') ∨ ∃ k rb, RingB H kvs e k ra rb (∀ H', Same H H' → Q .non H') (∀ H' dd f, Same H H' → H' dd = none → E (.ref T.e_Refused.C) (some dd) (upd H' dd (.xd f))))
theorem RingB.mp {H : Hp} {kvs : List (Key × V)} {e k : Int} {ra rb : Addr} {Qn Qr Qn' Qr' : Prop} (h : RingB H kvs e k ra rb Qn Qr) (a : Qn → Qn') (b : Qr → Qr') : RingB H kvs e k ra rb Qn' Qr' :=
  ⟨h.ne, h.ra, h.vb, h.cs.imp (fun q => ⟨q.1, a q.2⟩) fun q => ⟨q.1, b q.2⟩⟩
theorem ok_need_no_ring (T : Txt K mg) : FnOk P w K mg base (L2.CX P w) 3 T.need_no_ring.f T.need_no_ring.fd ["entry", "nexts"] ((sp_need T)) := by
  refine T.need_no_ring.F.okX sc_need_no_ring (fun vs H Q E h => ?_) (fun cdv A outer s H vs Q E hr h => ?_)
  · obtain ⟨e, nd, kvs, ra, rfl, _⟩ := h
    rfl
  · obtain ⟨e, nd, kvs, ra, rfl, hnd, va, k⟩ := h
    refine ⟨_, (pss_cons (ps_set (i := 2) sc_need_no_ring.nd rfl (Or.inl rfl) (pe_call (ok_ring_from T) (hr.mono (by decide)) (by rfl) T.ring_from.g T.ring_from.F.kp T.ring_from.b .nil pass0 (pa_cons (pv 0) (pa_cons (pv 1) pa_nil))))
    (pss_one (ps_if (pt_cmpR oNotN (pv 2) pe_non (nomark _)) (pss_one (ps_raise rfl (takes_of rfl rfl rfl rfl) (pmk_oex T.e_Refused.o T.e_Refused.i T.e_Refused.t (ok_Refused_init T.m_Refused_init) (hr.mono (by decide)) T.m_Refused_init.b .nil pass0 (by rfl) T.e_Refused.g (pa_cons (pv 2) pa_nil)))) pss_nil))), ?_⟩
    have good : (∀ H', Same H H' → Q .non H') → ∀ H', Same H H' → (fun v H1 => if (!decide (v = V.non)) = true then False else Q .non H1) V.non H' := fun q H' s => by
      show (if (!decide (V.non = V.non)) = true then False else Q .non H')
      rw [if_neg (by simp)]
      exact q H' s
    clear good
    walk_at "go"
    refine ⟨e, nd, kvs, ra, rfl, hnd, va, ?_⟩
    refine k.imp (fun q => ⟨q.1, fun H' s' => ?_⟩) fun ⟨kk, rb, B⟩ => ⟨kk, rb, B.mp (fun q H' s' => ?_) (fun q t H' s' => ?_)⟩
    · have q := q.2 H' s'
      walk_at "go"
      exact q
    · have q := q H' s'
      walk_at "go"
      exact q
    · walk_at "go"
      refine e_mkO ?_
      walk_at "go"
      exact o_mkF T.e_Refused.o T.a_Refused_ring fun dd nd => q H' dd _ s' nd
def ringB (c : Ck) (e : Int) (D : Dl) : Bool := match c.dl with
  | [] => false
  | (_, _, D1) :: _ => tiedB D1 D && tiedB D D1
theorem dat_one {x : Int × Addr × List Int} {k : Int} {r : List Int} (h : dat x = (k, r)) : x = (k, x.2.1, r) := by
  obtain ⟨a, b, c⟩ := x
  have h1 : a = k := congrArg Prod.fst h
  have h2 : c = r := congrArg Prod.snd h
  rw [h1, h2]
theorem nx_one {nx' : List (Int × Addr × List Int)} {k : Int} {r : List Int} (h : nx'.map dat = [(k, r)]) : ∃ a, nx' = [(k, a, r)] := by
  match nx', h with
  | [x], h => exact ⟨x.2.1, by rw [dat_one (List.cons.inj h).1]⟩
theorem nx_two {nx' : List (Int × Addr × List Int)} {k k2 : Int} {r r2 : List Int} (h : nx'.map dat = [(k, r), (k2, r2)]) : ∃ a b, nx' = [(k, a, r), (k2, b, r2)] := by
  match nx', h with
  | [x, y], h =>
    have h2 := (List.cons.inj (List.cons.inj h).2).1
    exact ⟨x.2.1, y.2.1, by rw [dat_one (List.cons.inj h).1, dat_one h2]⟩
theorem ring_prem {c : Ck} {e : Int} {D : Dl} {G : Hp} {nx' : List (Int × Addr × List Int)} (sm : Small c e) (eq : nx'.map dat = nxD c e D) (rows : ∀ x ∈ nx', G x.2.1 = some (.lst (x.2.2.map V.int))) {Qn Qr : Prop} (qn : ringB c e D = false → Qn) (qr : ringB c e D = true → Qr) :
    ∃ ra, valV (kR nx') (Sum.inl e) = some (.ref ra) ∧ ((G ra = some (.lst []) ∧ Qn) ∨ ∃ k rb, RingB G (kR nx') e k ra rb Qn Qr) := by
  rcases sm with ⟨ed, en⟩ | ⟨kk, a1, D1, r1, ed, en, ne⟩
  · unfold nxD at eq
    rw [ed] at eq
    obtain ⟨ra, rfl⟩ := nx_one eq
    exact ⟨ra, valV_pos rfl, .inl ⟨rows _ List.mem_cons_self, qn (by unfold ringB; rw [ed])⟩⟩
  · unfold nxD at eq
    rw [ed] at eq
    obtain ⟨rb, ra, rfl⟩ := nx_two eq
    have ha := rows (e, ra, _) (List.mem_cons_of_mem _ List.mem_cons_self)
    have hb := rows (kk, rb, _) List.mem_cons_self
    have hdef : ringB c e D = (tiedB D1 D && tiedB D D1) := by unfold ringB; rw [ed]
    refine ⟨ra, ?_, ?_⟩
    · show valV [((Sum.inl kk : Key), V.ref rb), (Sum.inl e, .ref ra)] (Sum.inl e) = _
      rw [valV_neg (fun z => ne (Sum.inl.inj z).symm), valV_pos rfl]
    · cases e1 : tiedB D D1 with
      | false =>
        rw [e1] at ha hdef
        exact .inl ⟨ha, qn (by rw [hdef, Bool.and_false])⟩
      | true =>
        rw [e1] at ha hdef
        refine .inr ⟨kk, rb, ⟨ne, ha, valV_pos rfl, ?_⟩⟩
        cases e2 : tiedB D1 D with
        | false =>
          rw [e2] at hb hdef
          exact .inl ⟨hb, qn (by rw [hdef]; rfl)⟩
        | true =>
          rw [e2] at hb hdef
          exact .inr ⟨hb, qr (by rw [hdef]; rfl)⟩
structure Fine (T : Txt K mg) (H : Hp) (c : Ck) (d dk dr dw : PyData) (E : XK) (G : Int → Dl → Prop) : Prop where
  f : ∀ e gs rs ws, d = .int e → openB c d = true → dk = gsP gs → dr = rsP rs → dw = wsP ws → DataOk gs rs ws → Small c e ∧ (ringB c e (dealD c e gs rs ws) = false → G e (dealD c e gs rs ws)) ∧
    (ringB c e (dealD c e gs rs ws) = true → ∀ H' dd f, Same H H' → H' dd = none → E (.ref T.e_Refused.C) (some dd) (upd H' dd (.xd f)))
theorem ws_few {gs : List Str} {rs : List (Str × Str × List Str)} {ws : List (Str × Option Int)} (h : DataOk gs rs ws) : ws.length ≤ 1000 := by
  have := (sz_tup h.2.2.2.2.2).1
  rw [List.length_map] at this
  exact this
def sp_would (T : Txt K mg) : Sp := fun vs H Q E => ∃ (p : Addr) (c : Ck) (x vk vr vw : V) (d dk dr dw : PyData), vs = [.ref p, x, vk, vr, vw] ∧ CkAt K T.C_Check T.C_Dealing H p c ∧ Args K H c x vk vr vw d dk dr dw ∧ Bad T H c d dk dr dw E ∧
  Fine T H c d dk dr dw E fun _ _ => ∀ v H', Same H H' → Q v H'
theorem dq_int {N : Addr → Prop} {H : Hp} {x : V} {e : Int} (h : Dq K N H x (.int e)) : x = .int e := by cases h; rfl
theorem ok_Check_would_commit (T : Txt K mg) : FnOk P w K mg base (L2.CX P w) 10 T.m_Check_would_commit.f T.m_Check_would_commit.fd ["self", "entry", "keys", "ranges", "writes"] ((sp_would T)) := by
  refine T.m_Check_would_commit.F.okX sc_Check_would_commit (fun vs H Q E h => ?_) (fun cdv A outer s H vs Q E hr h => ?_)
  · obtain ⟨p, c, x, vk, vr, vw, d, dk, dr, dw, rfl, _⟩ := h
    rfl
  · obtain ⟨p, c, x, vk, vr, vw, d, dk, dr, dw, rfl, h, ar, bad, fine⟩ := h
    refine ⟨_, (pss_cons (ps_set (i := 5) sc_Check_would_commit.nd rfl (Or.inl rfl) (pe_meth (pv 0) T.k_Check.cl T.m_Check__dealing_of.i (ok_Check__dealing_of T) (hr.mono (by decide)) T.m_Check__dealing_of.b .nil (passes_call (takes_of rfl rfl rfl rfl) (fun _ _ _ _ h => h)) (pa_cons (pv 1) (pa_cons (pv 2) (pa_cons (pv 3) (pa_cons (pv 4) pa_nil))))))
    (pss_cons (ps_expr (pe_call (ok_need_no_ring T) (hr.mono (by decide)) (by rfl) T.need_no_ring.g T.need_no_ring.F.kp T.need_no_ring.b .nil (passes_call (takes_of rfl rfl rfl rfl) (fun _ _ _ _ h => h)) (pa_cons (pv 1) (pa_cons (pe_meth (pv 0) T.k_Check.cl T.m_Check__nexts_with.i (ok_Check__nexts_with T) (hr.mono (by decide)) T.m_Check__nexts_with.b .nil pass0 (pa_cons (pv 1) (pa_cons (pv 5) pa_nil))) pa_nil))))
    (pss_one (ps_ret (peFld (K := K) (pv 5) rfl))))), ?_⟩
    walk_at "go"
    refine m_call0 h.ob (cf_no _ _ _ _ _ (by decide +kernel)) ?_
    walk_at "go"
    refine ⟨p, c, x, vk, vr, vw, d, dk, dr, dw, rfl, h, ar, bad, fun e gs rs ws ed eo e1 e2 e3 ok H1 a s1 na hD => ?_⟩
    obtain ⟨sm, fg, fr⟩ := fine.f e gs rs ws ed eo e1 e2 e3 ok
    obtain ⟨Nx, hx⟩ := ar.x
    subst ed
    obtain rfl := dq_int hx
    have lw : (dealD c e gs rs ws).ws.length ≤ 1000 := ws_few ok
    obtain ⟨D, eD⟩ : ∃ D, D = dealD c e gs rs ws := ⟨_, rfl⟩
    rw [← eD] at fg fr hD lw
    walk_at "go"
    refine m_call0 (h.same s1).ob (cf_no _ _ _ _ _ (by decide +kernel)) ?_
    walk_at "go"
    refine ⟨p, c, e, a, D, rfl, h.same s1, sm, hD, lw, fun n' H2 nx' s2 nn hn rows eq => ?_⟩
    have s12 := s1.trans s2
    walk_at "go"
    obtain ⟨ra, va, cs⟩ := ring_prem (G := H2) sm eq rows (Qn := ringB c e D = false) (Qr := ringB c e D = true) id id
    refine ⟨e, n', _, ra, rfl, hn, va, ?_⟩
    have hD2 := hD.same s2
    have good : ringB c e D = false → ∀ H', Same H2 H' → _ := fun q H' s' => fg q
    refine cs.imp (fun q => ⟨q.1, fun H' s' => ?_⟩) fun ⟨kk, rb, B⟩ => ⟨kk, rb, B.mp (fun q H' s' => ?_) (fun q H' dd f s' nd => fr q H' dd f (s12.trans s') nd)⟩
    · obtain ⟨vg, vr', vw', hI, _⟩ := hD2.same s'
      walk_at "go"
      refine o_fld hI T.k_Dealing.cl T.n_Dealing_number (df_n _ _ _ _ _) ?_
      exact fg q.2 _ _ (s12.trans s')
    · obtain ⟨vg, vr', vw', hI, _⟩ := hD2.same s'
      walk_at "go"
      refine o_fld hI T.k_Dealing.cl T.n_Dealing_number (df_n _ _ _ _ _) ?_
      exact fg q _ _ (s12.trans s')
abbrev newLast (c : Ck) (D : Dl) : Int := match D.nm with
  | none => c.last
  | some n => n
abbrev nextC (c : Ck) (e : Int) (a : Addr) (D : Dl) (n' : Addr) (nx' : List (Int × Addr × List Int)) : Ck := ⟨newLast c D, c.many, c.u, c.d, n', c.uw.filter (fun x => decide (x.1 ≠ e)), c.dl ++ [(e, a, D)], nx'⟩
def sp_commits (T : Txt K mg) : Sp := fun vs H Q E => ∃ (p : Addr) (c : Ck) (x vk vr vw : V) (d dk dr dw : PyData), vs = [.ref p, x, vk, vr, vw] ∧ CkAt K T.C_Check T.C_Dealing H p c ∧ c.uw.length ≤ 100 ∧ Args K H c x vk vr vw d dk dr dw ∧ Bad T H c d dk dr dw E ∧
  Fine T H c d dk dr dw E fun e D => ∀ v H' (S : Int → Bool) (a d' n0 n' : Addr) (nx' : List (Int × Addr × List Int)), BtX [p, c.u, c.d] H H' → nx'.map dat = nxD c e D → ((nextC c e a D n0 nx').uw ≠ [] → ∀ y ∈ c.dl ++ [(e, a, D)], behindB y.2.2 (minU (nextC c e a D n0 nx')) = true → S y.1 = true) →
    CkAt K T.C_Check T.C_Dealing H' p { nextC c e a D n0 nx' with d := d', n := n', dl := (c.dl ++ [(e, a, D)]).filter (fun y => S y.1), nx := nx'.filter (fun y => S y.1) } → Q v H'
theorem ok_Check_commits (T : Txt K mg) : FnOk P w K mg base (L2.CX P w) 10 T.m_Check_commits.f T.m_Check_commits.fd ["self", "entry", "keys", "ranges", "writes"] ((sp_commits T)) := by
  refine T.m_Check_commits.F.okX sc_Check_commits (fun vs H Q E h => ?_) (fun cdv A outer s H vs Q E hr h => ?_)
  · obtain ⟨p, c, x, vk, vr, vw, d, dk, dr, dw, rfl, _⟩ := h
    rfl
  · obtain ⟨p, c, x, vk, vr, vw, d, dk, dr, dw, rfl, h, lu, ar, bad, fine⟩ := h
    refine ⟨_, (pss_cons (ps_set (i := 5) sc_Check_commits.nd rfl (Or.inl rfl) (pe_meth (pv 0) T.k_Check.cl T.m_Check__dealing_of.i (ok_Check__dealing_of T) (hr.mono (by decide)) T.m_Check__dealing_of.b .nil (passes_call (takes_of rfl rfl rfl rfl) (fun _ _ _ _ h => h)) (pa_cons (pv 1) (pa_cons (pv 2) (pa_cons (pv 3) (pa_cons (pv 4) pa_nil))))))
    (pss_cons (ps_set (i := 6) sc_Check_commits.nd rfl (Or.inl rfl) (pe_meth (pv 0) T.k_Check.cl T.m_Check__nexts_with.i (ok_Check__nexts_with T) (hr.mono (by decide)) T.m_Check__nexts_with.b .nil pass0 (pa_cons (pv 1) (pa_cons (pv 5) pa_nil))))
    (pss_cons (ps_expr (pe_call (ok_need_no_ring T) (hr.mono (by decide)) (by rfl) T.need_no_ring.g T.need_no_ring.F.kp T.need_no_ring.b .nil (passes_call (takes_of rfl rfl rfl rfl) (fun _ _ _ _ h => h)) (pa_cons (pv 1) (pa_cons (pv 6) pa_nil))))
    (pss_cons (ps_ddel (peFld (K := K) (pv 0) rfl) (pv 1))
    (pss_cons (ps_dput (hu_of hr) (peFld (K := K) (pv 0) rfl) (pv 1) (pv 5) rfl)
    (pss_cons (psFld (K := K) (pv 0) (pv 6) rfl)
    (Evl.pss_cut (ps_if (pt_cmpR oNotN (peFld (K := K) (pv 5) rfl) pe_non (nomark _)) (pss_one (psFld (K := K) (pv 0) (peFld (K := K) (pv 5) rfl) rfl)) pss_nil)
    (pss_cons (ps_expr (pe_meth0 (pv 0) T.k_Check.cl T.m_Check__forget.i (ok_Check__forget T) (hr.mono (by decide)) T.m_Check__forget.b .nil pass0))
    (pss_one (ps_ret (peFld (K := K) (pv 5) rfl))))))))))), ?_⟩
    walk_at "go"
    refine m_call0 h.ob (cf_no _ _ _ _ _ (by decide +kernel)) ?_
    walk_at "go"
    refine ⟨p, c, x, vk, vr, vw, d, dk, dr, dw, rfl, h, ar, bad, fun e gs rs ws ed eo e1 e2 e3 ok H1 a s1 na hD => ?_⟩
    obtain ⟨sm, fg, fr⟩ := fine.f e gs rs ws ed eo e1 e2 e3 ok
    obtain ⟨Nx, hx⟩ := ar.x
    subst ed
    obtain rfl := dq_int hx
    have me : e ∈ c.uw.map (·.1) := of_decide_eq_true eo
    have lw : (dealD c e gs rs ws).ws.length ≤ 1000 := ws_few ok
    obtain ⟨D, eD⟩ : ∃ D, D = dealD c e gs rs ws := ⟨_, rfl⟩
    rw [← eD] at fg fr hD lw
    walk_at "go"
    refine m_call0 (h.same s1).ob (cf_no _ _ _ _ _ (by decide +kernel)) ?_
    walk_at "go"
    refine ⟨p, c, e, a, D, rfl, h.same s1, sm, hD, lw, fun n0 H2 nx' s2 nn hn rows eq => ?_⟩
    have s12 := s1.trans s2
    have nnH := free_ s1 nn
    walk_at "go"
    obtain ⟨ra, va, cs⟩ := ring_prem (G := H2) sm eq rows (Qn := ringB c e D = false) (Qr := ringB c e D = true) id id
    refine ⟨e, n0, _, ra, rfl, hn, va, ?_⟩
    have kdl : ∀ y ∈ c.dl, y.1 ≠ e := by
      rcases sm with ⟨q, _⟩ | ⟨kk, a1, D1, r1, q, _, ne⟩
      · rw [q]; exact fun y m => nomatch m
      · rw [q]; exact fun y m z => ne (by rw [List.mem_singleton.mp m] at z; exact z.symm)
    have ldl : c.dl.length ≤ 1 := by
      rcases sm with ⟨q, _⟩ | ⟨kk, a1, D1, r1, q, _, ne⟩ <;> rw [q] <;> simp
    have shape : Shape (nextC c e a D n0 nx') := by
      refine ⟨?_, ?_, ?_, Nat.le_trans (List.length_filter_le _ _) lu, ?_⟩
      · rcases sm with ⟨q, _⟩ | ⟨kk, a1, D1, r1, q, _, ne⟩
        · unfold nxD at eq
          rw [q] at eq
          obtain ⟨b, rfl⟩ := nx_one eq
          show _ = (c.dl ++ [(e, a, D)]).map (·.1)
          rw [q]; rfl
        · unfold nxD at eq
          rw [q] at eq
          obtain ⟨b, b2, rfl⟩ := nx_two eq
          show _ = (c.dl ++ [(e, a, D)]).map (·.1)
          rw [q]; rfl
      · show ((c.dl ++ [(e, a, D)]).map (·.1)).Nodup
        rcases sm with ⟨q, _⟩ | ⟨kk, a1, D1, r1, q, _, ne⟩
        · rw [q]; exact List.nodup_cons.mpr ⟨List.not_mem_nil, List.nodup_nil⟩
        · rw [q]
          exact List.nodup_cons.mpr ⟨fun z => ne (List.mem_singleton.mp z).symm, List.nodup_cons.mpr ⟨List.not_mem_nil, List.nodup_nil⟩⟩
      · show (c.dl ++ [(e, a, D)]).length < 64
        rw [List.length_append, List.length_singleton]; omega
      · show ∀ x ∈ nx', ∀ y ∈ x.2.2, y ∈ nx'.map (·.1)
        rcases sm with ⟨q, _⟩ | ⟨kk, a1, D1, r1, q, _, ne⟩
        · unfold nxD at eq
          rw [q] at eq
          obtain ⟨b, rfl⟩ := nx_one eq
          intro x m y hy
          rw [List.mem_singleton.mp m] at hy
          exact nomatch hy
        · unfold nxD at eq
          rw [q] at eq
          obtain ⟨b, b2, rfl⟩ := nx_two eq
          intro x m y hy
          simp only [List.mem_cons, List.not_mem_nil, or_false] at m
          rcases m with z | z <;> rw [z] at hy <;> dsimp only at hy
          · split at hy
            · rw [List.mem_singleton.mp hy]; simp
            · exact nomatch hy
          · split at hy
            · rw [List.mem_singleton.mp hy]; simp
            · exact nomatch hy
    have good : ringB c e D = false → ∀ H3, Same H2 H3 → True := fun _ _ _ => trivial
    suffices go : ∀ H3, Same H2 H3 → ringB c e D = false → _ by
      refine cs.imp (fun q => ⟨q.1, fun H' s' => go H' s' q.2⟩) fun ⟨kk, rb, B⟩ => ⟨kk, rb, B.mp (fun q H' s' => go H' s' q) (fun q H' dd f s' nd => fr q H' dd f (s12.trans s') nd)⟩
    intro H3 s3 rg
    have fg := fg rg
    clear good cs va fr
    have s23 := s12.trans s3
    have h3 := h.same s23
    have hD3 := (hD.same s2).same s3
    have rows3 : ∀ x ∈ nx', H3 x.2.1 = some (.lst (x.2.2.map V.int)) := fun x m => s3 _ _ (rows x m)
    have hn3 := s3 _ _ hn
    have pu := h.pu
    have nnu : n0 ≠ c.u := fun z => by rw [z, h.hu] at nnH; cases nnH
    have nnd : n0 ≠ c.d := fun z => by rw [z, h.hd] at nnH; cases nnH
    have nnp : n0 ≠ p := fun z => by
      obtain ⟨dz, e3⟩ := h.ob
      rw [z, e3] at nnH; cases nnH
    walk_at "go"
    refine s_ddl ?_
    walk_at "go"
    refine o_fld h3.ob T.k_Check.cl T.n_Check__under_way (cf_u _ _ _ _ _) ?_
    walk_at "go"
    refine ⟨c.u, _, Sum.inl e, rfl, h3.hu, rfl, isSome_iff.mpr (by rw [kI_keys, inl_mem]; exact me), ?_⟩
    rw [drop_kI]
    have b4 : BtX [p, c.u, c.d] H3 (upd H3 c.u (.dK (kI (c.uw.filter fun x => decide (x.1 ≠ e))))) := BtX.upd (by simp)
    have hu4 : upd H3 c.u (.dK (kI (c.uw.filter fun x => decide (x.1 ≠ e)))) c.u = some (.dK (kI (c.uw.filter fun x => decide (x.1 ≠ e)))) := upd_same
    have ne4 : ∀ x, x ≠ c.u → upd H3 c.u (.dK (kI (c.uw.filter fun x => decide (x.1 ≠ e)))) x = H3 x := fun x z => upd_ne z
    generalize upd H3 c.u (.dK (kI (c.uw.filter fun x => decide (x.1 ≠ e)))) = H4 at *
    obtain ⟨dxp, ep⟩ := h3.ob
    have ep4 := (ne4 _ pu.1).trans ep
    have hd4 := (ne4 _ h.ud.symm).trans h3.hd
    have lkd : (kR c.dl).length ≤ 1 := by unfold kR; rw [List.length_map]; exact ldl
    walk_at "go"
    refine o_fld ⟨dxp, ep4⟩ T.k_Check.cl T.n_Check__dealings (cf_d _ _ _ _ _) ?_
    walk_at "go"
    refine ⟨c.d, _, rfl, DPut.k (k := Sum.inl e) hd4 (lt_size (by omega)), ?_⟩
    have epu : putK (kR c.dl) (Sum.inl e) (.ref a) = kR (c.dl ++ [(e, a, D)]) := by
      rw [putK_new]
      · unfold kR; rw [List.map_append]; rfl
      · intro q hq z
        obtain ⟨y, hy, rfl⟩ := List.mem_map.mp hq
        exact kdl y hy (Sum.inl.inj z)
    rw [epu]
    have b5 : BtX [p, c.u, c.d] H3 (upd H4 c.d (.dK (kR (c.dl ++ [(e, a, D)])))) := b4.trans (BtX.upd (by simp))
    have hd5 : upd H4 c.d (.dK (kR (c.dl ++ [(e, a, D)]))) c.d = some (.dK (kR (c.dl ++ [(e, a, D)]))) := upd_same
    have hu5 : upd H4 c.d (.dK (kR (c.dl ++ [(e, a, D)]))) c.u = some (.dK (kI (c.uw.filter fun x => decide (x.1 ≠ e)))) := (upd_ne h.ud).trans hu4
    have ep5 : upd H4 c.d (.dK (kR (c.dl ++ [(e, a, D)]))) p = some (.ins T.C_Check dxp (cf c.last c.many c.u c.d c.n)) := (upd_ne pu.2.1).trans ep4
    generalize upd H4 c.d (.dK (kR (c.dl ++ [(e, a, D)]))) = H5 at *
    walk_at "go"
    refine s_fld rfl ep5 T.k_Check.cl T.n_Check__nexts (by show 5 < 1000; decide) ?_
    rw [cf_pn]
    have b6 : BtX [p, c.u, c.d] H3 (upd H5 p (.ins T.C_Check dxp (cf c.last c.many c.u c.d n0))) := b5.trans (BtX.upd (by simp))
    have ep6 : upd H5 p (.ins T.C_Check dxp (cf c.last c.many c.u c.d n0)) p = some (.ins T.C_Check dxp (cf c.last c.many c.u c.d n0)) := upd_same
    have hd6 : upd H5 p (.ins T.C_Check dxp (cf c.last c.many c.u c.d n0)) c.d = some (.dK (kR (c.dl ++ [(e, a, D)]))) := (upd_ne pu.2.1.symm).trans hd5
    have hu6 : upd H5 p (.ins T.C_Check dxp (cf c.last c.many c.u c.d n0)) c.u = some (.dK (kI (c.uw.filter fun x => decide (x.1 ≠ e)))) := (upd_ne pu.1.symm).trans hu5
    generalize upd H5 p (.ins T.C_Check dxp (cf c.last c.many c.u c.d n0)) = H6 at *
    have tupA : ∀ {G : Hp}, BtX [p, c.u, c.d] H3 G → ∀ b xs, SqT K H3 b xs → SqT K G b xs := fun bG b xs s => btx_st bG (fun x m => h3.ntp x (by
      simp only [List.mem_cons, List.not_mem_nil, or_false] at m ⊢
      rcases m with z | z | z <;> simp [z])) s
    have dA : ∀ {G : Hp}, BtX [p, c.u, c.d] H3 G → DlAt K T.C_Dealing G a D := fun bG => by
      refine hD3.mv (fun o eb => bG a o ?_ eb) (tupA bG)
      obtain ⟨vg, vr', vw', ⟨dy, e2⟩, _⟩ := hD3.ex
      simp only [List.mem_cons, List.not_mem_nil, or_false, not_or]
      refine ⟨fun z => ?_, fun z => ?_, fun z => ?_⟩ <;> rw [z] at e2
      · rw [ep] at e2
        have e2 := Option.some.inj e2
        injection e2 with _ _ q
        have q1 : (["_last", "_many", "_under_way", "_dealings", "_nexts"] : List Str) = (["snapshot", "number", "gets", "ranges", "writes"] : List Str) := congrArg (List.map Prod.fst) q
        exact absurd q1 (by decide +kernel)
      · rw [h3.hu] at e2; cases e2
      · rw [h3.hd] at e2; cases e2
    refine s_cut (fun σ G => σ = [some (.ref p), some (.int e), some vk, some vr, some vw, some (.ref a), some (.ref n0)] ∧ BtX [p, c.u, c.d] H3 G ∧ G p = some (.ins T.C_Check dxp (cf (newLast c D) c.many c.u c.d n0)) ∧ G c.u = some (.dK (kI (c.uw.filter fun x => decide (x.1 ≠ e)))) ∧ G c.d = some (.dK (kR (c.dl ++ [(e, a, D)])))) ?_ ?_
    · obtain ⟨vg, vr', vw', hI, _⟩ := dA b6
      walk_at "go"
      refine o_fld hI T.k_Dealing.cl T.n_Dealing_number (df_n _ _ _ _ _) ?_
      unfold newLast
      cases en : D.nm with
      | none =>
        walk_at "go"
        exact ⟨rfl, b6, ep6, hu6, hd6⟩
      | some m =>
        walk_at "go"
        refine o_fld hI T.k_Dealing.cl T.n_Dealing_number (by rw [df_n, en]) ?_
        walk_at "go"
        refine s_fld rfl ep6 T.k_Check.cl T.n_Check__last (by show 5 < 1000; decide) ?_
        rw [cf_pl]
        exact ⟨rfl, b6.trans (BtX.upd (by simp)), upd_same, (upd_ne pu.1.symm).trans hu6, (upd_ne pu.2.1.symm).trans hd6⟩
    · rintro σ7 H7 ⟨rfl, b7, ep7, hu7, hd7⟩
      have n07 := b7 n0 _ (by simp [nnp, nnu, nnd]) hn3
      have rowN : ∀ x ∈ nx', x.2.1 ∉ [p, c.u, c.d] := fun x m => by
        have := rows3 x m
        simp only [List.mem_cons, List.not_mem_nil, or_false, not_or]
        refine ⟨fun z => ?_, fun z => ?_, fun z => ?_⟩ <;> rw [z] at this
        · rw [ep] at this; cases this
        · rw [h3.hu] at this; cases this
        · rw [h3.hd] at this; cases this
      have h7 : CkAt K T.C_Check T.C_Dealing H7 p (nextC c e a D n0 nx') := by
        refine ⟨⟨dxp, ep7⟩, hu7, hd7, n07, h.ud, nnu.symm, nnd.symm, fun y m => ?_, fun y m => b7 _ _ (rowN y m) (rows3 y m)⟩
        rcases List.mem_append.mp m with m | m
        · have fr7 := h3.fr (b7.mono (by simp))
          exact fr7.1 y m
        · rw [List.mem_singleton.mp m]
          exact ⟨dA b7, lw⟩
      walk_at "go"
      refine m_call0 h7.ob (cf_no _ _ _ _ _ (by decide +kernel)) ?_
      refine ⟨p, _, rfl, h7, shape, fun S H8 d' n' hS b8 h8 => ?_⟩
      have b38 : BtX [p, c.u, c.d] H3 H8 := b7.trans (b8.mono (by simp))
      obtain ⟨vg, vr', vw', hI, _⟩ := dA b38
      walk_at "go"
      refine o_fld hI T.k_Dealing.cl T.n_Dealing_number (df_n _ _ _ _ _) ?_
      exact fg _ H8 S a d' n0 n' nx' (fun b o m eb => b38 b o m (s23 b o eb)) eq hS h8
end



section
variable {P : Program} {w : World} {K : PySem.W.Frag} {mg : Str → Option Value} {base : Heap}
/-! ### what could ring -/
structure One (c : Ck) (kk : Int) (a1 r1 : Addr) (D1 : Dl) (n : Int) (s0 : Str) : Prop where
  dl : c.dl = [(kk, a1, D1)]
  nx : c.nx = [(kk, r1, [])]
  ne : c.uw ≠ []
  lu : c.uw.length ≤ 100
  be : behindB D1 (minU c) = true
  nm : D1.nm = some n
  ws : ∃ m tl, D1.ws = (s0, m) :: tl
theorem One.mem {c : Ck} {kk : Int} {a1 r1 : Addr} {D1 : Dl} {n : Int} {s0 : Str} (o : One c kk a1 r1 D1 n s0) : (kk, a1, D1) ∈ c.dl := by rw [o.dl]; exact List.mem_cons_self
theorem One.val {c : Ck} {kk : Int} {a1 r1 : Addr} {D1 : Dl} {n : Int} {s0 : Str} (o : One c kk a1 r1 D1 n s0) : valV (kR c.dl) (Sum.inl kk) = some (.ref a1) := by rw [o.dl]; exact valV_pos rfl
theorem wks_0 {D : Dl} {s0 : Str} (h : ∃ m tl, D.ws = (s0, m) :: tl) : ∃ r, wks D = s0 :: r := by
  obtain ⟨m, tl, e⟩ := h
  exact ⟨tl.map (·.1), by unfold wks; rw [e]; rfl⟩
def sp_touched (C Cd : Addr) (K : PySem.W.Frag) : Sp := fun vs H Q _ => ∃ p c kk a1 r1 D1 n s0 t, vs = [.ref p, .ref t] ∧ CkAt K C Cd H p c ∧ One c kk a1 r1 D1 n s0 ∧ H t = some (.tup [.int kk]) ∧ ∀ H', Same H H' → Q (.str s0) H'
theorem ok_Check__touched_key (T : Txt K mg) : FnOk P w K mg base CX0 2 T.m_Check__touched_key.f T.m_Check__touched_key.fd ["self", "way"] ((sp_touched T.C_Check T.C_Dealing K)) := by
  refine T.m_Check__touched_key.F.ok sc_Check__touched_key (fun vs H Q E h => ?_) (fun cdv A outer s H vs Q E hr h => ?_)
  · obtain ⟨p, c, kk, a1, r1, D1, n, s0, t, rfl, _⟩ := h
    rfl
  · obtain ⟨p, c, kk, a1, r1, D1, n, s0, t, rfl, h, o, ht, k⟩ := h
    refine ⟨_, (pss_cons (ps_set (i := 2) sc_Check__touched_key.nd rfl (Or.inr rfl) (pe_dget (hu_of hr) (peFld (K := K) (pv 0) rfl) (pe_ix (ixLT (K := K)) (pv 1) (pe_un un_neg pe_int) (fun _ _ => rfl)) (fun _ _ => rfl)))
    (pss_cons (ps_if (pt_cmpR oNotN (peFld (K := K) (pv 2) rfl) pe_non (nomark _)) (pss_one (ps_ret (pe_ix (ixLT (K := K)) (pe_call (ok_written_keys T) (hr.mono (by decide)) (by rfl) T.written_keys.g T.written_keys.F.kp T.written_keys.b .nil pass0 (pa_cons (pv 2) pa_nil)) pe_int (fun _ _ => rfl)))) pss_nil)
    (pss_one (ps_ret (pe_ix (ixLT (K := K)) (pe_lc (own := [("key", 3)]) rfl sc_Check__touched_key.nd (piL (K := K) (pe_call (ok_written_keys T) (hr.mono (by decide)) (by rfl) T.written_keys.g T.written_keys.F.kp T.written_keys.b .nil pass0 (pa_cons (pe_dget (hu_of hr) (peFld (K := K) (pv 0) rfl) (pe_ix (ixLT (K := K)) (pv 1) (pe_un un_neg pe_int) (fun _ _ => rfl)) (fun _ _ => rfl)) pa_nil))) (blkOk_by (N := n_Check__touched_key) (sc := defScope s_Check__touched_key) (by decide +kernel)) (fun _ _ _ _ _ => (pg_name (i := 3) sc_Check__touched_key.nd rfl (Or.inl rfl))) (fun _ _ _ _ _ => (pts_one (ptTruth (K := K) (pe_call (ok_has_seen_key T) (hr.mono (by decide)) (by rfl) T.has_seen_key.g T.has_seen_key.F.kp T.has_seen_key.b .nil pass0 (pa_cons (pv 2) (pa_cons (pv 3) pa_nil))) (by intro _; rfl)))) (fun _ _ _ _ _ => (pv 3))) pe_int (fun _ _ => rfl)))))), ?_⟩
    obtain ⟨hD, lw⟩ := h.dls _ o.mem
    obtain ⟨vg, vr, vw, hI, _⟩ := id hD
    walk_at "go"
    refine e_dgetT ?_
    walk_at "go"
    refine o_fld h.ob T.k_Check.cl T.n_Check__dealings (cf_d _ _ _ _ _) ?_
    walk_at "go"
    refine ⟨c.d, _, rfl, o.val ▸ DGet.k (k := Sum.inl kk) h.hd, ?_⟩
    walk_at "go"
    refine o_fld hI T.k_Dealing.cl T.n_Dealing_number (show (df _ _ _ _ _).lookup _ = some (V.int n) by rw [df_n, o.nm]) ?_
    walk_at "go"
    refine ⟨a1, D1, rfl, hD, lw, fun r H1 nr s1 hr1 => ?_⟩
    obtain ⟨wr, ew⟩ := wks_0 o.ws
    rw [ew] at hr1
    refine o_ixL (slO hr1) (atI_in (j := 0) rfl rfl) ?_
    exact k H1 s1
def remB (c : Ck) : PyData → Bool
  | .int e => decide (e ∈ c.dl.map (·.1))
  | _ => false
def sp_could (T : Txt K mg) : Sp := fun vs H Q E => ∃ p c x N d kk a1 r1 D1 n s0, vs = [.ref p, x] ∧ CkAt K T.C_Check T.C_Dealing H p c ∧ One c kk a1 r1 D1 n s0 ∧ Dq K N H x d ∧ (remB c d = false → ∀ H', Same H H' → E (.ref T.e_NotRemembered.C) none H') ∧ (remB c d = true → ∀ v H', Same H H' → Q v H')
theorem ok_Check_could_ring (T : Txt K mg) : FnOk P w K mg base (L2.CX P w) 3 T.m_Check_could_ring.f T.m_Check_could_ring.fd ["self", "entry"] ((sp_could T)) := by
  refine T.m_Check_could_ring.F.okX sc_Check_could_ring (fun vs H Q E h => ?_) (fun cdv A outer s H vs Q E hr h => ?_)
  · obtain ⟨p, c, x, N, d, kk, a1, r1, D1, n, s0, rfl, _⟩ := h
    rfl
  · obtain ⟨p, c, x, N, d, kk, a1, r1, D1, n, s0, rfl, h, o, hd, kE, k⟩ := h
    refine ⟨_, (pss_cons (ps_if (PW.pt (pw_or (pt_not (ptTruth (K := K) (pe_call (ok_is_integer T) (hr.mono (by decide)) (by rfl) T.is_integer.g T.is_integer.F.kp T.is_integer.b .nil pass0 (pa_cons (pv 1) pa_nil)) (by intro _; rfl))) (pw_or1 (pt_cmp (pc_dnotin (hu_of hr) (pv 1) (peFld (K := K) (pv 0) rfl)))))) (pss_one (ps_raise rfl (takes_of rfl rfl rfl rfl) (pmk_oexN T.e_NotRemembered.o T.e_NotRemembered.i T.e_NotRemembered.t (ok_StoreError_init T.m_StoreError_init T.z_ValueError T.vV) (hr.mono (by decide)) T.m_StoreError_init.b pass0 (by rfl) T.e_NotRemembered.g))) pss_nil)
    (pss_cons (ps_set (i := 2) sc_Check_could_ring.nd rfl (Or.inl rfl) (pe_call (ok_way_to T) (hr.mono (by decide)) (by rfl) T.way_to.g T.way_to.F.kp T.way_to.b .nil pass0 (pa_cons (pv 1) (pa_cons (pe_meth (pv 0) T.k_Check.cl T.m_Check__ways_from.i (ok_Check__ways_from T) (hr.mono (by decide)) T.m_Check__ways_from.b .nil pass0 (pa_cons (pe_meth0 (pv 0) T.k_Check.cl T.m_Check__sources.i (ok_Check__sources T) (hr.mono (by decide)) T.m_Check__sources.b .nil pass0) pa_nil)) pa_nil))))
    (pss_cons (ps_set (i := 3) sc_Check_could_ring.nd rfl (Or.inr rfl) (pe_callB (cMinL (K := K) rfl) (by rfl) T.z_min (by decide +kernel) (pa_cons (pe_listValues rfl (peFld (K := K) (pv 0) rfl) (by rfl) T.z_list (by decide +kernel)) pa_nil)))
    (pss_cons (ps_set (i := 4) sc_Check_could_ring.nd rfl (Or.inl rfl) (pe_callB (cMinL (K := K) rfl) (by rfl) T.z_min (by decide +kernel) (pa_cons (pe_lock (pe_lc (own := [("number", 6), ("snapshot", 7)]) rfl sc_Check_could_ring.nd (pi_items (peFld (K := K) (pv 0) rfl)) (blkOk_by (N := n_Check_could_ring) (sc := defScope s_Check_could_ring) (by decide +kernel)) (fun _ _ _ _ _ => (pgTup (K := K) (n := 2) (pg_tup (n := 2) rfl (pgs_cons (pg_name (i := 6) sc_Check_could_ring.nd rfl (Or.inl rfl)) (pgs_cons (pg_name (i := 7) sc_Check_could_ring.nd rfl (Or.inl rfl)) pgs_nil))))) (fun _ _ _ _ _ => (pts_one (pt_cmpR (oEq (K := K) hr.units) (pv 7) (pv 3) (nomark _)))) (fun _ _ _ _ _ => (pv 6)))) pa_nil)))
    (pss_cons (ps_set (i := 5) sc_Check_could_ring.nd rfl (Or.inl rfl) (pe_ix (ixLT (K := K)) (pe_call (ok_written_keys T) (hr.mono (by decide)) (by rfl) T.written_keys.g T.written_keys.F.kp T.written_keys.b .nil pass0 (pa_cons (pe_dget (hu_of hr) (peFld (K := K) (pv 0) rfl) (pe_ix (ixLT (K := K)) (pv 2) pe_int (fun _ _ => rfl)) (fun _ _ => rfl)) pa_nil)) pe_int (fun _ _ => rfl)))
    (pss_one (ps_ret (pe_tup (pa_cons (pv 4) (pa_cons (pe_tup (pa_cons (pv 5) pa_nil)) (pa_cons (pe_tup (pa_cons (pe_tup (pa_cons (pe_meth (pv 0) T.k_Check.cl T.m_Check__touched_key.i (ok_Check__touched_key T) (hr.mono (by decide)) T.m_Check__touched_key.b .nil pass0 (pa_cons (pv 2) pa_nil)) (pa_cons pe_int pa_nil))) pa_nil)) pa_nil))))))))))), ?_⟩
    walk_at "go"
    refine ⟨x, N, d, rfl, hd, ?_⟩
    walk_at "go"
    cases e0 : isID d with
    | false =>
      walk_at "go"
      refine e_raise T.e_NotRemembered.o (kE ?_ _ (Same.refl _))
      cases d <;> first | rfl | cases e0
    | true =>
    obtain ⟨e, rfl⟩ : ∃ e, d = .int e := by
      cases d with
      | int e => exact ⟨e, rfl⟩
      | _ => cases e0
    cases hd
    walk_at "go"
    refine o_fld h.ob T.k_Check.cl T.n_Check__dealings (cf_d _ _ _ _ _) ?_
    refine ⟨c.d, _, rfl, DGet.k (k := Sum.inl e) h.hd, ?_⟩
    have iff : (valV (kR c.dl) (Sum.inl e)).isSome = true ↔ e ∈ c.dl.map (·.1) := by rw [isSome_iff, kR_keys, inl_mem]
    by_cases m : e ∈ c.dl.map (·.1)
    rotate_left 1
    · refine ⟨true, by rw [Bool.eq_false_iff.mpr (fun z => m (iff.mp z))]; rfl, ?_⟩
      rw [if_pos rfl]
      walk_at "go"
      exact e_raise T.e_NotRemembered.o (kE (decide_eq_false m) _ (Same.refl _))
    refine ⟨false, by rw [iff.mpr m]; rfl, ?_⟩
    rw [if_neg Bool.false_ne_true]
    have k := k (decide_eq_true m)
    have ek : e = kk := by rw [o.dl] at m; exact List.mem_singleton.mp m
    subst ek
    have ndl : (c.dl.map (·.1)).Nodup := by rw [o.dl]; exact List.nodup_cons.mpr ⟨List.not_mem_nil, List.nodup_nil⟩
    have knx : c.nx.map (·.1) = [e] := by rw [o.nx]; rfl
    walk_at "go"
    refine m_call0 h.ob (cf_no _ _ _ _ _ (by decide +kernel)) ?_
    walk_at "go"
    refine m_call0 h.ob (cf_no _ _ _ _ _ (by decide +kernel)) ?_
    refine ⟨p, c, rfl, h, o.lu, by rw [o.dl]; simp, ndl, fun r H1 ns s1 nr hr1 nns sub src => ?_⟩
    have ens : ns = [e] := by
      have me : e ∈ ns := (src o.ne _ o.mem).mpr o.be
      have sub2 : ∀ y ∈ ns, y = e := fun y hy => by
        have := sub y hy
        rw [o.dl] at this
        exact List.mem_singleton.mp this
      match ns, me, nns, sub2 with
      | [y], me, _, s => rw [s y List.mem_cons_self]
      | y :: z :: r, _, nd, s =>
        exact absurd (by rw [s y List.mem_cons_self, s z (by simp)]; exact List.mem_cons_self) (List.nodup_cons.mp nd).1
    subst ens
    have h1 := h.same s1
    walk_at "go"
    refine ⟨p, c, r, [e], rfl, h1, hr1, nns, fun y hy => by rw [knx]; exact hy, by rw [knx]; exact List.nodup_cons.mpr ⟨List.not_mem_nil, List.nodup_nil⟩, by rw [o.nx]; simp, fun y hy => by rw [o.nx] at hy; rw [List.mem_singleton.mp hy]; exact fun z hz => (nomatch hz), fun q H2 kvs s2 nq hq _ ex => ?_⟩
    have ek := ex (fun y hy => by rw [o.nx] at hy; rw [List.mem_singleton.mp hy])
    subst ek
    have s12 := s1.trans s2
    walk_at "go"
    refine ⟨q, _, [e], rfl, hq, by simp, fun i hi => ?_, fun t H3 s3 ht => ?_⟩
    · match i, hi with
      | 0, _ => exact valV_pos rfl
    have s13 := s12.trans s3
    have h3 := h.same s13
    have ht : H3 t = some (.tup [.int e]) := ht
    walk_at "go"
    refine e_lv ?_
    walk_at "go"
    refine o_fld h3.ob T.k_Check.cl T.n_Check__under_way (cf_u _ _ _ _ _) ?_
    refine ⟨c.u, _, rfl, h3.hu, fun r2 nr2 => ?_⟩
    rw [kI_vals]
    have s4 : Same H3 (upd H3 r2 (.lst ((c.uw.map (·.2)).map V.int))) := Same.new nr2
    have h4 : upd H3 r2 (.lst ((c.uw.map (·.2)).map V.int)) r2 = some (.lst ((c.uw.map (·.2)).map V.int)) := upd_same
    generalize upd H3 r2 (.lst ((c.uw.map (·.2)).map V.int)) = H4 at *
    have uwp : 0 < c.uw.length := List.length_pos_iff.mpr o.ne
    walk_at "go"
    refine ⟨r2, _, rfl, slO h4, by rw [List.length_map]; exact uwp, fun m0 hm hmin => ?_⟩
    have hC4 := h3.same s4
    walk_at "go"
    refine ⟨c.u, .dK (kI c.uw), hC4.hu, trivial, fun od => ?_⟩
    have frz : upd H4 c.u (.frz od (.dK (kI c.uw))) c.u = some (.frz od (.dK (kI c.uw))) := upd_same
    have off : ∀ x, x ≠ c.u → upd H4 c.u (.frz od (.dK (kI c.uw))) x = H4 x := fun x z => upd_ne z
    generalize upd H4 c.u (.frz od (.dK (kI c.uw))) = L at *
    walk_at "go"
    refine i_items0 ?_
    walk_at "go"
    obtain ⟨dx6, eo6⟩ := hC4.ob
    have pu := h.pu
    refine o_fld ⟨dx6, (off _ pu.1).trans eo6⟩ T.k_Check.cl T.n_Check__under_way (cf_u _ _ _ _ _) ?_
    refine ⟨c.u, od, _, rfl, frz, ?_⟩
    refine c_it (walk_items (kvs := kI c.uw)) (fun i acc G => Same L G ∧ acc = ((c.uw.take i).filter (fun y => decide (y.2 = m0))).map fun y => V.int y.1) (fun D hD => ⟨upd_free (Same.refl _) hD, rfl⟩) (fun i acc G hi z => z.1 _ _ frz) (fun acc Nn G hN hG z => ?_) (fun i x acc G G2 D hi hD hG z y => ?_)
    rotate_left 1
    · obtain ⟨s5, rfl⟩ := z
      obtain ⟨t2, x, y, rfl, nt, rfl, ex, ey⟩ := y
      have hi' : i < c.uw.length := by simpa [kI] using hi
      have eg : (kI c.uw)[i]? = some ((Sum.inl c.uw[i].1 : Key), V.int c.uw[i].2) := by
        unfold kI
        rw [List.getElem?_map, List.getElem?_eq_getElem hi']; rfl
      simp only [eg, Option.map_some] at ex ey
      obtain rfl := Option.some.inj ex
      obtain rfl := Option.some.inj ey
      have more : (c.uw.take (i + 1)) = c.uw.take i ++ [c.uw[i]] := by rw [List.take_add_one, List.getElem?_eq_getElem hi']; rfl
      have lu := o.lu
      have al : (((c.uw.take i).filter (fun y => decide (y.2 = m0))).map fun y => V.int y.1).length ≤ 100 := by
        rw [List.length_map]
        exact Nat.le_trans (List.length_filter_le _ _) (by rw [List.length_take]; omega)
      generalize c.uw[i] = y at *
      have st : Same G (upd G t2 (.tup [kV (Sum.inl y.1), V.int y.2])) := Same.new nt
      have ht2 : upd G t2 (.tup [kV (Sum.inl y.1), V.int y.2]) t2 = some (.tup [.int y.1, V.int y.2]) := upd_same
      generalize upd G t2 (.tup [kV (Sum.inl y.1), V.int y.2]) = G2 at *
      refine g_pair ht2 ⟨rfl, ?_⟩
      walk_at "go"
      have hG2 := at_ st hG
      refine i_d (fun z => ?_) (fun z => ?_)
      · walk_at "go"
        refine ⟨_, hG2, lt_size (by omega), _, upd_same, upd_free (s5.trans st) hD, ?_⟩
        rw [more, List.filter_append, List.filter_cons_of_pos (by exact decide_eq_true z), List.filter_nil, List.map_append]; rfl
      · refine ⟨_, hG2, s5.trans st, ?_⟩
        rw [more, List.filter_append, List.filter_cons_of_neg (by rw [decide_eq_false z]; exact Bool.false_ne_true), List.filter_nil, List.append_nil]
    obtain ⟨s5, rfl⟩ := z
    rw [show (kI c.uw).length = c.uw.length from List.length_map _, List.take_length] at hG
    refine ⟨s5 _ _ frz, ?_⟩
    have nwN : Nn ≠ c.u := fun z => by rw [z, frz] at hN; cases hN
    have s6 : Same H4 (upd G c.u (.dK (kI c.uw))) := fun b ob e => by
      by_cases z : b = c.u
      · rw [z, hC4.hu] at e; cases e
        rw [z]; exact upd_same
      · rw [upd_ne z]; exact s5 b ob ((off b z).trans e)
    have hN6 : upd G c.u (.dK (kI c.uw)) Nn = some (.lst (((c.uw.filter (fun y => decide (y.2 = m0))).map (·.1)).map V.int)) := (upd_ne nwN).trans (by rw [hG, List.map_map]; rfl)
    generalize upd G c.u (.dK (kI c.uw)) = H6 at *
    have pos : 0 < ((c.uw.filter (fun y => decide (y.2 = m0))).map (·.1)).length := by
      obtain ⟨y, hy, ey⟩ := List.mem_map.mp hm
      rw [List.length_map]
      exact List.length_pos_of_mem (List.mem_filter.mpr ⟨hy, decide_eq_true ey⟩)
    walk_at "go"
    refine ⟨Nn, _, rfl, slO hN6, pos, fun m1 _ _ => ?_⟩
    have s16 := s13.trans (s4.trans s6)
    have h6 := h.same s16
    have ht6 := (s4.trans s6) _ _ ht
    obtain ⟨hD6, lw⟩ := h6.dls _ o.mem
    obtain ⟨wr, ew⟩ := wks_0 o.ws
    walk_at "go"
    refine e_dgetT ?_
    walk_at "go"
    refine o_fld h6.ob T.k_Check.cl T.n_Check__dealings (cf_d _ _ _ _ _) ?_
    walk_at "go"
    refine ⟨c.d, _, rfl, o.val ▸ DGet.k (k := Sum.inl e) h6.hd, ?_⟩
    walk_at "go"
    refine ⟨a1, D1, rfl, hD6, lw, fun r7 H7 nr7 s7 hr7 => ?_⟩
    rw [ew] at hr7
    refine o_ixL (slO hr7) (atI_in (j := 0) rfl rfl) ?_
    walk_at "go"
    refine n_new (le_size (by simp)) fun t8 H8 n8 s8 h8 => ?_
    have s18 := s16.trans (s7.trans s8)
    walk_at "go"
    refine m_call0 (h.same s18).ob (cf_no _ _ _ _ _ (by decide +kernel)) ?_
    walk_at "go"
    refine ⟨p, c, e, a1, r1, D1, n, s0, t, rfl, h.same s18, o, (s7.trans s8) _ _ ht6, fun H9 s9 => ?_⟩
    walk_at "go"
    refine n_new (le_size (by simp)) fun ta HA nA sA hA => ?_
    walk_at "go"
    refine n_new (le_size (by simp)) fun tb HB nB sB hB => ?_
    walk_at "go"
    refine n_new (le_size (by simp)) fun tc HC nC sC hC => ?_
    walk_at "go"
    exact k _ HC (s18.trans (s9.trans (sA.trans (sB.trans sC))))
end



section
variable {P : Program} {w : World} {K : PySem.W.Frag} {mg : Str → Option Value} {base : Heap}
/-! ### the hand that draws -/
/-- its list, the list of cells, the cells -/
structure Bg where
  hd : Addr
  g : Addr
  ns : List Int
def BagAt (K : PySem.W.Frag) (H : Hp) (B : Bg) : Prop := ∃ i big mix c : Int, H B.hd = some (.lst [.ref B.g, .int i, .int big, .int mix, .int c]) ∧ H B.g = some (.lst (B.ns.map V.int)) ∧ B.g ≠ B.hd ∧ B.ns.length ≤ 63 ∧ (∀ z ∈ B.ns, 0 ≤ z) ∧ 0 ≤ i ∧ 0 ≤ big ∧ 0 ≤ mix ∧ mix < 2147483648 ∧ 0 ≤ c
structure Hs (K : PySem.W.Frag) (B : Bg) (H H' : Hp) : Prop where
  o : Oth B.hd H H'
  b : BagAt K H' B
theorem Hs.trans {B : Bg} {H H1 H2 : Hp} (a : Hs K B H H1) (b : Hs K B H1 H2) : Hs K B H H2 := ⟨a.o.trans b.o, b.b⟩
theorem bag_same {B : Bg} {H H' : Hp} (b : BagAt K H B) (s : Same H H') : BagAt K H' B := by
  obtain ⟨i, big, x, c, h1, h2, h3⟩ := b
  exact ⟨i, big, x, c, s _ _ h1, s _ _ h2, h3⟩
theorem Hs.of {B : Bg} {H H' : Hp} (b : BagAt K H B) (s : Same H H') : Hs K B H H' := ⟨fun c o _ h => s c o h, bag_same b s⟩
theorem Hs.sl {B : Bg} {a : Addr} {H H' : Hp} {xs : List V} (h : Hs K B H H') (n : a ≠ B.hd) (s : SqL K H a xs) : SqL K H' a xs := oth_sl h.o n s
theorem bag_lst {B : Bg} {H : Hp} (b : BagAt K H B) : ∃ xs, H B.hd = some (.lst xs) := by
  obtain ⟨i, big, x, c, h1, h2, h3⟩ := b
  exact ⟨_, h1⟩
theorem Hs.st {B : Bg} {a : Addr} {H H' : Hp} {xs : List V} (h : Hs K B H H') (b : BagAt K H B) (s : SqT K H a xs) : SqT K H' a xs := by
  obtain ⟨ys, q⟩ := bag_lst b
  exact oth_st h.o q s
theorem Hs.ls {B : Bg} {a : Addr} {H H' : Hp} {xs : List V} (h : Hs K B H H') (n : a ≠ B.hd) (s : H a = some (.lst xs)) : H' a = some (.lst xs) := h.o _ _ n s
theorem new_ne {B : Bg} {p : Addr} {H : Hp} (b : BagAt K H B) (n : H p = none) : p ≠ B.hd := by
  obtain ⟨xs, h⟩ := bag_lst b
  exact (ne_of_none h n).symm
theorem Hs.free {B : Bg} {p : Addr} {H H' : Hp} (h : Hs K B H H') (n : H' p = none) : H p = none := by
  cases e : H p with
  | none => rfl
  | some o =>
    by_cases z : p = B.hd
    · obtain ⟨xs, q⟩ := bag_lst h.b
      rw [← z, n] at q; cases q
    · rw [h.o p o z e] at n; cases n
/-- an object of one's own, not there at H, may change -/
theorem Hs.mut {B : Bg} {f : Addr} {H H3 H4 : Hp} (h : Hs K B H H3) (b : BagAt K H B) (n : H f = none) (o : Oth f H3 H4) : Hs K B H H4 := by
  refine ⟨fun c u nc z => o c u (ne_of_none z n) (h.o c u nc z), ?_⟩
  obtain ⟨i, big, x, c, h1, h2, h3⟩ := b
  obtain ⟨i', big', x', c', g1, g2, g3⟩ := h.b
  exact ⟨i', big', x', c', o _ _ (ne_of_none h1 n) g1, o _ _ (ne_of_none h2 n) g2, g3⟩
def sp_hand (K : PySem.W.Frag) : Sp := fun vs H Q _ => ∃ a, ∃ ns : List Int, vs = [.ref a] ∧ SqL K H a (ns.map V.int) ∧ ns.length ≤ 63 ∧ ∀ (B : Bg) H', H B.hd = none → Same H H' → BagAt K H' B → Q (.ref B.hd) H'
theorem ok_law_hand (T : Txt K mg) : FnOk P w K mg base CX0 1 T.law_hand.f T.law_hand.fd ["script"] (sp_hand K) := by
  refine T.law_hand.F.ok sc_law_hand (fun vs H Q E h => ?_) (fun cdv A outer s H vs Q E hr h => ?_)
  · obtain ⟨a, ns, rfl, _⟩ := h
    rfl
  · obtain ⟨a, ns, rfl, hS, hl, k⟩ := h
    refine ⟨_, (pss_cons (ps_setLc (i := 1) (own := [("cell", 2)]) rfl sc_law_hand.nd rfl rfl (sw_true rfl rfl rfl (by decide +kernel)) (piL (K := K) (pe_slice (slL (K := K)) (pv 0) po_none (po_some pe_int))) (blkOk_by (N := n_law_hand) (sc := defScope s_law_hand) (by decide +kernel)) (fun _ _ _ _ _ => (pg_name (i := 2) sc_law_hand.nd rfl (Or.inl rfl))) (fun _ _ _ _ _ => pts_nil) (fun _ _ _ _ _ => (pe_callB cAbs (by rfl) T.z_abs (by decide +kernel) (pa_cons (pe_callTy cInt (by rfl) T.z_int (by decide +kernel) (pa_cons (pv 2) pa_nil)) pa_nil))))
    (pss_one (ps_ret (pe_lst (pa_cons (pv 1) (pa_cons pe_int (pa_cons pe_int (pa_cons (pe_op oAdd pe_int (pe_callB (cLen (K := K)) (by rfl) T.z_len PySem.boot_len (pa_cons (pv 1) pa_nil))) (pa_cons pe_int pa_nil))))))))), ?_⟩
    walk_at "go"
    refine n_new0 fun p1 H1 n1 s1 h1 => ?_
    obtain ⟨ms, e1, e2, _⟩ := cut_map (f := V.int) ns none (some 63)
    rw [e1] at h1
    refine i_lst (slO h1) ?_
    refine c_lst (xs := ms.map V.int) (fun i acc H' => Same H1 H' ∧ acc = ((ms.take i).map fun z => if z < 0 then -z else z).map V.int) (fun D hD => ⟨upd_free (Same.refl _) hD, rfl⟩) (fun i acc H' hi p => slO (at_ p.1 h1)) (fun acc D H2 hD hp p => ?_) (fun _ => rfl) (fun i x acc H' D hx hD hp p => ?_)
    · obtain ⟨s2, rfl⟩ := p
      rw [List.length_map, List.take_length] at hp
      walk_at "go"
      refine n_new (le_size (by simp)) fun p3 H3 n3 s3 h3 => ?_
      have ss := s1.trans s2
      rw [List.length_map] at h3
      refine k ⟨p3, D, ms.map fun z => if z < 0 then -z else z⟩ H3 (free_ ss n3) (ss.trans s3) ⟨0, 0, 1 + (ms.length : Nat), 0, h3, at_ s3 hp, ne_new hp n3, by show (List.map _ ms).length ≤ 63; rw [List.length_map]; omega, fun z hz => ?_, by omega, by omega, by omega, by omega, by omega⟩
      obtain ⟨y, _, e⟩ := List.mem_map.mp hz
      rw [← e]; split <;> omega
    · obtain ⟨s2, rfl⟩ := p
      have hi : i < ms.length := by
        have := (List.getElem?_eq_some_iff.mp hx).1
        simpa using this
      have ex : x = .int ms[i] := by
        rw [List.getElem?_map, List.getElem?_eq_getElem hi] at hx
        exact (Option.some.inj hx).symm
      subst ex
      walk_at "go"
      refine ⟨_, hp, lt_size (by simp; omega), _, upd_same, upd_free s2 hD, ?_⟩
      rw [List.take_add_one, List.getElem?_eq_getElem hi, List.map_append, List.map_append]; rfl
def sp_draw (K : PySem.W.Frag) : Sp := fun vs H Q _ => ∃ (B : Bg) (m : Int), vs = [.ref B.hd, .int m] ∧ BagAt K H B ∧ 0 < m ∧ m < 2 ^ 100 ∧ ∀ r H', 0 ≤ r → r < m → Hs K B H H' → Q (.int r) H'
theorem ok_law_draw (T : Txt K mg) : FnOk P w K mg base CX0 1 T.law_draw.f T.law_draw.fd ["hand", "many"] (sp_draw K) := by
  refine T.law_draw.F.ok sc_law_draw (fun vs H Q E h => ?_) (fun cdv A outer s H vs Q E hr h => ?_)
  · obtain ⟨a, b, rfl, _⟩ := h
    rfl
  · obtain ⟨⟨hd, g, ns⟩, m, rfl, ⟨i, big, mix, c, h1, h2, h3, h4, hn, h5, h6, h7, h8, h9⟩, hm, hM, k⟩ := h
    dsimp only at h1 h2 h3 h4 hn k ⊢
    refine ⟨_, (Evl.pss_cut (ps_if (PW.pt (pw_and (pt_cmpR (oEq (K := K) hr.units) (pe_ix (ixLT (K := K)) (pv 0) pe_int (fun _ _ => rfl)) pe_int (nomark _)) (pw_and1 (pt_cmpR oLt (pe_ix (ixLT (K := K)) (pv 0) pe_int (fun _ _ => rfl)) (pe_callB (cLen (K := K)) (by rfl) T.z_len PySem.boot_len (pa_cons (pe_ix (ixLT (K := K)) (pv 0) pe_int (fun _ _ => rfl)) pa_nil)) (nomark _))))) (pss_cons (ps_set (i := 2) sc_law_draw.nd rfl (Or.inl rfl) (pe_ix (ixLT (K := K)) (pe_ix (ixLT (K := K)) (pv 0) pe_int (fun _ _ => rfl)) (pe_ix (ixLT (K := K)) (pv 0) pe_int (fun _ _ => rfl)) (fun _ _ => rfl)))
    (pss_cons (ps_asg (pe_op oAdd (pe_ix (ixLT (K := K)) (pv 0) pe_int (fun _ _ => rfl)) pe_int) (pg_sub (pv 0) pe_int set_list))
    (pss_cons (ps_asg (pe_op op_mod (pe_callTy cInt (by rfl) T.z_int (by decide +kernel) (pa_cons (pe_op oAdd (pe_op oAdd (pe_op oMul (pe_ix (ixLT (K := K)) (pv 0) pe_int (fun _ _ => rfl)) pe_int) (pv 2)) pe_int) pa_nil)) pe_int) (pg_sub (pv 0) pe_int set_list))
    (pss_one (ps_if (pt_cmpR op_ge (pv 2) (pe_op op_pow pe_int pe_int) (nomark _)) (pss_one (ps_asg (pv 2) (pg_sub (pv 0) pe_int set_list))) pss_nil))))) pss_nil)
    (pss_cons (ps_if (pt_cmpR op_gt (pe_ix (ixLT (K := K)) (pv 0) pe_int (fun _ _ => rfl)) pe_int (nomark _)) (pss_cons (ps_set (i := 3) sc_law_draw.nd rfl (Or.inl rfl) (pe_op op_mod (pe_callTy cInt (by rfl) T.z_int (by decide +kernel) (pa_cons (pe_ix (ixLT (K := K)) (pv 0) pe_int (fun _ _ => rfl)) pa_nil)) (pv 1)))
    (pss_cons (ps_asg (pe_op op_fdivW (pe_ix (ixLT (K := K)) (pv 0) pe_int (fun _ _ => rfl)) (pv 1)) (pg_sub (pv 0) pe_int set_list))
    (pss_one (ps_ret (pv 3))))) pss_nil)
    (pss_cons (ps_asg (pe_op oAdd (pe_ix (ixLT (K := K)) (pv 0) pe_int (fun _ _ => rfl)) pe_int) (pg_sub (pv 0) pe_int set_list))
    (pss_cons (ps_set (i := 4) sc_law_draw.nd rfl (Or.inl rfl) (pe_op op_mod (pe_callTy cInt (by rfl) T.z_int (by decide +kernel) (pa_cons (pe_op oMul (pe_callTy cInt (by rfl) T.z_int (by decide +kernel) (pa_cons (pe_op oAdd (pe_ix (ixLT (K := K)) (pv 0) pe_int (fun _ _ => rfl)) (pe_op oMul pe_int (pe_ix (ixLT (K := K)) (pv 0) pe_int (fun _ _ => rfl)))) pa_nil)) pe_int) pa_nil)) pe_int))
    (pss_cons (ps_set (i := 4) sc_law_draw.nd rfl (Or.inl rfl) (pe_op op_mod (pe_callTy cInt (by rfl) T.z_int (by decide +kernel) (pa_cons (pe_op oMul (pv 4) (pe_op oAdd (pe_op op_fdivW (pv 4) pe_int) pe_int)) pa_nil)) pe_int))
    (pss_cons (ps_set (i := 4) sc_law_draw.nd rfl (Or.inl rfl) (pe_op op_mod (pe_callTy cInt (by rfl) T.z_int (by decide +kernel) (pa_cons (pe_op oMul (pv 4) (pe_op oAdd (pe_op op_fdivW (pv 4) pe_int) pe_int)) pa_nil)) pe_int))
    (pss_one (ps_ret (pe_op op_mod (pe_callTy cInt (by rfl) T.z_int (by decide +kernel) (pa_cons (pe_op op_fdivW (pv 4) pe_int) pa_nil)) (pv 1)))))))))), ?_⟩
    walk_at "go"
    refine s_cut (fun σ2 H2 => Oth hd H H2 ∧ ∃ i' big' mix' : Int, ∃ y2, σ2 = [some (.ref hd), some (.int m), y2, none, none] ∧ H2 hd = some (.lst [.ref g, .int i', .int big', .int mix', .int c]) ∧ 0 ≤ i' ∧ 0 ≤ big' ∧ 0 ≤ mix' ∧ mix' < 2147483648) ?_ ?_
    · walk_at "go"
      have self : Oth hd H H := fun _ _ _ z => z
      refine i_d (fun q1 => ?_) (fun q1 => ?_)
      · walk_at "go"
        refine i_d (fun q2 => ?_) (fun q2 => ?_)
        · walk_at "go"
          have hj : i.toNat < ns.length := by omega
          refine o_ixL (slO h2) (atI_map i.toNat (by omega) hj) ?_
          have c0 := hn _ (getD_mem hj)
          generalize ns.getD i.toNat 0 = cell at *
          walk_at "go"
          intro H1 o1 e1
          walk_at "go"
          intro H2 o2 e2
          have m0 : 0 ≤ (mix * 69621 + cell + 11) % 2147483629 := Int.emod_nonneg _ (by omega)
          have m1 : (mix * 69621 + cell + 11) % 2147483629 < 2147483629 := Int.emod_lt_of_pos _ (by omega)
          generalize (mix * 69621 + cell + 11) % 2147483629 = mix2 at *
          walk_at "go"
          refine i_d (fun q3 => ?_) (fun q3 => ?_)
          · walk_at "go"
            intro H3 o3 e3
            exact ⟨o1.trans (o2.trans o3), i + 1, cell, mix2, _, rfl, e3, by omega, by omega, by omega, by omega⟩
          · walk_at "go"
            exact ⟨o1.trans o2, i + 1, big, mix2, _, rfl, e2, by omega, by omega, by omega, by omega⟩
        · walk_at "go"
          exact ⟨self, i, big, mix, none, rfl, h1, h5, h6, h7, h8⟩
      · walk_at "go"
        exact ⟨self, i, big, mix, none, rfl, h1, h5, h6, h7, h8⟩
    · rintro σ2 H2 ⟨o1, i', big', mix', y2, rfl, e1, g5, g6, g7, g8⟩
      have g1 : H2 g = some (.lst (ns.map V.int)) := o1 _ _ h3 h2
      clear h1 h5 h6 h7 h8
      walk_at "go"
      refine i_d (fun q1 => ?_) (fun q1 => ?_)
      · walk_at "go"
        intro H3 o3 e3
        walk_at "go"
        exact k _ _ (Int.emod_nonneg _ (by omega)) (Int.emod_lt_of_pos _ hm) ⟨o1.trans o3, i', big' / m, mix', c, e3, o3 _ _ h3 g1, h3, h4, hn, g5, Int.ediv_nonneg g6 (by omega), g7, g8, h9⟩
      · walk_at "go"
        intro H3 o3 e3
        walk_at "go"
        exact k _ _ (Int.emod_nonneg _ (by omega)) (Int.emod_lt_of_pos _ hm) ⟨o1.trans o3, i', big', mix', c + 1, e3, o3 _ _ h3 g1, h3, h4, hn, g5, g6, g7, g8, by omega⟩
theorem piZipA {X : Cx} {K : PySem.W.Frag} {e e2 : Expr} {ta : TA} {p pos tpos : Pos} {elts : List Expr} {kk : Nat} (hg : Gl X "zip") (hm : X.mg "zip" = none) (ha : PA X [e, e2] ta) (eK : X.K = K := by rfl)
    (h1 : starEach [e, e2] X.env = (false, eval e X.env) :: starEach [e2] X.env := by rfl) (h2 : ((backTo pos (starEach [e2] X.env)).any fun x => x.1) = false := by rfl) : PI X (.Tuple elts kk tpos) (.Call (.Name "zip" p) [e, e2] [] pos) (RZ.iZipA K ta) := by
  cases eK
  exact RZ.pi_zipA hg hm ha h1 h2
/-! ### the law's own judges -/
def sp_lint (K : PySem.W.Frag) : Sp := fun vs H Q _ => ∃ x N d lo hi, vs = [x, .int lo, .int hi] ∧ Dq K N H x d ∧ Q (.bl (withinD d lo hi)) H
theorem ok_law_is_int (T : Txt K mg) : FnOk P w K mg base CX0 1 T.law_is_int.f T.law_is_int.fd ["thing", "least", "most"] (sp_lint K) := by
  refine T.law_is_int.F.ok sc_law_is_int (fun vs H Q E h => ?_) (fun cdv A outer s H vs Q E hr h => ?_)
  · obtain ⟨x, N, d, lo, hi, rfl, _⟩ := h
    rfl
  · obtain ⟨x, N, d, lo, hi, rfl, hd, k⟩ := h
    refine ⟨_, (pss_one (ps_ret (pe_and (pe_callB (cIsi (K := K)) (by rfl) T.z_isinstance (by decide +kernel) (pa_cons (pv 0) (pa_cons (pe_bltn (v := .ty "int") (by rfl) T.z_int (by decide +kernel) rfl) pa_nil))) (pe_and (pe_not (pe_callB (cIsi (K := K)) (by rfl) T.z_isinstance (by decide +kernel) (pa_cons (pv 0) (pa_cons (pe_bltn (v := .ty "bool") (by rfl) T.z_bool (by decide +kernel) rfl) pa_nil)))) (pe_one (pe_chain op_le op_le (pv 1) (pv 0) (pv 2))))))), ?_⟩
    walk_at "go"
    cases id hd with
    | int a =>
      walk_at "go"
      refine i_d (fun h1 => ?_) (fun h1 => ?_)
      · walk_at "go"
        simpa [withinD, h1] using k
      · walk_at "go"
        simpa [withinD, h1] using k
    | non => walk_at "go"; exact k
    | bl b => walk_at "go"; exact k
    | str z => walk_at "go"; exact k
    | lst a n b => refine dq_isi false hd (by simp only [tyD]; decide +kernel) ?_; walk_at "go"; exact k
    | tup a b => refine dq_isi false hd (by simp only [tyD]; decide +kernel) ?_; walk_at "go"; exact k
    | dct a n b c => refine dq_isi false hd (by simp only [tyD]; decide +kernel) ?_; walk_at "go"; exact k
/-- the signs of a word -/
abbrev az : Str := "abcdefghijklmnopqrstuvwxyz"
def signB (c : Nat) : Bool := decide (c ∈ az.cps.toList)
theorem sign_is {c : Nat} (h : c < 128) : signB c = (Unicode.isAlpha c && (Unicode.isLower c)) := by
  have : (List.range 128).all (fun c => signB c == (Unicode.isAlpha c && Unicode.isLower c)) = true := by decide +kernel
  exact eq_of_beq (List.all_eq_true.mp this c (List.mem_range.mpr h))
theorem sign_lt {c : Nat} (h : signB c = true) : c < 128 := by
  have : az.cps.toList.all (fun c => decide (c < 128)) = true := by decide +kernel
  exact of_decide_eq_true (List.all_eq_true.mp this c (of_decide_eq_true h))
theorem low_up {c : Nat} (h : c < 128) : (Unicode.isAlpha c = true → Unicode.isLower c = !(Unicode.isUpper c || Unicode.isTitle c)) := by
  have : (List.range 128).all (fun c => !(Unicode.isAlpha c) || (Unicode.isLower c == !(Unicode.isUpper c || Unicode.isTitle c))) = true := by decide +kernel
  intro e
  have := List.all_eq_true.mp this c (List.mem_range.mpr h)
  rw [e] at this
  exact eq_of_beq this
theorem word_signs {z : Str} (hl : z.length ≤ 12) : z.cps.all signB = wordB z := by
  unfold wordB
  rw [decide_eq_true hl, Bool.true_and]
  by_cases e : z = ""
  · subst e; decide +kernel
  · rw [decide_eq_false e, Bool.false_or]
    have hz : 0 < z.cps.size := by
      rcases Nat.eq_zero_or_pos z.cps.size with q | q
      · exact absurd (by cases z with | mk c => (have : c = #[] := Array.eq_empty_of_size_eq_zero q); subst this; rfl) e
      · exact q
    apply Bool.eq_iff_iff.mpr
    constructor
    · intro h
      rw [Array.all_eq_true'] at h
      have h1 : ∀ c ∈ z.cps, c < 128 := fun c hc => sign_lt (h c hc)
      have h2 : ∀ c ∈ z.cps, Unicode.isAlpha c = true ∧ Unicode.isLower c = true := fun c hc => by
        have := h c hc
        rw [sign_is (h1 c hc), Bool.and_eq_true] at this
        exact this
      rw [Bool.and_eq_true, Bool.and_eq_true]
      refine ⟨?_, ?_, ?_⟩
      · unfold Txt.isascii
        rw [Array.all_eq_true']
        exact fun c hc => decide_eq_true (h1 c hc)
      · unfold Txt.isalpha
        rw [Bool.and_eq_true]
        refine ⟨decide_eq_true hz, ?_⟩
        rw [Array.all_eq_true']
        exact fun c hc => (h2 c hc).1
      · unfold Txt.islower
        rw [Bool.and_eq_true]
        refine ⟨?_, ?_⟩
        · rw [Array.any_eq_true']
          have hm : z.cps[0] ∈ z.cps := Array.getElem_mem hz
          exact ⟨_, hm, (h2 _ hm).2⟩
        · rw [Bool.not_eq_true', ← Bool.not_eq_true, Array.any_eq_true']
          rintro ⟨c, hc, e⟩
          have := low_up (h1 c hc) (h2 c hc).1
          rw [(h2 c hc).2, e] at this
          cases this
    · intro h
      rw [Bool.and_eq_true, Bool.and_eq_true] at h
      obtain ⟨h1, h2, h3⟩ := h
      unfold Txt.isascii at h1
      unfold Txt.isalpha at h2
      unfold Txt.islower at h3
      rw [Bool.and_eq_true] at h2 h3
      rw [Array.all_eq_true'] at h1 ⊢
      have h2 := h2.2
      rw [Array.all_eq_true'] at h2
      intro c hc
      have l := of_decide_eq_true (h1 c hc)
      rw [sign_is l, Bool.and_eq_true]
      refine ⟨h2 c hc, ?_⟩
      rw [low_up l (h2 c hc)]
      have h3 := h3.2
      rw [Bool.not_eq_true', ← Bool.not_eq_true, Array.any_eq_true'] at h3
      cases e : (Unicode.isUpper c || Unicode.isTitle c) with
      | false => rfl
      | true => exact absurd ⟨c, hc, e⟩ h3
theorem empty_len {z : Str} : z = "" ↔ z.length = 0 := by
  constructor
  · rintro rfl; rfl
  · intro q
    cases z with
    | mk c =>
      have : c = #[] := Array.eq_empty_of_size_eq_zero q
      subst this; rfl
def sp_lkey (K : PySem.W.Frag) : Sp := fun vs H Q _ => ∃ x N d, vs = [x] ∧ Dq K N H x d ∧ smD d = true ∧ ∀ H', Same H H' → Q (.bl (isKD d)) H'
theorem ok_law_is_key (T : Txt K mg) : FnOk P w K mg base CX0 1 T.law_is_key.f T.law_is_key.fd ["thing"] (sp_lkey K) := by
  refine T.law_is_key.F.ok sc_law_is_key (fun vs H Q E h => ?_) (fun cdv A outer s H vs Q E hr h => ?_)
  · obtain ⟨x, N, d, rfl, _⟩ := h
    rfl
  · obtain ⟨x, N, d, rfl, hd, hp, k⟩ := h
    refine ⟨_, (pss_cons (ps_if (PW.pt (pw_or (pt_not (ptTruth (K := K) (pe_callB (cIsi (K := K)) (by rfl) T.z_isinstance (by decide +kernel) (pa_cons (pv 0) (pa_cons (pe_bltn (v := .ty "str") (by rfl) T.z_str (by decide +kernel) rfl) pa_nil))) (by intro _; rfl))) (pw_or1 (pt_not (pt_chain op_le op_le pe_int (pe_callB (cLen (K := K)) (by rfl) T.z_len PySem.boot_len (pa_cons (pv 0) pa_nil)) pe_int))))) (pss_one (ps_ret pe_bl)) pss_nil)
    (pss_one (ps_ret (pe_callB (cAll (K := K) rfl) (by rfl) T.z_all (by decide +kernel) (pa_cons (pe_lc (own := [("sign", 1)]) rfl sc_law_is_key.nd (pi_str (pv 0)) (blkOk_by (N := n_law_is_key) (sc := defScope s_law_is_key) (by decide +kernel)) (fun _ _ _ _ _ => (pg_name (i := 1) sc_law_is_key.nd rfl (Or.inl rfl))) (fun _ _ _ _ _ => pts_nil) (fun _ _ _ _ _ => (pe_cmpR op_in_sign (pv 1) pe_str (by rfl)))) pa_nil))))), ?_⟩
    walk_at "go"
    cases id hd with
    | int i => walk_at "go"; exact k _ (Same.refl _)
    | non => walk_at "go"; exact k _ (Same.refl _)
    | bl b => walk_at "go"; exact k _ (Same.refl _)
    | lst a n b => refine dq_isi false hd (by simp only [tyD]; decide +kernel) ?_; walk_at "go"; exact k _ (Same.refl _)
    | tup a b => refine dq_isi false hd (by simp only [tyD]; decide +kernel) ?_; walk_at "go"; exact k _ (Same.refl _)
    | dct a n b c => refine dq_isi false hd (by simp only [tyD]; decide +kernel) ?_; walk_at "go"; exact k _ (Same.refl _)
    | str z =>
      have hz : z.length ≤ 100000 := of_decide_eq_true hp
      have k : ∀ H', Same H H' → Q (.bl (wordB z && !decide (z = ""))) H' := k
      walk_at "go"
      refine e_lenS hz ?_
      refine o_I0 ⟨_, rfl, ?_⟩
      by_cases q0 : z.length = 0
      · refine i_df (show ¬ (1 : Int) ≤ (z.length : Int) by omega) ?_
        rw [decide_eq_true (empty_len.mpr q0), Bool.not_true, Bool.and_false] at k
        walk_at "go"
        exact k _ (Same.refl _)
      refine i_dt (show (1 : Int) ≤ (z.length : Int) by omega) ?_
      rw [decide_eq_false (fun e => q0 (empty_len.mp e)), Bool.not_false, Bool.and_true] at k
      by_cases q : z.length ≤ 12
      · rw [← word_signs q] at k
        walk_at "go"
        refine ⟨_, rfl, z, rfl, ?_⟩
        refine c_it walk_str (fun i acc H1 => Same H H1 ∧ acc = ((z.cps.toList.take i).map signB).map V.bl) (fun D hD => ⟨upd_free (Same.refl _) hD, rfl⟩) (fun i acc H1 hi p => trivial) (fun acc D H1 nD hD p => ?_) (fun i x acc H1 H2 D hi nD hD p y => ?_)
        · obtain ⟨p1, rfl⟩ := p
          walk_at "go"
          refine e_allB hD ?_
          have e : (List.map signB (List.take z.cps.size z.cps.toList)).all id = z.cps.all signB := by
            have l : z.cps.toList.length = z.cps.size := Array.length_toList
            rw [← l, List.take_length, List.all_map, l, Array.all_toList]; rfl
          rw [e]
          walk_at "go"
          exact k _ p1
        · obtain ⟨p1, rfl⟩ := p
          obtain ⟨rfl, c, hc, rfl⟩ := y
          walk_at "go"
          refine ⟨rfl, ?_⟩
          walk_at "go"
          refine ⟨c, _, rfl, rfl, ?_⟩
          have hi2 : i < z.cps.size := hi
          have hz2 : z.cps.size ≤ 12 := q
          refine ⟨_, hD, lt_size (by rw [List.length_map, List.length_map, List.length_take, Array.length_toList]; omega), _, upd_same, upd_free p1 nD, ?_⟩
          rw [List.take_add_one, Array.getElem?_toList, hc, List.map_append, List.map_append]; rfl
      · have e : wordB z = false := by unfold wordB; rw [decide_eq_false (show ¬ z.length ≤ 12 by omega)]; rfl
        rw [e] at k
        walk_at "go"
        exact k _ (Same.refl _)
theorem walk_zipT {K : PySem.W.Frag} {a b : Addr} {xs ys : List V} {n : Nat} (hn : n = min xs.length ys.length) : Walk (RZ.ItzT K a b) n (fun H => SqT K H a xs ∧ SqT K H b ys) (YPair (fun i => xs[i]?) (fun i => ys[i]?)) := by
  refine ⟨fun i H hi g => ?_, fun H g => ⟨xs, ys, g.1, g.2, by omega⟩, fun i H x H' hi g y => ?_⟩
  · have h1 : i < xs.length := by omega
    have h2 : i < ys.length := by omega
    exact ⟨xs, ys, _, _, g.1, g.2, List.getElem?_eq_getElem h1, List.getElem?_eq_getElem h2⟩
  · obtain ⟨T, x, y, e1, e2, e3, e4, e5⟩ := y
    exact ⟨T, x, y, e1, e2, e3, e4 xs g.1, e5 ys g.2⟩
def ZaQ (K : PySem.W.Frag) (R : It → Hp → Prop) (vs : List V) (H1 : Hp) : Prop := ∃ a b xs ys, vs = [V.ref a, V.ref b] ∧ (SqL K H1 a xs ∧ SqL K H1 b ys ∧ R (Itz K a b) H1 ∨ SqT K H1 a xs ∧ SqT K H1 b ys ∧ R (RZ.ItzT K a b) H1)
theorem i_zipA0 {K : PySem.W.Frag} {σ : L2.St} {H : Hp} {R : It → Hp → Prop} {ta : TA} (h : ta σ H fun vs H1 => ZaQ K R vs H1) : RZ.iZipA K ta σ H R := h
theorem cut1 {xs : List V} : cutV xs (some 1) none = xs.drop 1 := cut_from (i := 1)
theorem ascD_len {ds : List PyData} {n : Nat} (h : n = ds.length) : ((List.range (n - 1)).map (ascF ds)).all id = ascD ds := by rw [h]; rfl
def sp_lkeys (K : PySem.W.Frag) : Sp := fun vs H Q _ => ∃ x N d, vs = [x] ∧ Dq K N H x d ∧ szD d = true ∧ ∀ H', Same H H' → Q (.bl (keysD d)) H'
theorem ok_law_are_keys (T : Txt K mg) : FnOk P w K mg base CX0 2 T.law_are_keys.f T.law_are_keys.fd ["thing"] (sp_lkeys K) := by
  refine T.law_are_keys.F.ok sc_law_are_keys (fun vs H Q E h => ?_) (fun cdv A outer s H vs Q E hr h => ?_)
  · obtain ⟨x, N, d, rfl, _⟩ := h
    rfl
  · obtain ⟨x, N, d, rfl, hd, hz, k⟩ := h
    refine ⟨_, (pss_cons (ps_if (PW.pt (pw_or (pt_not (ptTruth (K := K) (pe_callB (cIsi (K := K)) (by rfl) T.z_isinstance (by decide +kernel) (pa_cons (pv 0) (pa_cons (pe_bltn (v := .ty "tuple") (by rfl) T.z_tuple (by decide +kernel) rfl) pa_nil))) (by intro _; rfl))) (pw_or1 (pt_not (ptTruth (K := K) (pe_callB (cAll (K := K) rfl) (by rfl) T.z_all (by decide +kernel) (pa_cons (pe_lc (own := [("key", 1)]) rfl sc_law_are_keys.nd (piT (K := K) (pv 0)) (blkOk_by (N := n_law_are_keys) (sc := defScope s_law_are_keys) (by decide +kernel)) (fun _ _ _ _ _ => (pg_name (i := 1) sc_law_are_keys.nd rfl (Or.inl rfl))) (fun _ _ _ _ _ => pts_nil) (fun _ _ _ _ _ => (pe_call (ok_law_is_key T) (hr.mono (by decide)) (by rfl) T.law_is_key.g T.law_is_key.F.kp T.law_is_key.b .nil pass0 (pa_cons (pv 1) pa_nil)))) pa_nil)) (by intro _; rfl)))))) (pss_one (ps_ret pe_bl)) pss_nil)
    (pss_one (ps_ret (pe_callB (cAll (K := K) rfl) (by rfl) T.z_all (by decide +kernel) (pa_cons (pe_lc (own := [("one", 2), ("other", 3)]) rfl sc_law_are_keys.nd (piZipA (K := K) (by rfl) T.z_zip (pa_cons (pv 0) (pa_cons (pe_slice (slT (K := K)) (pv 0) (po_some pe_int) po_none) pa_nil))) (blkOk_by (N := n_law_are_keys) (sc := defScope s_law_are_keys) (by decide +kernel)) (fun _ _ _ _ _ => (pgTup (K := K) (n := 2) (pg_tup (n := 2) rfl (pgs_cons (pg_name (i := 2) sc_law_are_keys.nd rfl (Or.inl rfl)) (pgs_cons (pg_name (i := 3) sc_law_are_keys.nd rfl (Or.inl rfl)) pgs_nil))))) (fun _ _ _ _ _ => pts_nil) (fun _ _ _ _ _ => (pe_cmpR (oLtX (K := K) hr.units) (pv 2) (pv 3) (nomark _)))) pa_nil))))), ?_⟩
    walk_at "go"
    cases id hd with
    | int i => walk_at "go"; exact k _ (Same.refl _)
    | non => walk_at "go"; exact k _ (Same.refl _)
    | bl b => walk_at "go"; exact k _ (Same.refl _)
    | str z => walk_at "go"; exact k _ (Same.refl _)
    | lst a n b => refine dq_isi false hd (by simp only [tyD]; decide +kernel) ?_; walk_at "go"; exact k _ (Same.refl _)
    | dct a n b c => refine dq_isi false hd (by simp only [tyD]; decide +kernel) ?_; walk_at "go"; exact k _ (Same.refl _)
    | @tup a ys ds hS hA =>
      obtain ⟨hl, hza⟩ := sz_tup hz
      have ll := hA.len
      walk_at "go"
      refine i_tup hS ?_
      refine c_tup (xs := ys) (fun i acc H1 => Same H H1 ∧ acc = ((ds.take i).map isKD).map V.bl) (fun D hD => ⟨upd_free (Same.refl _) hD, rfl⟩) (fun i acc H1 hi p => st_ p.1 hS) (fun acc D H1 hD hp p => ?_) (fun _ => rfl) (fun i x acc H1 D hx hD hp p => ?_)
      · obtain ⟨p1, rfl⟩ := p
        walk_at "go"
        refine e_allB hp ?_
        have e0 : (List.map isKD (List.take ys.length ds)).all id = ds.all isKD := by
          rw [ll, List.take_length, List.all_map]; rfl
        rw [e0]
        have k : ∀ H', Same H H' → Q (.bl (ds.all isKD && ascD ds)) H' := k
        cases e1 : ds.all isKD with
        | false =>
          rw [e1] at k
          walk_at "go"
          exact k _ p1
        | true =>
          rw [e1, Bool.true_and] at k
          have hS1 := st_ p1 hS
          have hA1 := hA.same p1
          walk_at "go"
          refine i_zipA0 ?_
          walk_at "go"
          refine r_slT hS1 fun c H2 s2 h2 => ?_
          rw [cut1] at h2
          have hS2 := st_ s2 hS1
          have hA2 := hA1.same s2
          refine ⟨a, c, _, _, rfl, .inr ⟨hS2, h2, ?_⟩⟩
          have ln : (ys.drop 1).length = ys.length - 1 := List.length_drop ..
          refine c_it (walk_zipT (xs := ys) (ys := ys.drop 1) (n := ys.length - 1) (by rw [ln]; omega)) (fun i acc H' => Same H2 H' ∧ acc = ((List.range i).map (ascF ds)).map V.bl) (fun D hD => ⟨upd_free (Same.refl _) hD, rfl⟩) (fun i acc H' hi p => ⟨st_ p.1 hS2, st_ p.1 h2⟩) (fun acc D H3 nD hD p => ?_) (fun i x acc H3 H4 D hi nD hD p y => ?_)
          · obtain ⟨s3, rfl⟩ := p
            walk_at "go"
            refine e_allB hD ?_
            rw [ascD_len ll]
            walk_at "go"
            exact k _ (p1.trans (s2.trans s3))
          · obtain ⟨s3, rfl⟩ := p
            obtain ⟨tt, x, y, rfl, nt, rfl, ex, ey⟩ := y
            have ex : ys[i]? = some x := ex
            have ey : (ys.drop 1)[i]? = some y := ey
            rw [List.getElem?_drop, Nat.add_comm] at ey
            have sn : Same H3 (upd H3 tt (.tup [x, y])) := Same.new nt
            obtain ⟨d0, f0, q0⟩ := (hA2.same (s3.trans sn)).get ex
            obtain ⟨d1, f1, q1⟩ := (hA2.same (s3.trans sn)).get ey
            have g0 : ds.getD i .none = d0 := by rw [List.getD_eq_getElem?_getD, f0]; rfl
            have g1 : ds.getD (i + 1) .none = d1 := by rw [List.getD_eq_getElem?_getD, f1]; rfl
            have i0 : i < ds.length := (List.getElem?_eq_some_iff.mp f0).1
            have i1 : i + 1 < ds.length := (List.getElem?_eq_some_iff.mp f1).1
            refine g_pairS (stO upd_same) ⟨rfl, ?_⟩
            walk_at "go"
            refine ⟨N, N, d0, d1, q0, q1, g0 ▸ g1 ▸ lt_keys (all_getD e1 i0) (all_getD e1 i1), ?_⟩
            refine ⟨_, sn _ _ hD, lt_size (by rw [List.length_map, List.length_map, List.length_range]; omega), _, upd_same, upd_free (s3.trans sn) nD, ?_⟩
            rw [List.range_succ, List.map_append, List.map_append, ← g0, ← g1]; rfl
      · obtain ⟨p1, rfl⟩ := p
        obtain ⟨d, ed, hdx⟩ := hA.get hx
        have hi : i < ds.length := (List.getElem?_eq_some_iff.mp ed).1
        walk_at "go"
        refine ⟨x, N, d, rfl, hdx.same p1, sz_sm (szAll_mem hza (List.mem_of_getElem? ed)), fun H2 s2 => ?_⟩
        refine ⟨_, at_ s2 hp, lt_size (by simp; omega), _, upd_same, upd_free (p1.trans s2) hD, ?_⟩
        rw [List.take_add_one, ed, List.map_append, List.map_append]; rfl
end



section
variable {P : Program} {w : World} {K : PySem.W.Frag} {mg : Str → Option Value} {base : Heap}
/-! ### the law's judges of ranges and of writes -/
theorem leS_le {a b : Str} : leS a b = true ↔ a.cps.toList ≤ b.cps.toList := by
  unfold leS
  rw [PySem.W.not_lt_str]
  exact ⟨of_decide_eq_true, decide_eq_true⟩
theorem leS_lt (a b : Str) : leS a b = !PySem.W.dataLt (.str b) (.str a) := by
  unfold leS
  rw [PySem.W.dataLt_str]
theorem asc_str {ks : List Str} (h : ascD (ks.map PyData.str) = true) : ∀ (d k : Nat), k + d < ks.length → leS (ks.getD k "") (ks.getD (k + d) "") = true
  | 0, k, _ => leS_le.mpr (List.le_refl _)
  | d + 1, k, e => by
    refine leS_le.mpr (List.le_trans (leS_le.mp (asc_str h d k (by omega))) ?_)
    unfold ascD at h
    rw [List.all_map, List.all_eq_true] at h
    have h1 := h (k + d) (List.mem_range.mpr (by rw [List.length_map]; omega))
    have h1 : ascF (ks.map PyData.str) (k + d) = true := h1
    unfold ascF at h1
    have g : ∀ j, j < ks.length → (ks.map PyData.str).getD j .none = .str (ks.getD j "") := fun j hj => by
      rw [List.getD_eq_getElem?_getD, List.getD_eq_getElem?_getD, List.getElem?_map, List.getElem?_eq_getElem hj]; rfl
    rw [g _ (by omega), g _ (by omega), PySem.W.dataLt_str] at h1
    exact List.le_of_lt (of_decide_eq_true h1)
theorem ends_all {a b : Str} {ks : List Str} (h : ascD (ks.map PyData.str) = true) : endsD (.str a) (.str b) (.tuple (ks.map PyData.str)) = ks.all fun k => leS a k && leS k b := by
  have def_ : endsD (.str a) (.str b) (.tuple (ks.map PyData.str)) = (decide ((ks.map PyData.str).length = 0) || (!PySem.W.dataLt ((ks.map PyData.str).getD 0 .none) (.str a) && !PySem.W.dataLt (.str b) (lastD (ks.map PyData.str)))) := rfl
  have g : ∀ j, j < ks.length → (ks.map PyData.str).getD j .none = .str (ks.getD j "") := fun j hj => by
    rw [List.getD_eq_getElem?_getD, List.getD_eq_getElem?_getD, List.getElem?_map, List.getElem?_eq_getElem hj]; rfl
  rw [def_, List.length_map]
  by_cases z : ks.length = 0
  · have : ks = [] := List.eq_nil_of_length_eq_zero z
    subst this; rfl
  · have e1 : lastD (ks.map PyData.str) = .str (ks.getD (ks.length - 1) "") := by
      unfold lastD
      rw [List.length_map, g _ (by omega)]
    rw [decide_eq_false z, Bool.false_or, e1, g _ (by omega), ← leS_lt, ← leS_lt]
    have at_ : ∀ k ∈ ks, ∃ j, j < ks.length ∧ ks.getD j "" = k := fun k hk => by
      obtain ⟨j, hj, e⟩ := List.getElem_of_mem hk
      exact ⟨j, hj, by rw [List.getD_eq_getElem?_getD, List.getElem?_eq_getElem hj]; exact e⟩
    apply Bool.eq_iff_iff.mpr
    rw [Bool.and_eq_true, List.all_eq_true]
    constructor
    · intro ⟨h1, h2⟩ k hk
      obtain ⟨j, hj, rfl⟩ := at_ k hk
      have s1 := asc_str h j 0 (by omega)
      have s2 := asc_str h (ks.length - 1 - j) j (by omega)
      rw [Nat.zero_add] at s1
      rw [show j + (ks.length - 1 - j) = ks.length - 1 by omega] at s2
      rw [Bool.and_eq_true]
      exact ⟨leS_le.mpr (List.le_trans (leS_le.mp h1) (leS_le.mp s1)), leS_le.mpr (List.le_trans (leS_le.mp s2) (leS_le.mp h2))⟩
    · intro q
      have m : ∀ j, j < ks.length → ks.getD j "" ∈ ks := fun j hj => by
        rw [List.getD_eq_getElem?_getD, List.getElem?_eq_getElem hj]
        exact List.getElem_mem hj
      have q1 := q _ (m 0 (by omega))
      have q2 := q _ (m (ks.length - 1) (by omega))
      rw [Bool.and_eq_true] at q1 q2
      exact ⟨q1.1, q2.2⟩
theorem g_nm {i : Nat} {v : V} {σ : L2.St} {H : Hp} {R : L2.St → Hp → Prop} (h : R (σ.set i (some v)) H) : gName i v σ H R := h
def sp_lranges (K : PySem.W.Frag) : Sp := fun vs H Q _ => ∃ x N d, vs = [x] ∧ Dq K N H x d ∧ szD d = true ∧ ∀ H', Same H H' → Q (.bl (rangesD d)) H'
theorem ok_law_are_ranges (T : Txt K mg) : FnOk P w K mg base CX0 3 T.law_are_ranges.f T.law_are_ranges.fd ["thing"] (sp_lranges K) := by
  refine T.law_are_ranges.F.ok sc_law_are_ranges (fun vs H Q E h => ?_) (fun cdv A outer s H vs Q E hr h => ?_)
  · obtain ⟨x, N, d, rfl, _⟩ := h
    rfl
  · obtain ⟨x, N, d, rfl, hd, hz, k⟩ := h
    refine ⟨_, (pss_cons (ps_if (pt_not (ptTruth (K := K) (pe_callB (cIsi (K := K)) (by rfl) T.z_isinstance (by decide +kernel) (pa_cons (pv 0) (pa_cons (pe_bltn (v := .ty "tuple") (by rfl) T.z_tuple (by decide +kernel) rfl) pa_nil))) (by intro _; rfl))) (pss_one (ps_ret pe_bl)) pss_nil)
    (pss_cons (ps_for PassesOwn.never rfl (piT (K := K) (pv 0)) (pg_name (i := 1) sc_law_are_ranges.nd rfl (Or.inr rfl))
      (pss_cons (ps_if (PW.pt (pw_or (pt_not (ptTruth (K := K) (pe_callB (cIsi (K := K)) (by rfl) T.z_isinstance (by decide +kernel) (pa_cons (pv 1) (pa_cons (pe_bltn (v := .ty "tuple") (by rfl) T.z_tuple (by decide +kernel) rfl) pa_nil))) (by intro _; rfl))) (pw_or (pt_cmpR (oNe (K := K) hr.units) (pe_callB (cLen (K := K)) (by rfl) T.z_len PySem.boot_len (pa_cons (pv 1) pa_nil)) pe_int (nomark _)) (pw_or (pt_not (ptTruth (K := K) (pe_call (ok_law_is_key T) (hr.mono (by decide)) (by rfl) T.law_is_key.g T.law_is_key.F.kp T.law_is_key.b .nil pass0 (pa_cons (pe_ix (ixLT (K := K)) (pv 1) pe_int (fun _ _ => rfl)) pa_nil)) (by intro _; rfl))) (pw_or1 (pt_not (ptTruth (K := K) (pe_call (ok_law_is_key T) (hr.mono (by decide)) (by rfl) T.law_is_key.g T.law_is_key.F.kp T.law_is_key.b .nil pass0 (pa_cons (pe_ix (ixLT (K := K)) (pv 1) pe_int (fun _ _ => rfl)) pa_nil)) (by intro _; rfl)))))))) (pss_one (ps_ret pe_bl)) pss_nil)
    (pss_one (ps_if (PW.pt (pw_or (pt_cmpR (oGtX (K := K) hr.units) (pe_ix (ixLT (K := K)) (pv 1) pe_int (fun _ _ => rfl)) (pe_ix (ixLT (K := K)) (pv 1) pe_int (fun _ _ => rfl)) (nomark _)) (pw_or (pt_not (ptTruth (K := K) (pe_call (ok_law_are_keys T) (hr.mono (by decide)) (by rfl) T.law_are_keys.g T.law_are_keys.F.kp T.law_are_keys.b .nil pass0 (pa_cons (pe_ix (ixLT (K := K)) (pv 1) pe_int (fun _ _ => rfl)) pa_nil)) (by intro _; rfl))) (pw_or1 (pt_not (ptTruth (K := K) (pe_callB (cAll (K := K) rfl) (by rfl) T.z_all (by decide +kernel) (pa_cons (pe_lc (own := [("key", 2)]) rfl sc_law_are_ranges.nd (piT (K := K) (pe_ix (ixLT (K := K)) (pv 1) pe_int (fun _ _ => rfl))) (blkOk_by (N := n_law_are_ranges) (sc := defScope s_law_are_ranges) (by decide +kernel)) (fun _ _ _ _ _ => (pg_name (i := 2) sc_law_are_ranges.nd rfl (Or.inl rfl))) (fun _ _ _ _ _ => pts_nil) (fun _ _ _ _ _ => (pe_chain op_le_str op_le_str (pe_ix (ixLT (K := K)) (pv 1) pe_int (fun _ _ => rfl)) (pv 2) (pe_ix (ixLT (K := K)) (pv 1) pe_int (fun _ _ => rfl))))) pa_nil)) (by intro _; rfl))))))) (pss_one (ps_ret pe_bl)) pss_nil))))
    (pss_one (ps_ret (pe_callB (cAll (K := K) rfl) (by rfl) T.z_all (by decide +kernel) (pa_cons (pe_lc (own := [("one", 1), ("other", 3)]) rfl sc_law_are_ranges.nd (piZipA (K := K) (by rfl) T.z_zip (pa_cons (pv 0) (pa_cons (pe_slice (slT (K := K)) (pv 0) (po_some pe_int) po_none) pa_nil))) (blkOk_by (N := n_law_are_ranges) (sc := defScope s_law_are_ranges) (by decide +kernel)) (fun _ _ _ _ _ => (pgTup (K := K) (n := 2) (pg_tup (n := 2) rfl (pgs_cons (pg_name (i := 1) sc_law_are_ranges.nd rfl (Or.inl rfl)) (pgs_cons (pg_name (i := 3) sc_law_are_ranges.nd rfl (Or.inl rfl)) pgs_nil))))) (fun _ _ _ _ _ => pts_nil) (fun _ _ _ _ _ => (pe_cmpR (oLtX (K := K) hr.units) (pv 1) (pv 3) (nomark _)))) pa_nil)))))), ?_⟩
    walk_at "go"
    cases id hd with
    | int i => walk_at "go"; exact k _ (Same.refl _)
    | non => walk_at "go"; exact k _ (Same.refl _)
    | bl b => walk_at "go"; exact k _ (Same.refl _)
    | str z => walk_at "go"; exact k _ (Same.refl _)
    | lst a n b => refine dq_isi false hd (by simp only [tyD]; decide +kernel) ?_; walk_at "go"; exact k _ (Same.refl _)
    | dct a n b c => refine dq_isi false hd (by simp only [tyD]; decide +kernel) ?_; walk_at "go"; exact k _ (Same.refl _)
    | @tup a ys ds hS hA =>
      obtain ⟨hl, hza⟩ := sz_tup hz
      have ll := hA.len
      have k : ∀ H', Same H H' → Q (.bl (ds.all rangeD && ascD ds)) H' := k
      walk_at "go"
      refine i_tup hS ?_
      refine l_it (walk_tup (xs := ys)) (fun i σ H' => Same H H' ∧ (ds.take i).all rangeD = true ∧ ∃ y1 y2 y3 : Option V, σ = [some (.ref a), y1, y2, y3]) ⟨Same.refl _, rfl, none, none, none, rfl⟩ (fun i σ H' hi p => st_ p.1 hS) (fun σ H' p => ?_) (fun i v σ H' H'' hi p y => ?_)
      · obtain ⟨p1, ha, y1, y2, y3, rfl⟩ := p
        rw [ll, List.take_length] at ha
        rw [ha, Bool.true_and] at k
        have hS1 := st_ p1 hS
        have hA1 := hA.same p1
        walk_at "go"
        refine i_zipA0 ?_
        walk_at "go"
        refine r_slT hS1 fun c H2 s2 h2 => ?_
        rw [cut1] at h2
        have hS2 := st_ s2 hS1
        have hA2 := hA1.same s2
        refine ⟨a, c, _, _, rfl, .inr ⟨hS2, h2, ?_⟩⟩
        have ln : (ys.drop 1).length = ys.length - 1 := List.length_drop ..
        refine c_it (walk_zipT (xs := ys) (ys := ys.drop 1) (n := ys.length - 1) (by rw [ln]; omega)) (fun i acc H' => Same H2 H' ∧ acc = ((List.range i).map (ascF ds)).map V.bl) (fun D hD => ⟨upd_free (Same.refl _) hD, rfl⟩) (fun i acc H' hi p => ⟨st_ p.1 hS2, st_ p.1 h2⟩) (fun acc D H3 nD hD p => ?_) (fun i x acc H3 H4 D hi nD hD p y => ?_)
        · obtain ⟨s3, rfl⟩ := p
          walk_at "go"
          refine e_allB hD ?_
          rw [ascD_len ll]
          walk_at "go"
          exact k _ (p1.trans (s2.trans s3))
        · obtain ⟨s3, rfl⟩ := p
          obtain ⟨tt, x, y, rfl, nt, rfl, ex, ey⟩ := y
          have ex : ys[i]? = some x := ex
          have ey : (ys.drop 1)[i]? = some y := ey
          rw [List.getElem?_drop, Nat.add_comm] at ey
          have sn : Same H3 (upd H3 tt (.tup [x, y])) := Same.new nt
          obtain ⟨d0, f0, q0⟩ := (hA2.same (s3.trans sn)).get ex
          obtain ⟨d1, f1, q1⟩ := (hA2.same (s3.trans sn)).get ey
          have g0 : ds.getD i .none = d0 := by rw [List.getD_eq_getElem?_getD, f0]; rfl
          have g1 : ds.getD (i + 1) .none = d1 := by rw [List.getD_eq_getElem?_getD, f1]; rfl
          have i0 : i < ds.length := (List.getElem?_eq_some_iff.mp f0).1
          have i1 : i + 1 < ds.length := (List.getElem?_eq_some_iff.mp f1).1
          refine g_pairS (stO upd_same) ⟨rfl, ?_⟩
          walk_at "go"
          refine ⟨N, N, d0, d1, q0, q1, g0 ▸ g1 ▸ lt_ranges (all_getD ha i0) (all_getD ha i1), ?_⟩
          refine ⟨_, sn _ _ hD, lt_size (by rw [List.length_map, List.length_map, List.length_range]; omega), _, upd_same, upd_free (s3.trans sn) nD, ?_⟩
          rw [List.range_succ, List.map_append, List.map_append, ← g0, ← g1]; rfl
      · obtain ⟨p1, ha, y1, y2, y3, rfl⟩ := p
        obtain ⟨rfl, hv⟩ := y
        obtain ⟨d, ed, hdx0⟩ := hA.get hv
        have hdx := hdx0.same p1
        have hzd := szAll_mem hza (List.mem_of_getElem? ed)
        have no : rangeD d = false → ∀ H', Same H H' → Q (.bl false) H' := fun e H' s => by
          have : ds.all rangeD = false := by
            rw [← Bool.not_eq_true]
            intro z
            rw [List.all_eq_true.mp z _ (List.mem_of_getElem? ed)] at e
            cases e
          have q := k H' s
          rwa [this, Bool.false_and] at q
        have nx : rangeD d = true → (ds.take (i + 1)).all rangeD = true := fun e => by
          rw [List.take_add_one, ed, List.all_append, ha]; simp [e]
        refine g_nm ?_
        walk_at "go"
        cases id hdx with
        | int i => walk_at "go"; exact no rfl _ p1
        | non => walk_at "go"; exact no rfl _ p1
        | bl b => walk_at "go"; exact no rfl _ p1
        | str z => walk_at "go"; exact no rfl _ p1
        | lst a n b => refine dq_isi false hdx (by simp only [tyD]; decide +kernel) ?_; walk_at "go"; exact no rfl _ p1
        | dct a n b c => refine dq_isi false hdx (by simp only [tyD]; decide +kernel) ?_; walk_at "go"; exact no rfl _ p1
        | @tup c zs es hS2 hA2 =>
          have l2 := hA2.len
          walk_at "go"
          refine i_d (fun q => ?_) (fun q => ?_)
          · walk_at "go"
            refine no ?_ _ p1
            unfold rangeD
            split
            · next e => cases e; exact absurd (by rw [l2]; rfl) q
            · rfl
          · have l3 : es.length = 3 := by omega
            match es, hA2, l3, hzd with
            | [da, db, dc], hA2, _, hzd =>
            cases hA2 with
            | @cons xa _ _ _ hda hA2 =>
            cases hA2 with
            | @cons xb _ _ _ hdb hA2 =>
            cases hA2 with
            | @cons xc _ _ _ hdc hA2 =>
            cases hA2
            have hzd := (sz_tup hzd).2
            rw [szAll, szAll, szAll, szAll, Bool.and_eq_true, Bool.and_eq_true, Bool.and_eq_true] at hzd
            obtain ⟨za, zb, zc, _⟩ := hzd
            have def_ : rangeD (.tuple [da, db, dc]) = (isKD da && (isKD db && (!PySem.W.dataLt db da && (keysD dc && endsD da db dc)))) := rfl
            rw [def_] at no nx
            walk_at "go"
            refine ⟨xa, N, da, rfl, hda, sz_sm za, fun H1 s1 => ?_⟩
            have hS2a := st_ s1 hS2
            walk_at "go"
            cases e1 : isKD da with
            | false =>
              walk_at "go"
              exact no (by rw [e1]; rfl) _ (p1.trans s1)
            | true =>
            rw [e1, Bool.true_and] at no nx
            walk_at "go"
            refine ⟨xb, N, db, rfl, hdb.same s1, sz_sm zb, fun H2 s2 => ?_⟩
            have s12 := s1.trans s2
            have hS2b := st_ s12 hS2
            walk_at "go"
            cases e2 : isKD db with
            | false =>
              walk_at "go"
              exact no (by rw [e2]; rfl) _ (p1.trans s12)
            | true =>
            rw [e2, Bool.true_and] at no nx
            walk_at "go"
            refine ⟨N, N, da, db, hda.same s12, hdb.same s12, lt_keys e1 e2, ?_⟩
            dsimp only
            walk_at "go"
            cases e3 : PySem.W.dataLt db da with
            | true =>
              walk_at "go"
              exact no (by rw [e3]; rfl) _ (p1.trans s12)
            | false =>
            rw [e3, Bool.not_false, Bool.true_and] at no nx
            walk_at "go"
            refine ⟨xc, N, dc, rfl, hdc.same s12, zc, fun H3 s3 => ?_⟩
            walk_at "go"
            have s13 := s12.trans s3
            cases e4 : keysD dc with
            | false =>
              walk_at "go"
              exact no (by rw [e4]; rfl) _ (p1.trans s13)
            | true =>
            rw [e4, Bool.true_and] at no nx
            obtain ⟨fs, rfl, ef, af⟩ := keys_inv e4
            obtain ⟨ks, rfl⟩ := keys_strs ef
            obtain ⟨sa, rfl⟩ := key_str e1
            obtain ⟨sb, rfl⟩ := key_str e2
            rw [ends_all af] at no nx
            obtain ⟨g, ws, rfl, hS3, hA3⟩ := dq_tupl (hdc.same s13)
            have ew := all_strs hA3
            subst ew
            have lk : ks.length ≤ 1000 := by
              have := (sz_tup zc).1
              rwa [List.length_map] at this
            cases hda
            cases hdb
            have hS2c := st_ s13 hS2
            walk_at "go"
            refine i_tup hS3 ?_
            refine c_tup (xs := ks.map V.str) (fun i acc H4 => Same H3 H4 ∧ acc = ((ks.take i).map fun k => leS sa k && leS k sb).map V.bl) (fun D hD => ⟨upd_free (Same.refl _) hD, rfl⟩) (fun i acc H4 hi p => st_ p.1 hS3) (fun acc D H4 hD hp p => ?_) (fun _ => rfl) (fun i x acc H4 D hx hD hp p => ?_)
            · obtain ⟨s4, rfl⟩ := p
              walk_at "go"
              refine e_allB hp ?_
              have e0 : (List.map (fun k => leS sa k && leS k sb) (List.take (ks.map V.str).length ks)).all id = ks.all fun k => leS sa k && leS k sb := by
                rw [List.length_map, List.take_length, List.all_map]; rfl
              rw [e0]
              have s14 := s13.trans s4
              cases e5 : ks.all fun k => leS sa k && leS k sb with
              | false =>
                walk_at "go"
                exact no e5 _ (p1.trans s14)
              | true =>
                walk_at "go"
                exact ⟨p1.trans s14, nx e5, _, _, _, rfl⟩
            · obtain ⟨s4, rfl⟩ := p
              have hi : i < ks.length := by
                have := (List.getElem?_eq_some_iff.mp hx).1
                simpa using this
              have ex : x = .str ks[i] := by
                rw [List.getElem?_map, List.getElem?_eq_getElem hi] at hx
                exact (Option.some.inj hx).symm
              subst ex
              have fin : ∀ b, b = (leS sa ks[i] && leS ks[i] sb) → ∃ acc, H4 D = some (.lst acc) ∧ acc.length < sizeLine ∧ ∃ acc2, upd H4 D (.lst (acc ++ [V.bl b])) D = some (.lst acc2) ∧ Same H3 (upd H4 D (.lst (acc ++ [V.bl b]))) ∧ acc2 = ((ks.take (i + 1)).map fun k => leS sa k && leS k sb).map V.bl := fun b e => by
                refine ⟨_, hp, lt_size (by simp; omega), _, upd_same, upd_free s4 hD, ?_⟩
                rw [List.take_add_one, List.getElem?_eq_getElem hi, List.map_append, List.map_append, e]; rfl
              have hS2d := st_ s4 hS2c
              walk_at "go"
              refine ⟨sa, ks[i], rfl, rfl, leS sa ks[i], rfl, ?_⟩
              cases e1 : leS sa ks[i] with
              | false =>
                rw [if_neg Bool.false_ne_true]
                exact fin _ (by rw [e1]; rfl)
              | true =>
                rw [if_pos rfl]
                walk_at "go"
                refine ⟨ks[i], sb, rfl, rfl, ?_⟩
                exact fin _ (by rw [e1]; rfl)
def sp_lwrites (K : PySem.W.Frag) : Sp := fun vs H Q _ => ∃ x N d, vs = [x] ∧ Dq K N H x d ∧ szD d = true ∧ ∀ H', Same H H' → Q (.bl (writesD d)) H'
theorem ok_law_are_writes (T : Txt K mg) : FnOk P w K mg base CX0 2 T.law_are_writes.f T.law_are_writes.fd ["thing"] (sp_lwrites K) := by
  refine T.law_are_writes.F.ok sc_law_are_writes (fun vs H Q E h => ?_) (fun cdv A outer s H vs Q E hr h => ?_)
  · obtain ⟨x, N, d, rfl, _⟩ := h
    rfl
  · obtain ⟨x, N, d, rfl, hd, hz, k⟩ := h
    refine ⟨_, (pss_cons (ps_if (pt_not (ptTruth (K := K) (pe_callB (cIsi (K := K)) (by rfl) T.z_isinstance (by decide +kernel) (pa_cons (pv 0) (pa_cons (pe_bltn (v := .ty "tuple") (by rfl) T.z_tuple (by decide +kernel) rfl) pa_nil))) (by intro _; rfl))) (pss_one (ps_ret pe_bl)) pss_nil)
    (pss_cons (ps_for PassesOwn.never rfl (piT (K := K) (pv 0)) (pg_name (i := 1) sc_law_are_writes.nd rfl (Or.inl rfl))
      (pss_cons (ps_if (PW.pt (pw_or (pt_not (ptTruth (K := K) (pe_callB (cIsi (K := K)) (by rfl) T.z_isinstance (by decide +kernel) (pa_cons (pv 1) (pa_cons (pe_bltn (v := .ty "tuple") (by rfl) T.z_tuple (by decide +kernel) rfl) pa_nil))) (by intro _; rfl))) (pw_or (pt_cmpR (oNe (K := K) hr.units) (pe_callB (cLen (K := K)) (by rfl) T.z_len PySem.boot_len (pa_cons (pv 1) pa_nil)) pe_int (nomark _)) (pw_or1 (pt_not (ptTruth (K := K) (pe_call (ok_law_is_key T) (hr.mono (by decide)) (by rfl) T.law_is_key.g T.law_is_key.F.kp T.law_is_key.b .nil pass0 (pa_cons (pe_ix (ixLT (K := K)) (pv 1) pe_int (fun _ _ => rfl)) pa_nil)) (by intro _; rfl))))))) (pss_one (ps_ret pe_bl)) pss_nil)
    (pss_one (ps_if (PW.pt (pw_and (pt_cmpR oNotN (pe_ix (ixLT (K := K)) (pv 1) pe_int (fun _ _ => rfl)) pe_non (nomark _)) (pw_and1 (pt_not (ptTruth (K := K) (pe_call (ok_law_is_int T) (hr.mono (by decide)) (by rfl) T.law_is_int.g T.law_is_int.F.kp T.law_is_int.b .nil pass0 (pa_cons (pe_ix (ixLT (K := K)) (pv 1) pe_int (fun _ _ => rfl)) (pa_cons (pe_un un_neg (pe_op op_pow pe_int pe_int)) (pa_cons (pe_op op_pow pe_int pe_int) pa_nil)))) (by intro _; rfl)))))) (pss_one (ps_ret pe_bl)) pss_nil))))
    (pss_one (ps_ret (pe_callB (cAll (K := K) rfl) (by rfl) T.z_all (by decide +kernel) (pa_cons (pe_lc (own := [("one", 1), ("other", 2)]) rfl sc_law_are_writes.nd (piZipA (K := K) (by rfl) T.z_zip (pa_cons (pv 0) (pa_cons (pe_slice (slT (K := K)) (pv 0) (po_some pe_int) po_none) pa_nil))) (blkOk_by (N := n_law_are_writes) (sc := defScope s_law_are_writes) (by decide +kernel)) (fun _ _ _ _ _ => (pgTup (K := K) (n := 2) (pg_tup (n := 2) rfl (pgs_cons (pg_name (i := 1) sc_law_are_writes.nd rfl (Or.inl rfl)) (pgs_cons (pg_name (i := 2) sc_law_are_writes.nd rfl (Or.inl rfl)) pgs_nil))))) (fun _ _ _ _ _ => pts_nil) (fun _ _ _ _ _ => (pe_cmpR (oLtX (K := K) hr.units) (pe_ix (ixLT (K := K)) (pv 1) pe_int (fun _ _ => rfl)) (pe_ix (ixLT (K := K)) (pv 2) pe_int (fun _ _ => rfl)) (nomark _)))) pa_nil)))))), ?_⟩
    walk_at "go"
    cases id hd with
    | int i => walk_at "go"; exact k _ (Same.refl _)
    | non => walk_at "go"; exact k _ (Same.refl _)
    | bl b => walk_at "go"; exact k _ (Same.refl _)
    | str z => walk_at "go"; exact k _ (Same.refl _)
    | lst a n b => refine dq_isi false hd (by simp only [tyD]; decide +kernel) ?_; walk_at "go"; exact k _ (Same.refl _)
    | dct a n b c => refine dq_isi false hd (by simp only [tyD]; decide +kernel) ?_; walk_at "go"; exact k _ (Same.refl _)
    | @tup a ys ds hS hA =>
      obtain ⟨hl, hza⟩ := sz_tup hz
      have ll := hA.len
      have k : ∀ H', Same H H' → Q (.bl (ds.all writeD && ascD (ds.map firstD))) H' := k
      walk_at "go"
      refine i_tup hS ?_
      refine l_it (walk_tup (xs := ys)) (fun i σ H' => Same H H' ∧ (ds.take i).all writeD = true ∧ ∃ y1 y2 : Option V, σ = [some (.ref a), y1, y2]) ⟨Same.refl _, rfl, none, none, rfl⟩ (fun i σ H' hi p => st_ p.1 hS) (fun σ H' p => ?_) (fun i v σ H' H'' hi p y => ?_)
      · obtain ⟨p1, ha, y1, y2, rfl⟩ := p
        rw [ll, List.take_length] at ha
        rw [ha, Bool.true_and] at k
        have hS1 := st_ p1 hS
        have hA1 := hA.same p1
        walk_at "go"
        refine i_zipA0 ?_
        walk_at "go"
        refine r_slT hS1 fun c H2 s2 h2 => ?_
        rw [cut1] at h2
        have hS2 := st_ s2 hS1
        have hA2 := hA1.same s2
        refine ⟨a, c, _, _, rfl, .inr ⟨hS2, h2, ?_⟩⟩
        have ln : (ys.drop 1).length = ys.length - 1 := List.length_drop ..
        refine c_it (walk_zipT (xs := ys) (ys := ys.drop 1) (n := ys.length - 1) (by rw [ln]; omega)) (fun i acc H' => Same H2 H' ∧ acc = ((List.range i).map (ascF (ds.map firstD))).map V.bl) (fun D hD => ⟨upd_free (Same.refl _) hD, rfl⟩) (fun i acc H' hi p => ⟨st_ p.1 hS2, st_ p.1 h2⟩) (fun acc D H3 nD hD p => ?_) (fun i x acc H3 H4 D hi nD hD p y => ?_)
        · obtain ⟨s3, rfl⟩ := p
          walk_at "go"
          refine e_allB hD ?_
          rw [ascD_len (ds := ds.map firstD) (by rw [List.length_map]; exact ll)]
          walk_at "go"
          exact k _ (p1.trans (s2.trans s3))
        · obtain ⟨s3, rfl⟩ := p
          obtain ⟨tt, x, y, rfl, nt, rfl, ex, ey⟩ := y
          have ex : ys[i]? = some x := ex
          have ey : (ys.drop 1)[i]? = some y := ey
          rw [List.getElem?_drop, Nat.add_comm] at ey
          have sn : Same H3 (upd H3 tt (.tup [x, y])) := Same.new nt
          obtain ⟨d0, f0, q0⟩ := (hA2.same (s3.trans sn)).get ex
          obtain ⟨d1, f1, q1⟩ := (hA2.same (s3.trans sn)).get ey
          obtain ⟨a0, b0, rfl, k0, _⟩ := write_inv (List.all_eq_true.mp ha _ (List.mem_of_getElem? f0))
          obtain ⟨a1, b1, rfl, k1, _⟩ := write_inv (List.all_eq_true.mp ha _ (List.mem_of_getElem? f1))
          have g0 : (ds.map firstD).getD i .none = a0 := by rw [List.getD_eq_getElem?_getD, List.getElem?_map, f0]; rfl
          have g1 : (ds.map firstD).getD (i + 1) .none = a1 := by rw [List.getD_eq_getElem?_getD, List.getElem?_map, f1]; rfl
          obtain ⟨c0, z0, rfl, hS0, hA0⟩ := dq_tupl q0
          obtain ⟨c1, z1, rfl, hS1, hA1⟩ := dq_tupl q1
          cases hA0 with
          | @cons x0 _ _ _ h0 hA0 =>
          cases hA1 with
          | @cons x1 _ _ _ h1 hA1 =>
          refine g_pairS (stO upd_same) ⟨rfl, ?_⟩
          walk_at "go"
          refine o_ixT hS0 (atI_in (j := 0) rfl rfl) ?_
          walk_at "go"
          refine o_ixT hS1 (atI_in (j := 0) rfl rfl) ?_
          refine ⟨N, N, a0, a1, h0, h1, lt_keys k0 k1, ?_⟩
          refine ⟨_, sn _ _ hD, lt_size (by rw [List.length_map, List.length_map, List.length_range]; omega), _, upd_same, upd_free (s3.trans sn) nD, ?_⟩
          rw [List.range_succ, List.map_append, List.map_append, ← g0, ← g1]; rfl
      · obtain ⟨p1, ha, y1, y2, rfl⟩ := p
        obtain ⟨rfl, hv⟩ := y
        obtain ⟨d, ed, hdx0⟩ := hA.get hv
        have hdx := hdx0.same p1
        have hzd := szAll_mem hza (List.mem_of_getElem? ed)
        have no : writeD d = false → ∀ H', Same H H' → Q (.bl false) H' := fun e H' s => by
          have : ds.all writeD = false := by
            rw [← Bool.not_eq_true]
            intro z
            rw [List.all_eq_true.mp z _ (List.mem_of_getElem? ed)] at e
            cases e
          have q := k H' s
          rwa [this, Bool.false_and] at q
        have nx : writeD d = true → (ds.take (i + 1)).all writeD = true := fun e => by
          rw [List.take_add_one, ed, List.all_append, ha]; simp [e]
        refine g_nm ?_
        walk_at "go"
        cases id hdx with
        | int i => walk_at "go"; exact no rfl _ p1
        | non => walk_at "go"; exact no rfl _ p1
        | bl b => walk_at "go"; exact no rfl _ p1
        | str z => walk_at "go"; exact no rfl _ p1
        | lst a n b => refine dq_isi false hdx (by simp only [tyD]; decide +kernel) ?_; walk_at "go"; exact no rfl _ p1
        | dct a n b c => refine dq_isi false hdx (by simp only [tyD]; decide +kernel) ?_; walk_at "go"; exact no rfl _ p1
        | @tup c zs es hS2 hA2 =>
          have l2 := hA2.len
          walk_at "go"
          refine i_d (fun q => ?_) (fun q => ?_)
          · walk_at "go"
            refine no ?_ _ p1
            unfold writeD
            split
            · next e => cases e; exact absurd (by rw [l2]; rfl) q
            · rfl
          · have l3 : es.length = 2 := by omega
            match es, hA2, l3, hzd with
            | [da, db], hA2, _, hzd =>
            cases hA2 with
            | @cons xa _ _ _ hda hA2 =>
            cases hA2 with
            | @cons xb _ _ _ hdb hA2 =>
            cases hA2
            have hzd := (sz_tup hzd).2
            rw [szAll, szAll, szAll, Bool.and_eq_true, Bool.and_eq_true] at hzd
            have def_ : writeD (.tuple [da, db]) = (isKD da && markD db) := rfl
            rw [def_] at no nx
            walk_at "go"
            refine ⟨xa, N, da, rfl, hda, sz_sm hzd.1, fun H1 s1 => ?_⟩
            have p2 := p1.trans s1
            have hdb1 := hdb.same s1
            have hS2c := st_ s1 hS2
            walk_at "go"
            cases e1 : isKD da with
            | false =>
              walk_at "go"
              exact no (by rw [e1]; rfl) _ p2
            | true =>
            rw [e1, Bool.true_and] at no nx
            walk_at "go"
            cases id hdb1 with
            | non =>
              walk_at "go"
              exact ⟨p2, nx rfl, _, _, rfl⟩
            | int z =>
              walk_at "go"
              refine ⟨_, N, _, _, _, rfl, hdb1, ?_⟩
              generalize hw : withinD _ _ _ = c
              cases c with
              | true =>
                walk_at "go"
                exact ⟨p2, nx hw, _, _, rfl⟩
              | false =>
                walk_at "go"
                exact no hw _ p2
            | _ =>
              walk_at "go"
              refine ⟨_, N, _, _, _, rfl, hdb1, ?_⟩
              walk_at "go"
              exact no rfl _ p2
end



section
variable {P : Program} {w : World} {K : PySem.W.Frag} {mg : Str → Option Value} {base : Heap}
/-! ### what is drawn: data, some of them lists and dicts -/
abbrev NB (B : Bg) : Addr → Prop := fun a => a ≠ B.hd
theorem Dq.hs {B : Bg} {H H' : Hp} {d : PyData} {x : V} (h : Dq K (NB B) H x d) (b : BagAt K H B) (s : Hs K B H H') : Dq K (NB B) H' x d := Dq.mv (fun _ _ n => s.sl n) (fun _ _ => s.st b) (fun _ _ n z => s.o _ _ n z) d x h
theorem DqAll.hs {B : Bg} {H H' : Hp} {ds : List PyData} {xs : List V} (h : DqAll K (NB B) H xs ds) (b : BagAt K H B) (s : Hs K B H H') : DqAll K (NB B) H' xs ds := Dq.mvAll (fun _ _ n => s.sl n) (fun _ _ => s.st b) (fun _ _ n z => s.o _ _ n z) ds xs h
theorem DqAll.app {N : Addr → Prop} {H : Hp} : ∀ {xs ys : List V} {ds es : List PyData}, DqAll K N H xs ds → DqAll K N H ys es → DqAll K N H (xs ++ ys) (ds ++ es)
  | _, _, _, _, .nil, h => h
  | _, _, _, _, .cons a b, h => .cons a (DqAll.app b h)
theorem szAll_app : ∀ (ds es : List PyData), szAll (ds ++ es) = (szAll ds && szAll es)
  | [], es => by rw [szAll]; rfl
  | d :: ds, es => by rw [List.cons_append, szAll, szAll, szAll_app ds es, Bool.and_assoc]
theorem sz_one {d : PyData} (h : szD d = true) : szAll [d] = true := by rw [szAll, szAll, h]; rfl
theorem sz_tup1 {d : PyData} (h : szD d = true) : szD (.tuple [d]) = true := by rw [szD, sz_one h]; rfl
theorem sz_lst1 {d : PyData} (h : szD d = true) : szD (.list [d]) = true := by rw [szD, sz_one h]; rfl
/-- no great number -/
abbrev N40 : Int := 10000000000000000000000000000000000000000
abbrev liD : PyData → Bool
  | .int i => decide (i ≤ N40)
  | _ => true
/-- one of a list that is drawn by its number -/
theorem o_pick {B : Bg} {H H1 : Hp} {l : Addr} {xs : List V} {ds : List PyData} {r : Int} {Q : VK} (b : BagAt K H B) (hl : H l = some (.lst xs)) (nl : l ≠ B.hd) (all : DqAll K (NB B) H xs ds) (z : szAll ds = true) (hs : Hs K B H H1) (r0 : 0 ≤ r) (r1 : r < xs.length) (k : ∀ v d, v ∈ xs → d ∈ ds → Dq K (NB B) H1 v d → szD d = true → Q v H1) : rIxLT K (.ref l) (.int r) H1 Q := by
  have hj : r.toNat < xs.length := by omega
  have e := List.getElem?_eq_getElem hj
  obtain ⟨d, ed, hd⟩ := all.get e
  exact o_ixL (hs.sl nl (slO hl)) (atI_in (j := r.toNat) (by omega) e) (k _ d (List.getElem_mem hj) (List.mem_of_getElem? ed) (hd.hs b hs) (szAll_mem z (List.mem_of_getElem? ed)))
def sp_deep (K : PySem.W.Frag) : Sp := fun vs H Q _ => ∃ B : Bg, vs = [.ref B.hd] ∧ BagAt K H B ∧ ∀ v d H', Hs K B H H' → Dq K (NB B) H' v d → szD d = true → liD d = true → Q v H'
theorem ok_law_deep (T : Txt K mg) : FnOk P w K mg base CX0 2 T.law_deep.f T.law_deep.fd ["hand"] (sp_deep K) := by
  refine T.law_deep.F.ok sc_law_deep (fun vs H Q E h => ?_) (fun cdv A outer s H vs Q E hr h => ?_)
  · obtain ⟨B, rfl, _⟩ := h
    rfl
  · obtain ⟨B, rfl, hB, k⟩ := h
    refine ⟨_, (pss_cons (ps_set (i := 1) sc_law_deep.nd rfl (Or.inl rfl) (pe_ix (ixLT (K := K)) (pe_lst (pa_cons pe_non (pa_cons (pe_tup pa_nil) (pa_cons pe_str (pa_cons pe_int pa_nil))))) (pe_call (ok_law_draw T) (hr.mono (by decide)) (by rfl) T.law_draw.g T.law_draw.F.kp T.law_draw.b .nil pass0 (pa_cons (pv 0) (pa_cons pe_int pa_nil))) (fun _ _ => rfl)))
    (pss_cons (ps_for PassesOwn.never rfl (pi_range1 (by rfl) T.z_range (pa_cons pe_int pa_nil)) (pg_name (i := 2) sc_law_deep.nd rfl (Or.inl rfl))
      (pss_one (ps_set (i := 1) sc_law_deep.nd rfl (Or.inl rfl) (pe_ix (ixLT (K := K)) (pe_lst (pa_cons (pe_tup (pa_cons (pv 1) pa_nil)) (pa_cons (pe_lst (pa_cons (pv 1) pa_nil)) pa_nil))) (pe_call (ok_law_draw T) (hr.mono (by decide)) (by rfl) T.law_draw.g T.law_draw.F.kp T.law_draw.b .nil pass0 (pa_cons (pv 0) (pa_cons pe_int pa_nil))) (fun _ _ => rfl)))))
    (pss_one (ps_ret (pv 1))))), ?_⟩
    have hs : Hs K B H H := Hs.of hB (Same.refl _)
    walk_at "go"
    refine n_new (le_size (by simp)) fun p1 H1 n1 s1 h1 => ?_
    have k1 := new_ne hs.b n1
    replace hs := hs.trans (Hs.of hs.b s1)
    have t1 : Dq K (NB B) H1 (.ref p1) (.tuple []) := .tup (stO h1) .nil
    clear n1 s1 h1
    walk_at "go"
    refine n_new (le_size (by simp)) fun p2 H2 n2 s2 h2 => ?_
    have k2 := new_ne hs.b n2
    replace hs := hs.trans (Hs.of hs.b s2)
    replace t1 := t1.same s2
    have row : DqAll K (NB B) H2 [.non, .ref p1, .str "a", .int (0)] [.none, .tuple [], .str "a", .int (0)] := (.cons (.non) (.cons (t1) (.cons (.str "a") (.cons (.int (0)) .nil))))
    clear t1
    walk_at "go"
    refine ⟨B, 4, rfl, hs.b, by omega, by omega, fun r HA r0 r1 sA => ?_⟩
    refine o_pick hs.b h2 k2 row (by decide +kernel) sA r0 r1 fun x dx _ mx hx zx => ?_
    have lx : liD dx = true := List.all_eq_true.mp (by decide +kernel : List.all [PyData.none, .tuple [], .str "a", .int (0)] liD = true) _ mx
    clear mx
    replace hs := hs.trans sA
    clear row n2 s2 h2 k2
    walk_at "go"
    refine i_rng 33 rfl (by omega) (by omega) ?_
    refine l_rng (fun i σ3 H5 => ∃ (y : Option V) (th : V) (d : PyData), σ3 = [some (.ref B.hd), some th, y] ∧ Hs K B H H5 ∧ Dq K (NB B) H5 th d ∧ szD d = true ∧ liD d = true) ⟨_, x, dx, rfl, hs, hx, zx, lx⟩ (fun σ3 H5 z => ?_) (fun i σ3 H5 hi z => ?_)
    · obtain ⟨y, th, d, rfl, hs5, tv5, z5, l5⟩ := z
      walk_at "go"
      exact k _ _ _ hs5 tv5 z5 l5
    · obtain ⟨y, th, d, rfl, hs, w0, z5, l5⟩ := z
      clear hx
      walk_at "go"
      refine n_new (le_size (by simp)) fun p1 H1 n1 s1 h1 => ?_
      replace hs := hs.trans (Hs.of hs.b s1)
      replace w0 := w0.same s1
      have t1 : Dq K (NB B) H1 (.ref p1) (.tuple [d]) := .tup (stO h1) (.cons w0 .nil)
      walk_at "go"
      refine n_new (le_size (by simp)) fun p2 H2 n2 s2 h2 => ?_
      have k2 := new_ne hs.b n2
      replace hs := hs.trans (Hs.of hs.b s2)
      replace w0 := w0.same s2
      replace t1 := t1.same s2
      have t2 : Dq K (NB B) H2 (.ref p2) (.list [d]) := .lst (slO h2) k2 (.cons w0 .nil)
      walk_at "go"
      refine n_new (le_size (by simp)) fun p3 H3 n3 s3 h3 => ?_
      have k3 := new_ne hs.b n3
      replace hs := hs.trans (Hs.of hs.b s3)
      replace w0 := w0.same s3
      replace t1 := t1.same s3
      replace t2 := t2.same s3
      have row : DqAll K (NB B) H3 [.ref p1, .ref p2] [.tuple [d], .list [d]] := .cons t1 (.cons t2 .nil)
      walk_at "go"
      refine ⟨B, 2, rfl, hs.b, by omega, by omega, fun r HA r0 r1 sA => ?_⟩
      refine o_pick hs.b h3 k3 row (by rw [szAll, szAll, szAll, sz_tup1 z5, sz_lst1 z5]; rfl) sA r0 r1 fun x dx _ mx hx zx => ?_
      have lx : liD dx = true := List.all_eq_true.mp (rfl : List.all [PyData.tuple [d], .list [d]] liD = true) _ mx
      walk_at "go"
      exact ⟨_, _, _, rfl, hs.trans sA, hx, zx, lx⟩
def sp_odd (K : PySem.W.Frag) : Sp := fun vs H Q _ => ∃ (B : Bg) (x : V) (dx : PyData), vs = [.ref B.hd, x] ∧ BagAt K H B ∧ Dq K (NB B) H x dx ∧ szD dx = true ∧ liD dx = true ∧ ∀ v d H', Hs K B H H' → Dq K (NB B) H' v d → szD d = true → liD d = true → Q v H'
theorem ok_law_odd (T : Txt K mg) : FnOk P w K mg base CX0 3 T.law_odd.f T.law_odd.fd ["hand", "right"] (sp_odd K) := by
  refine T.law_odd.F.ok sc_law_odd (fun vs H Q E h => ?_) (fun cdv A outer s H vs Q E hr h => ?_)
  · obtain ⟨B, x, dx, rfl, _⟩ := h
    rfl
  · obtain ⟨B, x, dx, rfl, hB, hx, zx, lx, k⟩ := h
    refine ⟨_, (pss_cons (ps_if (pt_cmpR (oEq (K := K) hr.units) (pe_call (ok_law_draw T) (hr.mono (by decide)) (by rfl) T.law_draw.g T.law_draw.F.kp T.law_draw.b .nil pass0 (pa_cons (pv 0) (pa_cons pe_int pa_nil))) pe_int (nomark _)) (pss_one (ps_ret (pv 1))) pss_nil)
    (pss_cons (ps_set (i := 2) sc_law_odd.nd rfl (Or.inl rfl) (pe_lst (pa_cons pe_non (pa_cons pe_bl (pa_cons (pe_un un_neg pe_int) (pa_cons pe_int (pa_cons pe_int (pa_cons (pe_op op_pow pe_int pe_int) (pa_cons pe_str (pa_cons pe_str (pa_cons (pe_tup pa_nil) (pa_cons (pe_lst pa_nil) (pa_cons pe_dnewK (pa_cons (pe_tup (pa_cons pe_str pa_nil)) (pa_cons (pe_lst (pa_cons pe_str pa_nil)) (pa_cons (pe_tup (pa_cons (pe_tup (pa_cons pe_str (pa_cons pe_int pa_nil))) pa_nil)) (pa_cons (pe_tup (pa_cons (pe_tup (pa_cons pe_str (pa_cons pe_str (pa_cons (pe_tup pa_nil) pa_nil)))) pa_nil)) pa_nil)))))))))))))))))
    (pss_cons (ps_set (i := 2) sc_law_odd.nd rfl (Or.inl rfl) (pe_op oAdd (pv 2) (pe_lst (pa_cons (pe_tup (pa_cons pe_str (pa_cons pe_str pa_nil))) (pa_cons (pe_tup (pa_cons pe_str (pa_cons pe_str pa_nil))) (pa_cons (pe_tup (pa_cons pe_str pa_nil)) (pa_cons (pe_tup (pa_cons pe_str pa_nil)) (pa_cons (pe_tup (pa_cons (pe_tup (pa_cons pe_str (pa_cons pe_str (pa_cons (pe_tup pa_nil) pa_nil)))) pa_nil)) (pa_cons (pe_tup (pa_cons (pe_tup (pa_cons pe_str (pa_cons pe_str (pa_cons (pe_tup (pa_cons pe_str pa_nil)) pa_nil)))) pa_nil)) pa_nil)))))))))
    (pss_cons (ps_set (i := 2) sc_law_odd.nd rfl (Or.inl rfl) (pe_op oAdd (pv 2) (pe_lst (pa_cons (pe_tup (pa_cons (pe_tup (pa_cons pe_str (pa_cons pe_str (pa_cons (pe_lst (pa_cons pe_str pa_nil)) pa_nil)))) pa_nil)) (pa_cons (pe_tup (pa_cons (pe_tup (pa_cons pe_str (pa_cons pe_str (pa_cons (pe_tup (pa_cons pe_str pa_nil)) pa_nil)))) pa_nil)) (pa_cons (pe_tup (pa_cons (pe_tup (pa_cons pe_str (pa_cons pe_int pa_nil))) (pa_cons (pe_tup (pa_cons pe_str (pa_cons pe_int pa_nil))) pa_nil))) (pa_cons (pe_tup (pa_cons (pe_tup (pa_cons pe_str (pa_cons pe_int pa_nil))) (pa_cons (pe_tup (pa_cons pe_str (pa_cons pe_int pa_nil))) pa_nil))) pa_nil)))))))
    (pss_cons (ps_set (i := 2) sc_law_odd.nd rfl (Or.inl rfl) (pe_op oAdd (pv 2) (pe_lst (pa_cons (pe_tup (pa_cons (pe_tup (pa_cons pe_str (pa_cons (pe_op oAdd (pe_op op_pow pe_int pe_int) pe_int) pa_nil))) pa_nil)) (pa_cons (pe_tup (pa_cons (pe_tup (pa_cons pe_str (pa_cons pe_bl pa_nil))) pa_nil)) (pa_cons (pe_tup (pa_cons (pe_tup (pa_cons pe_str (pa_cons pe_non pa_nil))) pa_nil)) (pa_cons (pe_tup (pa_cons (pe_tup (pa_cons pe_str pa_nil)) pa_nil)) pa_nil)))))))
    (pss_cons (ps_set (i := 2) sc_law_odd.nd rfl (Or.inl rfl) (pe_op oAdd (pv 2) (pe_lst (pa_cons (pe_call (ok_law_deep T) (hr.mono (by decide)) (by rfl) T.law_deep.g T.law_deep.F.kp T.law_deep.b .nil pass0 (pa_cons (pv 0) pa_nil)) (pa_cons (pe_tup (pa_cons (pe_call (ok_law_deep T) (hr.mono (by decide)) (by rfl) T.law_deep.g T.law_deep.F.kp T.law_deep.b .nil pass0 (pa_cons (pv 0) pa_nil)) pa_nil)) pa_nil)))))
    (pss_one (ps_ret (pe_ix (ixLT (K := K)) (pv 2) (pe_call (ok_law_draw T) (hr.mono (by decide)) (by rfl) T.law_draw.g T.law_draw.F.kp T.law_draw.b .nil pass0 (pa_cons (pv 0) (pa_cons (pe_callB (cLen (K := K)) (by rfl) T.z_len PySem.boot_len (pa_cons (pv 2) pa_nil)) pa_nil))) (fun _ _ => rfl)))))))))), ?_⟩
    walk_at "go"
    refine ⟨B, 2, rfl, hB, by omega, by omega, fun r HA r0 r1 hs => ?_⟩
    walk_at "go"
    refine i_d (fun q => ?_) (fun q => ?_)
    · walk_at "go"
      exact k _ _ _ hs (hx.hs hB hs) zx lx
    · clear hx zx lx
      walk_at "go"
      refine n_new (le_size (by simp)) fun p1 H1 n1 s1 h1 => ?_
      have k1 := new_ne hs.b n1
      replace hs := hs.trans (Hs.of hs.b s1)
      have t1 : Dq K (NB B) H1 (.ref p1) (.tuple []) := .tup (stO h1) .nil
      clear n1 s1 h1
      walk_at "go"
      refine n_new (le_size (by simp)) fun p2 H2 n2 s2 h2 => ?_
      have k2 := new_ne hs.b n2
      replace hs := hs.trans (Hs.of hs.b s2)
      replace t1 := t1.same s2
      have t2 : Dq K (NB B) H2 (.ref p2) (.list []) := .lst (slO h2) k2 .nil
      clear n2 s2 h2
      walk_at "go"
      refine e_dnew fun p3 H3 n3 s3 h3 => ?_
      have k3 := new_ne hs.b n3
      replace hs := hs.trans (Hs.of hs.b s3)
      replace t1 := t1.same s3
      replace t2 := t2.same s3
      have t3 : Dq K (NB B) H3 (.ref p3) (.dict []) := .dct h3 k3 rfl .nil
      clear n3 s3 h3
      walk_at "go"
      refine n_new (le_size (by simp)) fun p4 H4 n4 s4 h4 => ?_
      have k4 := new_ne hs.b n4
      replace hs := hs.trans (Hs.of hs.b s4)
      replace t1 := t1.same s4
      replace t2 := t2.same s4
      replace t3 := t3.same s4
      have t4 : Dq K (NB B) H4 (.ref p4) (.tuple [.str "a"]) := .tup (stO h4) (.cons (.str "a") .nil)
      clear n4 s4 h4
      walk_at "go"
      refine n_new (le_size (by simp)) fun p5 H5 n5 s5 h5 => ?_
      have k5 := new_ne hs.b n5
      replace hs := hs.trans (Hs.of hs.b s5)
      replace t1 := t1.same s5
      replace t2 := t2.same s5
      replace t3 := t3.same s5
      replace t4 := t4.same s5
      have t5 : Dq K (NB B) H5 (.ref p5) (.list [.str "a"]) := .lst (slO h5) k5 (.cons (.str "a") .nil)
      clear n5 s5 h5
      walk_at "go"
      refine n_new (le_size (by simp)) fun p6 H6 n6 s6 h6 => ?_
      have k6 := new_ne hs.b n6
      replace hs := hs.trans (Hs.of hs.b s6)
      replace t1 := t1.same s6
      replace t2 := t2.same s6
      replace t3 := t3.same s6
      replace t4 := t4.same s6
      replace t5 := t5.same s6
      have t6 : Dq K (NB B) H6 (.ref p6) (.tuple [.str "a", .int (1)]) := .tup (stO h6) (.cons (.str "a") (.cons (.int (1)) .nil))
      clear n6 s6 h6
      walk_at "go"
      refine n_new (le_size (by simp)) fun p7 H7 n7 s7 h7 => ?_
      have k7 := new_ne hs.b n7
      replace hs := hs.trans (Hs.of hs.b s7)
      replace t1 := t1.same s7
      replace t2 := t2.same s7
      replace t3 := t3.same s7
      replace t4 := t4.same s7
      replace t5 := t5.same s7
      replace t6 := t6.same s7
      have t7 : Dq K (NB B) H7 (.ref p7) (.tuple [.tuple [.str "a", .int (1)]]) := .tup (stO h7) (.cons (t6) .nil)
      clear t6
      clear n7 s7 h7
      walk_at "go"
      refine n_new (le_size (by simp)) fun p8 H8 n8 s8 h8 => ?_
      have k8 := new_ne hs.b n8
      replace hs := hs.trans (Hs.of hs.b s8)
      replace t1 := t1.same s8
      replace t2 := t2.same s8
      replace t3 := t3.same s8
      replace t4 := t4.same s8
      replace t5 := t5.same s8
      replace t7 := t7.same s8
      have t8 : Dq K (NB B) H8 (.ref p8) (.tuple []) := .tup (stO h8) .nil
      clear n8 s8 h8
      walk_at "go"
      refine n_new (le_size (by simp)) fun p9 H9 n9 s9 h9 => ?_
      have k9 := new_ne hs.b n9
      replace hs := hs.trans (Hs.of hs.b s9)
      replace t1 := t1.same s9
      replace t2 := t2.same s9
      replace t3 := t3.same s9
      replace t4 := t4.same s9
      replace t5 := t5.same s9
      replace t7 := t7.same s9
      replace t8 := t8.same s9
      have t9 : Dq K (NB B) H9 (.ref p9) (.tuple [.str "a", .str "b", .tuple []]) := .tup (stO h9) (.cons (.str "a") (.cons (.str "b") (.cons (t8) .nil)))
      clear t8
      clear n9 s9 h9
      walk_at "go"
      refine n_new (le_size (by simp)) fun p10 H10 n10 s10 h10 => ?_
      have k10 := new_ne hs.b n10
      replace hs := hs.trans (Hs.of hs.b s10)
      replace t1 := t1.same s10
      replace t2 := t2.same s10
      replace t3 := t3.same s10
      replace t4 := t4.same s10
      replace t5 := t5.same s10
      replace t7 := t7.same s10
      replace t9 := t9.same s10
      have t10 : Dq K (NB B) H10 (.ref p10) (.tuple [.tuple [.str "a", .str "b", .tuple []]]) := .tup (stO h10) (.cons (t9) .nil)
      clear t9
      clear n10 s10 h10
      walk_at "go"
      refine n_new (le_size (by simp)) fun p11 H11 n11 s11 h11 => ?_
      have k11 := new_ne hs.b n11
      replace hs := hs.trans (Hs.of hs.b s11)
      replace t1 := t1.same s11
      replace t2 := t2.same s11
      replace t3 := t3.same s11
      replace t4 := t4.same s11
      replace t5 := t5.same s11
      replace t7 := t7.same s11
      replace t10 := t10.same s11
      have row : DqAll K (NB B) H11 [.non, .bl true, .int (-1), .int (0), .int (1), .int (1000000000000000000000000000000), .str "a", .str "", .ref p1, .ref p2, .ref p3, .ref p4, .ref p5, .ref p7, .ref p10] [.none, .bool true, .int (-1), .int (0), .int (1), .int (1000000000000000000000000000000), .str "a", .str "", .tuple [], .list [], .dict [], .tuple [.str "a"], .list [.str "a"], .tuple [.tuple [.str "a", .int (1)]], .tuple [.tuple [.str "a", .str "b", .tuple []]]] := (.cons (.non) (.cons (.bl true) (.cons (.int (-1)) (.cons (.int (0)) (.cons (.int (1)) (.cons (.int (1000000000000000000000000000000)) (.cons (.str "a") (.cons (.str "") (.cons (t1) (.cons (t2) (.cons (t3) (.cons (t4) (.cons (t5) (.cons (t7) (.cons (t10) .nil)))))))))))))))
      clear t1
      clear t2
      clear t3
      clear t4
      clear t5
      clear t7
      clear t10
      have hm := h11
      have km := k11
      have all := row
      clear row n11 s11 h11
      have la : List.all [.none, .bool true, .int (-1), .int (0), .int (1), .int (1000000000000000000000000000000), .str "a", .str "", .tuple [], .list [], .dict [], .tuple [.str "a"], .list [.str "a"], .tuple [.tuple [.str "a", .int (1)]], .tuple [.tuple [.str "a", .str "b", .tuple []]]] liD = true := by decide +kernel
      have za : szAll [.none, .bool true, .int (-1), .int (0), .int (1), .int (1000000000000000000000000000000), .str "a", .str "", .tuple [], .list [], .dict [], .tuple [.str "a"], .list [.str "a"], .tuple [.tuple [.str "a", .int (1)]], .tuple [.tuple [.str "a", .str "b", .tuple []]]] = true := by decide +kernel
      walk_at "go"
      refine n_new (le_size (by simp)) fun p12 H12 n12 s12 h12 => ?_
      have k12 := new_ne hs.b n12
      replace hs := hs.trans (Hs.of hs.b s12)
      replace all := all.same s12
      replace hm := s12 _ _ hm
      have t12 : Dq K (NB B) H12 (.ref p12) (.tuple [.str "b", .str "a"]) := .tup (stO h12) (.cons (.str "b") (.cons (.str "a") .nil))
      clear n12 s12 h12
      walk_at "go"
      refine n_new (le_size (by simp)) fun p13 H13 n13 s13 h13 => ?_
      have k13 := new_ne hs.b n13
      replace hs := hs.trans (Hs.of hs.b s13)
      replace all := all.same s13
      replace t12 := t12.same s13
      replace hm := s13 _ _ hm
      have t13 : Dq K (NB B) H13 (.ref p13) (.tuple [.str "a", .str "a"]) := .tup (stO h13) (.cons (.str "a") (.cons (.str "a") .nil))
      clear n13 s13 h13
      walk_at "go"
      refine n_new (le_size (by simp)) fun p14 H14 n14 s14 h14 => ?_
      have k14 := new_ne hs.b n14
      replace hs := hs.trans (Hs.of hs.b s14)
      replace all := all.same s14
      replace t12 := t12.same s14
      replace t13 := t13.same s14
      replace hm := s14 _ _ hm
      have t14 : Dq K (NB B) H14 (.ref p14) (.tuple [.str "A"]) := .tup (stO h14) (.cons (.str "A") .nil)
      clear n14 s14 h14
      walk_at "go"
      refine n_new (le_size (by simp)) fun p15 H15 n15 s15 h15 => ?_
      have k15 := new_ne hs.b n15
      replace hs := hs.trans (Hs.of hs.b s15)
      replace all := all.same s15
      replace t12 := t12.same s15
      replace t13 := t13.same s15
      replace t14 := t14.same s15
      replace hm := s15 _ _ hm
      have t15 : Dq K (NB B) H15 (.ref p15) (.tuple [.str "abcdefghijklm"]) := .tup (stO h15) (.cons (.str "abcdefghijklm") .nil)
      clear n15 s15 h15
      walk_at "go"
      refine n_new (le_size (by simp)) fun p16 H16 n16 s16 h16 => ?_
      have k16 := new_ne hs.b n16
      replace hs := hs.trans (Hs.of hs.b s16)
      replace all := all.same s16
      replace t12 := t12.same s16
      replace t13 := t13.same s16
      replace t14 := t14.same s16
      replace t15 := t15.same s16
      replace hm := s16 _ _ hm
      have t16 : Dq K (NB B) H16 (.ref p16) (.tuple []) := .tup (stO h16) .nil
      clear n16 s16 h16
      walk_at "go"
      refine n_new (le_size (by simp)) fun p17 H17 n17 s17 h17 => ?_
      have k17 := new_ne hs.b n17
      replace hs := hs.trans (Hs.of hs.b s17)
      replace all := all.same s17
      replace t12 := t12.same s17
      replace t13 := t13.same s17
      replace t14 := t14.same s17
      replace t15 := t15.same s17
      replace t16 := t16.same s17
      replace hm := s17 _ _ hm
      have t17 : Dq K (NB B) H17 (.ref p17) (.tuple [.str "b", .str "a", .tuple []]) := .tup (stO h17) (.cons (.str "b") (.cons (.str "a") (.cons (t16) .nil)))
      clear t16
      clear n17 s17 h17
      walk_at "go"
      refine n_new (le_size (by simp)) fun p18 H18 n18 s18 h18 => ?_
      have k18 := new_ne hs.b n18
      replace hs := hs.trans (Hs.of hs.b s18)
      replace all := all.same s18
      replace t12 := t12.same s18
      replace t13 := t13.same s18
      replace t14 := t14.same s18
      replace t15 := t15.same s18
      replace t17 := t17.same s18
      replace hm := s18 _ _ hm
      have t18 : Dq K (NB B) H18 (.ref p18) (.tuple [.tuple [.str "b", .str "a", .tuple []]]) := .tup (stO h18) (.cons (t17) .nil)
      clear t17
      clear n18 s18 h18
      walk_at "go"
      refine n_new (le_size (by simp)) fun p19 H19 n19 s19 h19 => ?_
      have k19 := new_ne hs.b n19
      replace hs := hs.trans (Hs.of hs.b s19)
      replace all := all.same s19
      replace t12 := t12.same s19
      replace t13 := t13.same s19
      replace t14 := t14.same s19
      replace t15 := t15.same s19
      replace t18 := t18.same s19
      replace hm := s19 _ _ hm
      have t19 : Dq K (NB B) H19 (.ref p19) (.tuple [.str "d"]) := .tup (stO h19) (.cons (.str "d") .nil)
      clear n19 s19 h19
      walk_at "go"
      refine n_new (le_size (by simp)) fun p20 H20 n20 s20 h20 => ?_
      have k20 := new_ne hs.b n20
      replace hs := hs.trans (Hs.of hs.b s20)
      replace all := all.same s20
      replace t12 := t12.same s20
      replace t13 := t13.same s20
      replace t14 := t14.same s20
      replace t15 := t15.same s20
      replace t18 := t18.same s20
      replace t19 := t19.same s20
      replace hm := s20 _ _ hm
      have t20 : Dq K (NB B) H20 (.ref p20) (.tuple [.str "a", .str "c", .tuple [.str "d"]]) := .tup (stO h20) (.cons (.str "a") (.cons (.str "c") (.cons (t19) .nil)))
      clear t19
      clear n20 s20 h20
      walk_at "go"
      refine n_new (le_size (by simp)) fun p21 H21 n21 s21 h21 => ?_
      have k21 := new_ne hs.b n21
      replace hs := hs.trans (Hs.of hs.b s21)
      replace all := all.same s21
      replace t12 := t12.same s21
      replace t13 := t13.same s21
      replace t14 := t14.same s21
      replace t15 := t15.same s21
      replace t18 := t18.same s21
      replace t20 := t20.same s21
      replace hm := s21 _ _ hm
      have t21 : Dq K (NB B) H21 (.ref p21) (.tuple [.tuple [.str "a", .str "c", .tuple [.str "d"]]]) := .tup (stO h21) (.cons (t20) .nil)
      clear t20
      clear n21 s21 h21
      walk_at "go"
      refine n_new (le_size (by simp)) fun p22 H22 n22 s22 h22 => ?_
      have k22 := new_ne hs.b n22
      replace hs := hs.trans (Hs.of hs.b s22)
      replace all := all.same s22
      replace t12 := t12.same s22
      replace t13 := t13.same s22
      replace t14 := t14.same s22
      replace t15 := t15.same s22
      replace t18 := t18.same s22
      replace t21 := t21.same s22
      replace hm := s22 _ _ hm
      have row : DqAll K (NB B) H22 [.ref p12, .ref p13, .ref p14, .ref p15, .ref p18, .ref p21] [.tuple [.str "b", .str "a"], .tuple [.str "a", .str "a"], .tuple [.str "A"], .tuple [.str "abcdefghijklm"], .tuple [.tuple [.str "b", .str "a", .tuple []]], .tuple [.tuple [.str "a", .str "c", .tuple [.str "d"]]]] := (.cons (t12) (.cons (t13) (.cons (t14) (.cons (t15) (.cons (t18) (.cons (t21) .nil))))))
      clear t12
      clear t13
      clear t14
      clear t15
      clear t18
      clear t21
      refine o_cat hm h22 (by simp) ?_
      refine n_new0 fun p23 H23 n23 s23 h23 => ?_
      replace km := new_ne hs.b n23
      replace hs := hs.trans (Hs.of hs.b s23)
      replace all := (all.app row).same s23
      replace hm := h23
      replace la : List.all ([.none, .bool true, .int (-1), .int (0), .int (1), .int (1000000000000000000000000000000), .str "a", .str "", .tuple [], .list [], .dict [], .tuple [.str "a"], .list [.str "a"], .tuple [.tuple [.str "a", .int (1)]], .tuple [.tuple [.str "a", .str "b", .tuple []]]] ++ [.tuple [.str "b", .str "a"], .tuple [.str "a", .str "a"], .tuple [.str "A"], .tuple [.str "abcdefghijklm"], .tuple [.tuple [.str "b", .str "a", .tuple []]], .tuple [.tuple [.str "a", .str "c", .tuple [.str "d"]]]]) liD = true := by rw [List.all_append, la]; exact (by decide +kernel : List.all [.tuple [.str "b", .str "a"], .tuple [.str "a", .str "a"], .tuple [.str "A"], .tuple [.str "abcdefghijklm"], .tuple [.tuple [.str "b", .str "a", .tuple []]], .tuple [.tuple [.str "a", .str "c", .tuple [.str "d"]]]] liD = true)
      replace za : szAll ([.none, .bool true, .int (-1), .int (0), .int (1), .int (1000000000000000000000000000000), .str "a", .str "", .tuple [], .list [], .dict [], .tuple [.str "a"], .list [.str "a"], .tuple [.tuple [.str "a", .int (1)]], .tuple [.tuple [.str "a", .str "b", .tuple []]]] ++ [.tuple [.str "b", .str "a"], .tuple [.str "a", .str "a"], .tuple [.str "A"], .tuple [.str "abcdefghijklm"], .tuple [.tuple [.str "b", .str "a", .tuple []]], .tuple [.tuple [.str "a", .str "c", .tuple [.str "d"]]]]) = true := by rw [szAll_app, za]; exact (by decide +kernel : szAll [.tuple [.str "b", .str "a"], .tuple [.str "a", .str "a"], .tuple [.str "A"], .tuple [.str "abcdefghijklm"], .tuple [.tuple [.str "b", .str "a", .tuple []]], .tuple [.tuple [.str "a", .str "c", .tuple [.str "d"]]]] = true)
      clear row n22 s22 h22 n23 s23 h23
      walk_at "go"
      refine n_new (le_size (by simp)) fun p24 H24 n24 s24 h24 => ?_
      have k24 := new_ne hs.b n24
      replace hs := hs.trans (Hs.of hs.b s24)
      replace all := all.same s24
      replace hm := s24 _ _ hm
      have t24 : Dq K (NB B) H24 (.ref p24) (.list [.str "b"]) := .lst (slO h24) k24 (.cons (.str "b") .nil)
      clear n24 s24 h24
      walk_at "go"
      refine n_new (le_size (by simp)) fun p25 H25 n25 s25 h25 => ?_
      have k25 := new_ne hs.b n25
      replace hs := hs.trans (Hs.of hs.b s25)
      replace all := all.same s25
      replace t24 := t24.same s25
      replace hm := s25 _ _ hm
      have t25 : Dq K (NB B) H25 (.ref p25) (.tuple [.str "a", .str "c", .list [.str "b"]]) := .tup (stO h25) (.cons (.str "a") (.cons (.str "c") (.cons (t24) .nil)))
      clear t24
      clear n25 s25 h25
      walk_at "go"
      refine n_new (le_size (by simp)) fun p26 H26 n26 s26 h26 => ?_
      have k26 := new_ne hs.b n26
      replace hs := hs.trans (Hs.of hs.b s26)
      replace all := all.same s26
      replace t25 := t25.same s26
      replace hm := s26 _ _ hm
      have t26 : Dq K (NB B) H26 (.ref p26) (.tuple [.tuple [.str "a", .str "c", .list [.str "b"]]]) := .tup (stO h26) (.cons (t25) .nil)
      clear t25
      clear n26 s26 h26
      walk_at "go"
      refine n_new (le_size (by simp)) fun p27 H27 n27 s27 h27 => ?_
      have k27 := new_ne hs.b n27
      replace hs := hs.trans (Hs.of hs.b s27)
      replace all := all.same s27
      replace t26 := t26.same s27
      replace hm := s27 _ _ hm
      have t27 : Dq K (NB B) H27 (.ref p27) (.tuple [.str "b"]) := .tup (stO h27) (.cons (.str "b") .nil)
      clear n27 s27 h27
      walk_at "go"
      refine n_new (le_size (by simp)) fun p28 H28 n28 s28 h28 => ?_
      have k28 := new_ne hs.b n28
      replace hs := hs.trans (Hs.of hs.b s28)
      replace all := all.same s28
      replace t26 := t26.same s28
      replace t27 := t27.same s28
      replace hm := s28 _ _ hm
      have t28 : Dq K (NB B) H28 (.ref p28) (.tuple [.str "a", .str "c", .tuple [.str "b"]]) := .tup (stO h28) (.cons (.str "a") (.cons (.str "c") (.cons (t27) .nil)))
      clear t27
      clear n28 s28 h28
      walk_at "go"
      refine n_new (le_size (by simp)) fun p29 H29 n29 s29 h29 => ?_
      have k29 := new_ne hs.b n29
      replace hs := hs.trans (Hs.of hs.b s29)
      replace all := all.same s29
      replace t26 := t26.same s29
      replace t28 := t28.same s29
      replace hm := s29 _ _ hm
      have t29 : Dq K (NB B) H29 (.ref p29) (.tuple [.tuple [.str "a", .str "c", .tuple [.str "b"]]]) := .tup (stO h29) (.cons (t28) .nil)
      clear t28
      clear n29 s29 h29
      walk_at "go"
      refine n_new (le_size (by simp)) fun p30 H30 n30 s30 h30 => ?_
      have k30 := new_ne hs.b n30
      replace hs := hs.trans (Hs.of hs.b s30)
      replace all := all.same s30
      replace t26 := t26.same s30
      replace t29 := t29.same s30
      replace hm := s30 _ _ hm
      have t30 : Dq K (NB B) H30 (.ref p30) (.tuple [.str "b", .int (1)]) := .tup (stO h30) (.cons (.str "b") (.cons (.int (1)) .nil))
      clear n30 s30 h30
      walk_at "go"
      refine n_new (le_size (by simp)) fun p31 H31 n31 s31 h31 => ?_
      have k31 := new_ne hs.b n31
      replace hs := hs.trans (Hs.of hs.b s31)
      replace all := all.same s31
      replace t26 := t26.same s31
      replace t29 := t29.same s31
      replace t30 := t30.same s31
      replace hm := s31 _ _ hm
      have t31 : Dq K (NB B) H31 (.ref p31) (.tuple [.str "a", .int (2)]) := .tup (stO h31) (.cons (.str "a") (.cons (.int (2)) .nil))
      clear n31 s31 h31
      walk_at "go"
      refine n_new (le_size (by simp)) fun p32 H32 n32 s32 h32 => ?_
      have k32 := new_ne hs.b n32
      replace hs := hs.trans (Hs.of hs.b s32)
      replace all := all.same s32
      replace t26 := t26.same s32
      replace t29 := t29.same s32
      replace t30 := t30.same s32
      replace t31 := t31.same s32
      replace hm := s32 _ _ hm
      have t32 : Dq K (NB B) H32 (.ref p32) (.tuple [.tuple [.str "b", .int (1)], .tuple [.str "a", .int (2)]]) := .tup (stO h32) (.cons (t30) (.cons (t31) .nil))
      clear t30
      clear t31
      clear n32 s32 h32
      walk_at "go"
      refine n_new (le_size (by simp)) fun p33 H33 n33 s33 h33 => ?_
      have k33 := new_ne hs.b n33
      replace hs := hs.trans (Hs.of hs.b s33)
      replace all := all.same s33
      replace t26 := t26.same s33
      replace t29 := t29.same s33
      replace t32 := t32.same s33
      replace hm := s33 _ _ hm
      have t33 : Dq K (NB B) H33 (.ref p33) (.tuple [.str "a", .int (1)]) := .tup (stO h33) (.cons (.str "a") (.cons (.int (1)) .nil))
      clear n33 s33 h33
      walk_at "go"
      refine n_new (le_size (by simp)) fun p34 H34 n34 s34 h34 => ?_
      have k34 := new_ne hs.b n34
      replace hs := hs.trans (Hs.of hs.b s34)
      replace all := all.same s34
      replace t26 := t26.same s34
      replace t29 := t29.same s34
      replace t32 := t32.same s34
      replace t33 := t33.same s34
      replace hm := s34 _ _ hm
      have t34 : Dq K (NB B) H34 (.ref p34) (.tuple [.str "a", .int (2)]) := .tup (stO h34) (.cons (.str "a") (.cons (.int (2)) .nil))
      clear n34 s34 h34
      walk_at "go"
      refine n_new (le_size (by simp)) fun p35 H35 n35 s35 h35 => ?_
      have k35 := new_ne hs.b n35
      replace hs := hs.trans (Hs.of hs.b s35)
      replace all := all.same s35
      replace t26 := t26.same s35
      replace t29 := t29.same s35
      replace t32 := t32.same s35
      replace t33 := t33.same s35
      replace t34 := t34.same s35
      replace hm := s35 _ _ hm
      have t35 : Dq K (NB B) H35 (.ref p35) (.tuple [.tuple [.str "a", .int (1)], .tuple [.str "a", .int (2)]]) := .tup (stO h35) (.cons (t33) (.cons (t34) .nil))
      clear t33
      clear t34
      clear n35 s35 h35
      walk_at "go"
      refine n_new (le_size (by simp)) fun p36 H36 n36 s36 h36 => ?_
      have k36 := new_ne hs.b n36
      replace hs := hs.trans (Hs.of hs.b s36)
      replace all := all.same s36
      replace t26 := t26.same s36
      replace t29 := t29.same s36
      replace t32 := t32.same s36
      replace t35 := t35.same s36
      replace hm := s36 _ _ hm
      have row : DqAll K (NB B) H36 [.ref p26, .ref p29, .ref p32, .ref p35] [.tuple [.tuple [.str "a", .str "c", .list [.str "b"]]], .tuple [.tuple [.str "a", .str "c", .tuple [.str "b"]]], .tuple [.tuple [.str "b", .int (1)], .tuple [.str "a", .int (2)]], .tuple [.tuple [.str "a", .int (1)], .tuple [.str "a", .int (2)]]] := (.cons (t26) (.cons (t29) (.cons (t32) (.cons (t35) .nil))))
      clear t26
      clear t29
      clear t32
      clear t35
      refine o_cat hm h36 (by simp) ?_
      refine n_new0 fun p37 H37 n37 s37 h37 => ?_
      replace km := new_ne hs.b n37
      replace hs := hs.trans (Hs.of hs.b s37)
      replace all := (all.app row).same s37
      replace hm := h37
      replace la : List.all (([.none, .bool true, .int (-1), .int (0), .int (1), .int (1000000000000000000000000000000), .str "a", .str "", .tuple [], .list [], .dict [], .tuple [.str "a"], .list [.str "a"], .tuple [.tuple [.str "a", .int (1)]], .tuple [.tuple [.str "a", .str "b", .tuple []]]] ++ [.tuple [.str "b", .str "a"], .tuple [.str "a", .str "a"], .tuple [.str "A"], .tuple [.str "abcdefghijklm"], .tuple [.tuple [.str "b", .str "a", .tuple []]], .tuple [.tuple [.str "a", .str "c", .tuple [.str "d"]]]]) ++ [.tuple [.tuple [.str "a", .str "c", .list [.str "b"]]], .tuple [.tuple [.str "a", .str "c", .tuple [.str "b"]]], .tuple [.tuple [.str "b", .int (1)], .tuple [.str "a", .int (2)]], .tuple [.tuple [.str "a", .int (1)], .tuple [.str "a", .int (2)]]]) liD = true := by rw [List.all_append, la]; exact (by decide +kernel : List.all [.tuple [.tuple [.str "a", .str "c", .list [.str "b"]]], .tuple [.tuple [.str "a", .str "c", .tuple [.str "b"]]], .tuple [.tuple [.str "b", .int (1)], .tuple [.str "a", .int (2)]], .tuple [.tuple [.str "a", .int (1)], .tuple [.str "a", .int (2)]]] liD = true)
      replace za : szAll (([.none, .bool true, .int (-1), .int (0), .int (1), .int (1000000000000000000000000000000), .str "a", .str "", .tuple [], .list [], .dict [], .tuple [.str "a"], .list [.str "a"], .tuple [.tuple [.str "a", .int (1)]], .tuple [.tuple [.str "a", .str "b", .tuple []]]] ++ [.tuple [.str "b", .str "a"], .tuple [.str "a", .str "a"], .tuple [.str "A"], .tuple [.str "abcdefghijklm"], .tuple [.tuple [.str "b", .str "a", .tuple []]], .tuple [.tuple [.str "a", .str "c", .tuple [.str "d"]]]]) ++ [.tuple [.tuple [.str "a", .str "c", .list [.str "b"]]], .tuple [.tuple [.str "a", .str "c", .tuple [.str "b"]]], .tuple [.tuple [.str "b", .int (1)], .tuple [.str "a", .int (2)]], .tuple [.tuple [.str "a", .int (1)], .tuple [.str "a", .int (2)]]]) = true := by rw [szAll_app, za]; exact (by decide +kernel : szAll [.tuple [.tuple [.str "a", .str "c", .list [.str "b"]]], .tuple [.tuple [.str "a", .str "c", .tuple [.str "b"]]], .tuple [.tuple [.str "b", .int (1)], .tuple [.str "a", .int (2)]], .tuple [.tuple [.str "a", .int (1)], .tuple [.str "a", .int (2)]]] = true)
      clear row n36 s36 h36 n37 s37 h37
      walk_at "go"
      refine n_new (le_size (by simp)) fun p38 H38 n38 s38 h38 => ?_
      have k38 := new_ne hs.b n38
      replace hs := hs.trans (Hs.of hs.b s38)
      replace all := all.same s38
      replace hm := s38 _ _ hm
      have t38 : Dq K (NB B) H38 (.ref p38) (.tuple [.str "a", .int (1000000000000000001)]) := .tup (stO h38) (.cons (.str "a") (.cons (.int (1000000000000000001)) .nil))
      clear n38 s38 h38
      walk_at "go"
      refine n_new (le_size (by simp)) fun p39 H39 n39 s39 h39 => ?_
      have k39 := new_ne hs.b n39
      replace hs := hs.trans (Hs.of hs.b s39)
      replace all := all.same s39
      replace t38 := t38.same s39
      replace hm := s39 _ _ hm
      have t39 : Dq K (NB B) H39 (.ref p39) (.tuple [.tuple [.str "a", .int (1000000000000000001)]]) := .tup (stO h39) (.cons (t38) .nil)
      clear t38
      clear n39 s39 h39
      walk_at "go"
      refine n_new (le_size (by simp)) fun p40 H40 n40 s40 h40 => ?_
      have k40 := new_ne hs.b n40
      replace hs := hs.trans (Hs.of hs.b s40)
      replace all := all.same s40
      replace t39 := t39.same s40
      replace hm := s40 _ _ hm
      have t40 : Dq K (NB B) H40 (.ref p40) (.tuple [.str "a", .bool true]) := .tup (stO h40) (.cons (.str "a") (.cons (.bl true) .nil))
      clear n40 s40 h40
      walk_at "go"
      refine n_new (le_size (by simp)) fun p41 H41 n41 s41 h41 => ?_
      have k41 := new_ne hs.b n41
      replace hs := hs.trans (Hs.of hs.b s41)
      replace all := all.same s41
      replace t39 := t39.same s41
      replace t40 := t40.same s41
      replace hm := s41 _ _ hm
      have t41 : Dq K (NB B) H41 (.ref p41) (.tuple [.tuple [.str "a", .bool true]]) := .tup (stO h41) (.cons (t40) .nil)
      clear t40
      clear n41 s41 h41
      walk_at "go"
      refine n_new (le_size (by simp)) fun p42 H42 n42 s42 h42 => ?_
      have k42 := new_ne hs.b n42
      replace hs := hs.trans (Hs.of hs.b s42)
      replace all := all.same s42
      replace t39 := t39.same s42
      replace t41 := t41.same s42
      replace hm := s42 _ _ hm
      have t42 : Dq K (NB B) H42 (.ref p42) (.tuple [.str "a", .none]) := .tup (stO h42) (.cons (.str "a") (.cons (.non) .nil))
      clear n42 s42 h42
      walk_at "go"
      refine n_new (le_size (by simp)) fun p43 H43 n43 s43 h43 => ?_
      have k43 := new_ne hs.b n43
      replace hs := hs.trans (Hs.of hs.b s43)
      replace all := all.same s43
      replace t39 := t39.same s43
      replace t41 := t41.same s43
      replace t42 := t42.same s43
      replace hm := s43 _ _ hm
      have t43 : Dq K (NB B) H43 (.ref p43) (.tuple [.tuple [.str "a", .none]]) := .tup (stO h43) (.cons (t42) .nil)
      clear t42
      clear n43 s43 h43
      walk_at "go"
      refine n_new (le_size (by simp)) fun p44 H44 n44 s44 h44 => ?_
      have k44 := new_ne hs.b n44
      replace hs := hs.trans (Hs.of hs.b s44)
      replace all := all.same s44
      replace t39 := t39.same s44
      replace t41 := t41.same s44
      replace t43 := t43.same s44
      replace hm := s44 _ _ hm
      have t44 : Dq K (NB B) H44 (.ref p44) (.tuple [.str "a"]) := .tup (stO h44) (.cons (.str "a") .nil)
      clear n44 s44 h44
      walk_at "go"
      refine n_new (le_size (by simp)) fun p45 H45 n45 s45 h45 => ?_
      have k45 := new_ne hs.b n45
      replace hs := hs.trans (Hs.of hs.b s45)
      replace all := all.same s45
      replace t39 := t39.same s45
      replace t41 := t41.same s45
      replace t43 := t43.same s45
      replace t44 := t44.same s45
      replace hm := s45 _ _ hm
      have t45 : Dq K (NB B) H45 (.ref p45) (.tuple [.tuple [.str "a"]]) := .tup (stO h45) (.cons (t44) .nil)
      clear t44
      clear n45 s45 h45
      walk_at "go"
      refine n_new (le_size (by simp)) fun p46 H46 n46 s46 h46 => ?_
      have k46 := new_ne hs.b n46
      replace hs := hs.trans (Hs.of hs.b s46)
      replace all := all.same s46
      replace t39 := t39.same s46
      replace t41 := t41.same s46
      replace t43 := t43.same s46
      replace t45 := t45.same s46
      replace hm := s46 _ _ hm
      have row : DqAll K (NB B) H46 [.ref p39, .ref p41, .ref p43, .ref p45] [.tuple [.tuple [.str "a", .int (1000000000000000001)]], .tuple [.tuple [.str "a", .bool true]], .tuple [.tuple [.str "a", .none]], .tuple [.tuple [.str "a"]]] := (.cons (t39) (.cons (t41) (.cons (t43) (.cons (t45) .nil))))
      clear t39
      clear t41
      clear t43
      clear t45
      refine o_cat hm h46 (by simp) ?_
      refine n_new0 fun p47 H47 n47 s47 h47 => ?_
      replace km := new_ne hs.b n47
      replace hs := hs.trans (Hs.of hs.b s47)
      replace all := (all.app row).same s47
      replace hm := h47
      replace la : List.all ((([.none, .bool true, .int (-1), .int (0), .int (1), .int (1000000000000000000000000000000), .str "a", .str "", .tuple [], .list [], .dict [], .tuple [.str "a"], .list [.str "a"], .tuple [.tuple [.str "a", .int (1)]], .tuple [.tuple [.str "a", .str "b", .tuple []]]] ++ [.tuple [.str "b", .str "a"], .tuple [.str "a", .str "a"], .tuple [.str "A"], .tuple [.str "abcdefghijklm"], .tuple [.tuple [.str "b", .str "a", .tuple []]], .tuple [.tuple [.str "a", .str "c", .tuple [.str "d"]]]]) ++ [.tuple [.tuple [.str "a", .str "c", .list [.str "b"]]], .tuple [.tuple [.str "a", .str "c", .tuple [.str "b"]]], .tuple [.tuple [.str "b", .int (1)], .tuple [.str "a", .int (2)]], .tuple [.tuple [.str "a", .int (1)], .tuple [.str "a", .int (2)]]]) ++ [.tuple [.tuple [.str "a", .int (1000000000000000001)]], .tuple [.tuple [.str "a", .bool true]], .tuple [.tuple [.str "a", .none]], .tuple [.tuple [.str "a"]]]) liD = true := by rw [List.all_append, la]; exact (by decide +kernel : List.all [.tuple [.tuple [.str "a", .int (1000000000000000001)]], .tuple [.tuple [.str "a", .bool true]], .tuple [.tuple [.str "a", .none]], .tuple [.tuple [.str "a"]]] liD = true)
      replace za : szAll ((([.none, .bool true, .int (-1), .int (0), .int (1), .int (1000000000000000000000000000000), .str "a", .str "", .tuple [], .list [], .dict [], .tuple [.str "a"], .list [.str "a"], .tuple [.tuple [.str "a", .int (1)]], .tuple [.tuple [.str "a", .str "b", .tuple []]]] ++ [.tuple [.str "b", .str "a"], .tuple [.str "a", .str "a"], .tuple [.str "A"], .tuple [.str "abcdefghijklm"], .tuple [.tuple [.str "b", .str "a", .tuple []]], .tuple [.tuple [.str "a", .str "c", .tuple [.str "d"]]]]) ++ [.tuple [.tuple [.str "a", .str "c", .list [.str "b"]]], .tuple [.tuple [.str "a", .str "c", .tuple [.str "b"]]], .tuple [.tuple [.str "b", .int (1)], .tuple [.str "a", .int (2)]], .tuple [.tuple [.str "a", .int (1)], .tuple [.str "a", .int (2)]]]) ++ [.tuple [.tuple [.str "a", .int (1000000000000000001)]], .tuple [.tuple [.str "a", .bool true]], .tuple [.tuple [.str "a", .none]], .tuple [.tuple [.str "a"]]]) = true := by rw [szAll_app, za]; exact (by decide +kernel : szAll [.tuple [.tuple [.str "a", .int (1000000000000000001)]], .tuple [.tuple [.str "a", .bool true]], .tuple [.tuple [.str "a", .none]], .tuple [.tuple [.str "a"]]] = true)
      clear row n46 s46 h46 n47 s47 h47
      walk_at "go"
      refine ⟨B, rfl, hs.b, fun v48 d48 H48 s48 w48 z48 l48 => ?_⟩
      replace all := all.hs hs.b s48
      replace hm := s48.ls km hm
      replace hs := hs.trans s48
      clear s48
      walk_at "go"
      refine ⟨B, rfl, hs.b, fun v49 d49 H49 s49 w49 z49 l49 => ?_⟩
      replace all := all.hs hs.b s49
      replace w48 := w48.hs hs.b s49
      replace hm := s49.ls km hm
      replace hs := hs.trans s49
      clear s49
      walk_at "go"
      refine n_new (le_size (by simp)) fun p50 H50 n50 s50 h50 => ?_
      have k50 := new_ne hs.b n50
      replace hs := hs.trans (Hs.of hs.b s50)
      replace all := all.same s50
      replace w48 := w48.same s50
      replace w49 := w49.same s50
      replace hm := s50 _ _ hm
      have t50 : Dq K (NB B) H50 (.ref p50) (.tuple [d49]) := .tup (stO h50) (.cons (w49) .nil)
      clear w49
      clear n50 s50 h50
      walk_at "go"
      refine n_new (le_size (by simp)) fun p51 H51 n51 s51 h51 => ?_
      have k51 := new_ne hs.b n51
      replace hs := hs.trans (Hs.of hs.b s51)
      replace all := all.same s51
      replace w48 := w48.same s51
      replace t50 := t50.same s51
      replace hm := s51 _ _ hm
      have row : DqAll K (NB B) H51 [v48, .ref p50] [d48, .tuple [d49]] := (.cons (w48) (.cons (t50) .nil))
      clear w48
      clear t50
      refine o_cat hm h51 (by simp) ?_
      refine n_new0 fun p52 H52 n52 s52 h52 => ?_
      replace km := new_ne hs.b n52
      replace hs := hs.trans (Hs.of hs.b s52)
      replace all := (all.app row).same s52
      replace hm := h52
      replace la : List.all (((([.none, .bool true, .int (-1), .int (0), .int (1), .int (1000000000000000000000000000000), .str "a", .str "", .tuple [], .list [], .dict [], .tuple [.str "a"], .list [.str "a"], .tuple [.tuple [.str "a", .int (1)]], .tuple [.tuple [.str "a", .str "b", .tuple []]]] ++ [.tuple [.str "b", .str "a"], .tuple [.str "a", .str "a"], .tuple [.str "A"], .tuple [.str "abcdefghijklm"], .tuple [.tuple [.str "b", .str "a", .tuple []]], .tuple [.tuple [.str "a", .str "c", .tuple [.str "d"]]]]) ++ [.tuple [.tuple [.str "a", .str "c", .list [.str "b"]]], .tuple [.tuple [.str "a", .str "c", .tuple [.str "b"]]], .tuple [.tuple [.str "b", .int (1)], .tuple [.str "a", .int (2)]], .tuple [.tuple [.str "a", .int (1)], .tuple [.str "a", .int (2)]]]) ++ [.tuple [.tuple [.str "a", .int (1000000000000000001)]], .tuple [.tuple [.str "a", .bool true]], .tuple [.tuple [.str "a", .none]], .tuple [.tuple [.str "a"]]]) ++ [d48, .tuple [d49]]) liD = true := by rw [List.all_append, la]; show (true && (liD d48 && (true && true))) = true; rw [l48]; rfl
      replace za : szAll (((([.none, .bool true, .int (-1), .int (0), .int (1), .int (1000000000000000000000000000000), .str "a", .str "", .tuple [], .list [], .dict [], .tuple [.str "a"], .list [.str "a"], .tuple [.tuple [.str "a", .int (1)]], .tuple [.tuple [.str "a", .str "b", .tuple []]]] ++ [.tuple [.str "b", .str "a"], .tuple [.str "a", .str "a"], .tuple [.str "A"], .tuple [.str "abcdefghijklm"], .tuple [.tuple [.str "b", .str "a", .tuple []]], .tuple [.tuple [.str "a", .str "c", .tuple [.str "d"]]]]) ++ [.tuple [.tuple [.str "a", .str "c", .list [.str "b"]]], .tuple [.tuple [.str "a", .str "c", .tuple [.str "b"]]], .tuple [.tuple [.str "b", .int (1)], .tuple [.str "a", .int (2)]], .tuple [.tuple [.str "a", .int (1)], .tuple [.str "a", .int (2)]]]) ++ [.tuple [.tuple [.str "a", .int (1000000000000000001)]], .tuple [.tuple [.str "a", .bool true]], .tuple [.tuple [.str "a", .none]], .tuple [.tuple [.str "a"]]]) ++ [d48, .tuple [d49]]) = true := by rw [szAll_app, za, szAll, szAll, szAll, z48, sz_tup1 z49]; rfl
      clear row n51 s51 h51 n52 s52 h52
      walk_at "go"
      refine ⟨B, _, rfl, hs.b, by simp, by simp, fun r HA r0 r1 sA => ?_⟩
      refine o_pick hs.b hm km all za sA r0 r1 fun v d _ mv hv zv => ?_
      walk_at "go"
      exact k _ _ _ (hs.trans sA) hv zv (List.all_eq_true.mp la _ mv)
end



/-! ### the word for what a call does -/
abbrev n_law_word4 : List Str := ["call", "word", "flags", "e"]
theorem sc_law_word4 : FnScope n_law_word4 ["call"] (defScope s_law_word) := ⟨rfl, rfl, rfl, by decide +kernel, rfl, by decide +kernel, by decide +kernel⟩
def wHds : List Stmt → List ExceptHandler
  | [_, Stmt.Try _ hds _ _ _, _] => hds
  | _ => []
def wBody : List ExceptHandler → Nat → List Stmt
  | ExceptHandler.ExceptHandler _ _ b _ :: _, 0 => b
  | _ :: r, n + 1 => wBody r n
  | _, _ => []
abbrev wSuite : List Stmt := wBody (wHds (defBody s_law_word)) 0
abbrev wX (X : Cx) (g : Addr) (cdg : Value) (s : Shared) (H : Hp) : Cx := (cxOf C8.CX0 X.prog X.w X.K X.mg X.base n_law_word4 "_law_word" (defScope s_law_word) g cdg X.A X.stack s H C8.E0).nox
def wWords : List V := [.str "number", .str "snapshot", .str "open", .str "seen", .str "writes", .str "known", .str "other"]
def wIn : List V := [.str "number", .str "snapshot", .str "open", .str "seen", .str "writes", .str "known"]
/-- the flags of an error -/
def wFl (j : Nat) : List V := [.bl (decide (0 = j)), .bl (decide (1 = j)), .bl (decide (2 = j)), .bl (decide (3 = j)), .bl (decide (4 = j)), .bl (decide (5 = j))]
/-- what is asked of a class D: it is the one named at j -/
structure WOk (K : PySem.W.Frag) (D N : Addr) (Cs : List Addr) (j : Nat) : Prop where
  s : PySem.W.exmOne K (.ref D) (.ref N) = some true
  x : L2.ExcC K D
  k : ∀ i C, Cs[i]? = some C → PySem.W.kitOne K (.ref D) (.ref C) = some (decide (i = j))
  v : PySem.W.kitOne K (.ref D) (.type "ValueError") = some true
abbrev wCs {K : PySem.W.Frag} {mg : Str → Option Value} (T : Txt K mg) : List Addr := [T.e_NoNumber.C, T.e_NoSnapshot.C, T.e_NotOpen.C, T.e_BadSeen.C, T.e_BadWrites.C, T.e_NotRemembered.C, T.e_Refused.C]
theorem wCnt_s {X : Cx} (g : Addr) (cdg : Value) (s : Shared) (H0 : Hp) (a : Addr) (oe : Obj) (pn : List (Addr × Obj)) :
    PE ((wX X g cdg s H0).suite a ((a, oe) :: pn)) (.Call (.Attribute (.Name "flags" ⟨295, 11, 295, 16⟩) "count" ⟨295, 11, 295, 22⟩) [.Constant (.bool true) 0 ⟨295, 23, 295, 27⟩] [] ⟨295, 11, 295, 28⟩) (tBM X.K "list" (rCntF X.K) (tVar 2) (tCons (tC (.bl true)) tNil)) :=
  pe_bm PySem.F.plainAttrs_list PySem.F.slot_list_count PySem.F.type_list_count mt_cntF (pe_var (i := 2) rfl (Or.inl rfl) (by decide) (by decide)) (pa_cons pe_bl pa_nil)
theorem wIdx_s {X : Cx} (g : Addr) (cdg : Value) (s : Shared) (H0 : Hp) (a : Addr) (oe : Obj) (pn : List (Addr × Obj)) :
    PE ((wX X g cdg s H0).suite a ((a, oe) :: pn)) (.Call (.Attribute (.Name "flags" ⟨296, 77, 296, 82⟩) "index" ⟨296, 77, 296, 88⟩) [.Constant (.bool true) 0 ⟨296, 89, 296, 93⟩] [] ⟨296, 77, 296, 94⟩) (tBM X.K "list" (rIndex X.K) (tVar 2) (tCons (tC (.bl true)) tNil)) :=
  pe_bm PySem.F.plainAttrs_list PySem.F.slot_list_index PySem.F.type_list_index mt_index (pe_var (i := 2) rfl (Or.inl rfl) (by decide) (by decide)) (pa_cons pe_bl pa_nil)
theorem wSuite_s {X : Cx} (T : Txt X.K X.mg) (g : Addr) (cdg : Value) (s : Shared) (H0 : Hp) (D : Addr) (j : Nat) (hj : j < 7) (ok : WOk X.K D T.N_StoreError (wCs T) j) : ∃ t : Addr → Option Addr → TS, (∀ (a : Addr) (oe : Obj) (k : Value) (d : Option Addr) (pn : List (Addr × Obj)), Zc k d oe → (∃ vs, oe.data = .fields vs) → k = .ref D → PSs ((wX X g cdg s H0).suite a ((a, oe) :: pn)) wSuite (t a d)) ∧
    ∀ (a : Addr) (d : Option Addr) (y0 y1 y2 : Option V) (E : Ends) (H : Hp) (wd : V), (∀ dd, d = some dd → ∃ fs, H dd = some (.xd fs)) → wWords[j]? = some wd → (∀ H' y2', Same H H' → E.nx [y0, some wd, y2', some (.ref a)] H') → t a d E [y0, y1, y2, some (.ref a)] H := by
  apply Exists.intro
  refine And.intro (fun a oe k d pn hz hf hk => ?_) fun a d y0 y1 y2 E H wd hd hw q => ?_
  · subst hk
    exact pss_cons (ps_set (i := 2) sc_law_word4.nd rfl (Or.inl rfl) (pe_lst (pa_cons (pe_callB (call_isEK ok.x hz hf) (by rfl) T.z_isinstance (by decide +kernel) (pa_cons (pe_var (i := 3) rfl (Or.inl rfl) (by decide) (by decide)) (pa_cons (C8.pe_gc (v := .ref T.e_NoNumber.C) (by rfl) ⟨_, T.e_NoNumber.g, rfl⟩) pa_nil))) (pa_cons (pe_callB (call_isEK ok.x hz hf) (by rfl) T.z_isinstance (by decide +kernel) (pa_cons (pe_var (i := 3) rfl (Or.inl rfl) (by decide) (by decide)) (pa_cons (C8.pe_gc (v := .ref T.e_NoSnapshot.C) (by rfl) ⟨_, T.e_NoSnapshot.g, rfl⟩) pa_nil))) (pa_cons (pe_callB (call_isEK ok.x hz hf) (by rfl) T.z_isinstance (by decide +kernel) (pa_cons (pe_var (i := 3) rfl (Or.inl rfl) (by decide) (by decide)) (pa_cons (C8.pe_gc (v := .ref T.e_NotOpen.C) (by rfl) ⟨_, T.e_NotOpen.g, rfl⟩) pa_nil))) (pa_cons (pe_callB (call_isEK ok.x hz hf) (by rfl) T.z_isinstance (by decide +kernel) (pa_cons (pe_var (i := 3) rfl (Or.inl rfl) (by decide) (by decide)) (pa_cons (C8.pe_gc (v := .ref T.e_BadSeen.C) (by rfl) ⟨_, T.e_BadSeen.g, rfl⟩) pa_nil))) pa_nil))))))
      (pss_cons (ps_set (i := 2) sc_law_word4.nd rfl (Or.inl rfl) (pe_op (oAdd (X := (wX X g cdg s H0).suite a ((a, oe) :: pn))) (pe_var (i := 2) rfl (Or.inl rfl) (by decide) (by decide)) (pe_lst (pa_cons (pe_callB (call_isEK ok.x hz hf) (by rfl) T.z_isinstance (by decide +kernel) (pa_cons (pe_var (i := 3) rfl (Or.inl rfl) (by decide) (by decide)) (pa_cons (C8.pe_gc (v := .ref T.e_BadWrites.C) (by rfl) ⟨_, T.e_BadWrites.g, rfl⟩) pa_nil))) (pa_cons (pe_callB (call_isEK ok.x hz hf) (by rfl) T.z_isinstance (by decide +kernel) (pa_cons (pe_var (i := 3) rfl (Or.inl rfl) (by decide) (by decide)) (pa_cons (C8.pe_gc (v := .ref T.e_NotRemembered.C) (by rfl) ⟨_, T.e_NotRemembered.g, rfl⟩) pa_nil))) pa_nil)))))
      (pss_cons (ps_set (i := 1) sc_law_word4.nd rfl (Or.inl rfl) pe_str)
      (pss_one (ps_if (PW.pt (pw_and (pt_cmpR op_eq (wCnt_s g cdg s H0 a oe pn) pe_int (nomark _)) (pw_and1 (ptTruth (K := X.K) (pe_callB (call_isEK ok.x hz hf) (by rfl) T.z_isinstance (by decide +kernel) (pa_cons (pe_var (i := 3) rfl (Or.inl rfl) (by decide) (by decide)) (pa_cons (pe_bltn (v := .ty "ValueError") (by rfl) T.z_ValueError (by decide +kernel) rfl) pa_nil))) (by intro _; rfl)))))
        (pss_one (ps_set (i := 1) sc_law_word4.nd rfl (Or.inl rfl) (pe_ix (ixLT (K := X.K)) (pe_lst (pa_cons pe_str (pa_cons pe_str (pa_cons pe_str (pa_cons pe_str (pa_cons pe_str (pa_cons pe_str pa_nil))))))) (wIdx_s g cdg s H0 a oe pn) (fun _ _ => rfl)))) pss_nil))))
  · have is_ : ∀ (i : Nat) (C : Addr), (wCs T)[i]? = some C → ∀ {Q : VK} {H1 : Hp}, Same H H1 → Q (.bl (decide (i = j))) H1 → rIsEK X.K D a (.ref D) d [.ref a, .ref C] H1 Q := fun i C e {Q} {H1} s1 q => ⟨rfl, _, _, _, rfl, fun u r => (by cases r; rfl), ok.k i C e, fun dd z => (hd dd z).imp fun fs h => s1 _ _ h, q⟩
    walk_at "go"
    refine is_ 0 _ rfl (Same.refl _) ?_
    walk_at "go"
    refine is_ 1 _ rfl (Same.refl _) ?_
    walk_at "go"
    refine is_ 2 _ rfl (Same.refl _) ?_
    walk_at "go"
    refine is_ 3 _ rfl (Same.refl _) ?_
    walk_at "go"
    refine n_new (le_size (by simp)) fun l1 H1 n1 s1 h1 => ?_
    walk_at "go"
    refine is_ 4 _ rfl s1 ?_
    walk_at "go"
    refine is_ 5 _ rfl s1 ?_
    walk_at "go"
    refine n_new (le_size (by simp)) fun l2 H2 n2 s2 h2 => ?_
    refine o_cat (s2 _ _ h1) h2 (by simp) ?_
    refine n_new0 fun l3 H3 n3 s3 h3 => ?_
    have h3 : H3 l3 = some (.lst (wFl j)) := h3
    walk_at "go"
    refine o_cntF (slO h3) rfl rfl ?_
    have s13 := s1.trans (s2.trans s3)
    by_cases h6 : j = 6
    · subst h6
      have hcnt : (wFl 6).countP (fun z => eqV z (.bl true)) = 0 := rfl
      rw [hcnt]
      cases hw
      walk_at "go"
      refine ⟨rfl, false, rfl, ?_⟩
      walk_at "go"
      exact q H3 _ s13
    have hcnt : (wFl j).countP (fun z => eqV z (.bl true)) = 1 := by
      rcases (show j = 0 ∨ j = 1 ∨ j = 2 ∨ j = 3 ∨ j = 4 ∨ j = 5 by omega) with rfl | rfl | rfl | rfl | rfl | rfl <;> rfl
    have hat : (wFl j)[j]? = some (.bl true) := by
      rcases (show j = 0 ∨ j = 1 ∨ j = 2 ∨ j = 3 ∨ j = 4 ∨ j = 5 by omega) with rfl | rfl | rfl | rfl | rfl | rfl <;> rfl
    have hin : wIn[j]? = some wd := by
      rw [← hw]
      rcases (show j = 0 ∨ j = 1 ∨ j = 2 ∨ j = 3 ∨ j = 4 ∨ j = 5 by omega) with rfl | rfl | rfl | rfl | rfl | rfl <;> rfl
    have hno : ∀ (m : Nat) (z : V), m < j → (wFl j)[m]? = some z → eqV z (.bl true) = false := fun m z hm e => by
      have e : some (V.bl (decide (m = j))) = some z := by
        rw [← e]
        rcases (show m = 0 ∨ m = 1 ∨ m = 2 ∨ m = 3 ∨ m = 4 by omega) with rfl | rfl | rfl | rfl | rfl <;> rfl
      cases e
      rw [decide_eq_false (by omega)]; rfl
    rw [hcnt]
    walk_at "go"
    refine ⟨rfl, true, rfl, ?_⟩
    walk_at "go"
    refine ⟨rfl, _, _, true, rfl, fun u r => (by cases r; rfl), ok.v, fun dd z => (hd dd z).imp fun fs h => s13 _ _ h, ?_⟩
    walk_at "go"
    refine n_new (le_size (by simp)) fun l4 H4 n4 s4 h4 => ?_
    have h34 := s4 _ _ h3
    walk_at "go"
    refine ⟨l3, wFl j, .bl true, j, .bl true, rfl, rfl, slO h34, rfl, rfl, hat, rfl, hno, ?_⟩
    refine o_ixA h4 (atI_in (j := j) rfl hin) ?_
    walk_at "go"
    exact q H4 _ (s13.trans s4)
theorem wok {K : PySem.W.Frag} {mg : Str → Option Value} (T : Txt K mg) : ∀ j : Nat, j < 7 → ∃ C, (wCs T)[j]? = some C ∧ WOk K C T.N_StoreError (wCs T) j
  | 0, _ => ⟨_, rfl, ⟨T.xs_NoNumber, T.x_NoNumber, fun i C e => (match i, e with
    | 0, e => (by cases e; exact T.k_NoNumber_NoNumber)
    | 1, e => (by cases e; exact T.k_NoNumber_NoSnapshot)
    | 2, e => (by cases e; exact T.k_NoNumber_NotOpen)
    | 3, e => (by cases e; exact T.k_NoNumber_BadSeen)
    | 4, e => (by cases e; exact T.k_NoNumber_BadWrites)
    | 5, e => (by cases e; exact T.k_NoNumber_NotRemembered)
    | 6, e => (by cases e; exact T.k_NoNumber_Refused)), T.kv_NoNumber⟩⟩
  | 1, _ => ⟨_, rfl, ⟨T.xs_NoSnapshot, T.x_NoSnapshot, fun i C e => (match i, e with
    | 0, e => (by cases e; exact T.k_NoSnapshot_NoNumber)
    | 1, e => (by cases e; exact T.k_NoSnapshot_NoSnapshot)
    | 2, e => (by cases e; exact T.k_NoSnapshot_NotOpen)
    | 3, e => (by cases e; exact T.k_NoSnapshot_BadSeen)
    | 4, e => (by cases e; exact T.k_NoSnapshot_BadWrites)
    | 5, e => (by cases e; exact T.k_NoSnapshot_NotRemembered)
    | 6, e => (by cases e; exact T.k_NoSnapshot_Refused)), T.kv_NoSnapshot⟩⟩
  | 2, _ => ⟨_, rfl, ⟨T.xs_NotOpen, T.x_NotOpen, fun i C e => (match i, e with
    | 0, e => (by cases e; exact T.k_NotOpen_NoNumber)
    | 1, e => (by cases e; exact T.k_NotOpen_NoSnapshot)
    | 2, e => (by cases e; exact T.k_NotOpen_NotOpen)
    | 3, e => (by cases e; exact T.k_NotOpen_BadSeen)
    | 4, e => (by cases e; exact T.k_NotOpen_BadWrites)
    | 5, e => (by cases e; exact T.k_NotOpen_NotRemembered)
    | 6, e => (by cases e; exact T.k_NotOpen_Refused)), T.kv_NotOpen⟩⟩
  | 3, _ => ⟨_, rfl, ⟨T.xs_BadSeen, T.x_BadSeen, fun i C e => (match i, e with
    | 0, e => (by cases e; exact T.k_BadSeen_NoNumber)
    | 1, e => (by cases e; exact T.k_BadSeen_NoSnapshot)
    | 2, e => (by cases e; exact T.k_BadSeen_NotOpen)
    | 3, e => (by cases e; exact T.k_BadSeen_BadSeen)
    | 4, e => (by cases e; exact T.k_BadSeen_BadWrites)
    | 5, e => (by cases e; exact T.k_BadSeen_NotRemembered)
    | 6, e => (by cases e; exact T.k_BadSeen_Refused)), T.kv_BadSeen⟩⟩
  | 4, _ => ⟨_, rfl, ⟨T.xs_BadWrites, T.x_BadWrites, fun i C e => (match i, e with
    | 0, e => (by cases e; exact T.k_BadWrites_NoNumber)
    | 1, e => (by cases e; exact T.k_BadWrites_NoSnapshot)
    | 2, e => (by cases e; exact T.k_BadWrites_NotOpen)
    | 3, e => (by cases e; exact T.k_BadWrites_BadSeen)
    | 4, e => (by cases e; exact T.k_BadWrites_BadWrites)
    | 5, e => (by cases e; exact T.k_BadWrites_NotRemembered)
    | 6, e => (by cases e; exact T.k_BadWrites_Refused)), T.kv_BadWrites⟩⟩
  | 5, _ => ⟨_, rfl, ⟨T.xs_NotRemembered, T.x_NotRemembered, fun i C e => (match i, e with
    | 0, e => (by cases e; exact T.k_NotRemembered_NoNumber)
    | 1, e => (by cases e; exact T.k_NotRemembered_NoSnapshot)
    | 2, e => (by cases e; exact T.k_NotRemembered_NotOpen)
    | 3, e => (by cases e; exact T.k_NotRemembered_BadSeen)
    | 4, e => (by cases e; exact T.k_NotRemembered_BadWrites)
    | 5, e => (by cases e; exact T.k_NotRemembered_NotRemembered)
    | 6, e => (by cases e; exact T.k_NotRemembered_Refused)), T.kv_NotRemembered⟩⟩
  | 6, _ => ⟨_, rfl, ⟨T.xs_Refused, T.x_Refused, fun i C e => (match i, e with
    | 0, e => (by cases e; exact T.k_Refused_NoNumber)
    | 1, e => (by cases e; exact T.k_Refused_NoSnapshot)
    | 2, e => (by cases e; exact T.k_Refused_NotOpen)
    | 3, e => (by cases e; exact T.k_Refused_BadSeen)
    | 4, e => (by cases e; exact T.k_Refused_BadWrites)
    | 5, e => (by cases e; exact T.k_Refused_NotRemembered)
    | 6, e => (by cases e; exact T.k_Refused_Refused)), T.kv_Refused⟩⟩
  | j + 7, h => absurd h (by omega)
def TWord (Cs : List Addr) : (XK → Hp → VK → Prop) → Hp → VK → Prop := fun tl H Q => tl (fun cls d H' => (∀ dd, d = some dd → ∃ fs, H' dd = some (.xd fs)) ∧ ∃ (j : Nat) (C : Addr) (wd : V), Cs[j]? = some C ∧ cls = .ref C ∧ wWords[j]? = some wd ∧ ∀ H'', Same H' H'' → Q wd H'') H fun _ H' => Q (.str "let") H'
theorem word_gives {X : Cx} (T : Txt X.K X.mg) {q : Str} {cdg : Value} : LamX.GivesTo X n_law_word4 "_law_word" (defScope s_law_word) T.law_word.f cdg (defBody s_law_word) "call" q (TWord (wCs T)) := by
  intro f c' s H Q tl act hc h
  have all : ∀ j : Nat, ∃ t : Addr → Option Addr → TS, j < 7 → ∃ C, (wCs T)[j]? = some C ∧ PySem.W.exmOne X.K (.ref C) (.ref T.N_StoreError) = some true ∧ (∀ (a : Addr) (oe : Obj) (k : Value) (d : Option Addr) (pn : List (Addr × Obj)), Zc k d oe → (∃ vs, oe.data = .fields vs) → k = .ref C → PSs ((wX X T.law_word.f cdg s H).suite a ((a, oe) :: pn)) wSuite (t a d)) ∧
      ∀ (a : Addr) (d : Option Addr) (y0 y1 y2 : Option V) (E : Ends) (H : Hp) (wd : V), (∀ dd, d = some dd → ∃ fs, H dd = some (.xd fs)) → wWords[j]? = some wd → (∀ H' y2', Same H H' → E.nx [y0, some wd, y2', some (.ref a)] H') → t a d E [y0, y1, y2, some (.ref a)] H := fun j => by
    by_cases hj : j < 7
    · obtain ⟨C, hC, ok⟩ := wok T j hj
      obtain ⟨t, h1, h2⟩ := wSuite_s T T.law_word.f cdg s H C j hj ok
      exact ⟨t, fun _ => ⟨C, hC, ok.s, h1, h2⟩⟩
    · exact ⟨fun _ _ _ _ _ => True, fun z => absurd z hj⟩
  obtain ⟨t, ht⟩ := Classical.axiomOfChoice all
  refine ⟨_, pss_cons (ps_set (X := wX X T.law_word.f cdg s H) (i := 1) sc_law_word4.nd rfl (Or.inl rfl) pe_str) (pss_cons (ps_tells (X := wX X T.law_word.f cdg s H) (i := 3) (n := "e")
      (tb := fun W D σ H => ∃ Ech : XK, (∀ cls d σ' H', σ'.length = 4 → Ech cls d H' → W cls d σ' H') ∧ σ[0]? = some (some (.ref f)) ∧ H c' = some (LamX.CodeO c' q) ∧ tl Ech H fun v H' => D.nx σ H')
      rfl rfl sc_law_word4.nd rfl rfl takes_none5 (fun W pn xe tk _ => ?_)
      (.cons (u := fun a k d E σ H => ∃ (j : Nat) (C : Addr), (wCs T)[j]? = some C ∧ k = .ref C ∧ t j a d E σ H) ⟨by rfl, by decide, .inl T.g_StoreError⟩ (fun a oe k d pn hz hf => ⟨fun pins s' σ H' E I hq => ?_⟩) .nil))
    (pss_one (ps_ret (pe_var (i := 1) rfl (Or.inl rfl) (by decide) (by decide))))), ?_⟩
  · refine ⟨fun pins s' σ H' D I h' => ?_⟩
    obtain ⟨Ech, hW, h1, h2, h3⟩ := h'
    have hp := fun p1 p2 => act (fun c d σ H => σ.length = 4 → W c d σ H) pn xe Ech p1 p2 (takes_len tk) (fun cls d σ' H' e l => hW cls d σ' H' l e)
    exact (pss_one (ps_expr (hp _ _))).run pins s' σ H' D I ⟨h1, h2, h3⟩
  · obtain ⟨j, C, hC, hk, q⟩ := hq
    have hj : j < 7 := (List.getElem?_eq_some_iff.mp hC).1
    obtain ⟨C2, hC2, _, h1, _⟩ := ht j hj
    rw [hC] at hC2
    cases hC2
    exact (h1 a oe k d pn hz hf hk).run pins s' σ H' E I q
  · refine ⟨fun cls d H' => (∀ dd, d = some dd → ∃ fs, H' dd = some (.xd fs)) ∧ ∃ (j : Nat) (C : Addr) (wd : V), (wCs T)[j]? = some C ∧ cls = .ref C ∧ wWords[j]? = some wd ∧ ∀ H'', Same H' H'' → Q wd H'', fun cls d σ' H' l e => ?_, rfl, hc, ?_⟩
    · obtain ⟨y0, y1, y2, y3, rfl⟩ : ∃ y0 y1 y2 y3, σ' = [y0, y1, y2, y3] := by
        match σ', l with
        | [y0, y1, y2, y3], _ => exact ⟨y0, y1, y2, y3, rfl⟩
      obtain ⟨hd, j, C, wd, hC, rfl, hw, hq⟩ := e
      have hj : j < 7 := (List.getElem?_eq_some_iff.mp hC).1
      obtain ⟨C2, hC2, hex, _, h2⟩ := ht j hj
      rw [hC] at hC2
      cases hC2
      refine ⟨true, hex, fun _ a ha => ⟨j, C, hC, rfl, h2 a _ y0 y1 y2 _ H' wd hd hw fun H'' y2' s'' => ?_⟩, fun z => nomatch z⟩
      exact ⟨_, rfl, hq H'' s''⟩
    · refine Eq.mpr (congrArg (tl _ H) (funext fun v => funext fun H' => propext ⟨fun ⟨u, e, z⟩ => ?_, fun z => ⟨_, rfl, z⟩⟩)) h
      have e2 : V.str "let" = u := Option.some.inj (Option.some.inj e)
      rw [e2]
      exact z
theorem word_givesX {K : PySem.W.Frag} {mg : Str → Option Value} (T : Txt K mg) {X : Cx} (hK : X.K = K) (hm : X.mg = mg) {q : Str} {cdg : Value} : LamX.GivesTo X n_law_word4 "_law_word" (defScope s_law_word) T.law_word.f cdg (defBody s_law_word) "call" q (TWord (wCs T)) := by
  subst hK hm
  exact word_gives T



section
variable {P : Program} {w : World} {K : PySem.W.Frag} {mg : Str → Option Value} {base : Heap}
/-! ### the check that is asked -/
abbrev DL1 (L : Int) : Dl := ⟨L, some (L + 1), ["a"], [], [("b", some 4)]⟩
structure MainC (L : Int) (c : Ck) : Prop where
  l : c.last = L + 1
  m : c.many = 4
  u : c.uw = [(0, L), (3, L + 1)]
  d : ∃ a1, c.dl = [(1, a1, DL1 L)]
  n : ∃ r1, c.nx = [(1, r1, [])]
theorem gs_a {gs : List Str} (h : PyData.tuple [.str "a"] = gsP gs) : gs = ([("a" : Str)] : List Str) := by
  have h := PyData.tuple.inj h
  match gs, h with
  | [x], h => rw [PyData.str.inj (List.cons.inj h).1]
theorem rs_0 {rs : List (Str × Str × List Str)} (h : PyData.tuple [] = rsP rs) : rs = [] := by
  have h := PyData.tuple.inj h
  match rs, h with
  | [], _ => rfl
theorem mark_4 {m : Option Int} (h : PyData.int 4 = markP m) : m = some 4 := by
  cases m with
  | none => cases h
  | some i => rw [PyData.int.inj h]
theorem ws_b {ws : List (Str × Option Int)} (h : PyData.tuple [.tuple [.str "b", .int 4]] = wsP ws) : ws = ([(("b" : Str), some (4 : Int))] : List (Str × Option Int)) := by
  have h := PyData.tuple.inj h
  cases ws with
  | nil => cases h
  | cons y tl =>
    cases tl with
    | nil =>
      obtain ⟨z, m⟩ := y
      have h := PyData.tuple.inj (List.cons.inj h).1
      have h1 := PyData.str.inj (List.cons.inj h).1
      have h2 := mark_4 (List.cons.inj (List.cons.inj h).2).1
      have h1 : ("b" : Str) = z := h1
      have h2 : m = some 4 := h2
      rw [← h1, h2]
    | cons _ _ => cases (List.cons.inj h).2
def opn (L : Int) (i : Nat) : List (Int × Int) := (List.range i).map fun (j : Nat) => ((j : Int), L)
theorem opn_new (L s : Int) (i : Nat) : ((i : Int), s) ∉ opn L i := fun m => by
  obtain ⟨j, hj, e⟩ := List.mem_map.mp m
  have := List.mem_range.mp hj
  have e := congrArg Prod.fst e
  have e : (j : Int) = i := e
  omega
theorem opn_succ (L : Int) (i : Nat) : opn L i ++ [((i : Int), L)] = opn L (i + 1) := by
  unfold opn
  rw [List.range_succ, List.map_append]; rfl
theorem opn_len (L : Int) (i : Nat) : (opn L i).length = i := by
  unfold opn
  rw [List.length_map, List.length_range]
theorem stand_last {c : Ck} {s : Int} (h : s = c.last) : standB c s = true := by
  unfold standB
  rw [decide_eq_true h]; rfl
theorem keep1 {α : Type} {f : Int → Bool} (h : f 1 = true) (x : α) : [((1 : Int), x)].filter (fun y => f y.1) = [((1 : Int), x)] := by simp [List.filter, h]
def sp_ready (T : Txt K mg) : Sp := fun vs H Q _ => ∃ x L, vs = [x, .int L] ∧ 0 ≤ L ∧ ∀ p c H', Same H H' → H p = none → CkAt K T.C_Check T.C_Dealing H' p c → MainC L c → Q (.ref p) H'
theorem ok_law_ready (T : Txt K mg) : FnOk P w K mg base CX0 11 T.law_ready.f T.law_ready.fd ["hand", "last"] ((sp_ready T)) := by
  refine T.law_ready.F.ok sc_law_ready (fun vs H Q E h => ?_) (fun cdv A outer s H vs Q E hr h => ?_)
  · obtain ⟨x, L, rfl, _⟩ := h
    rfl
  · obtain ⟨x, L, rfl, h0, k⟩ := h
    refine ⟨_, (pss_cons (ps_set (i := 2) sc_law_ready.nd rfl (Or.inl rfl) (pe_make (T.m_Check_init.made T.k_Check) (ok_Check_init T) (hr.mono (by decide)) (by rfl) T.k_Check.g T.m_Check_init.b .nil passL (pa_cons (pv 1) pa_nil)))
    (pss_cons (ps_for PassesOwn.never rfl (pi_range1 (by rfl) T.z_range (pa_cons pe_int pa_nil)) (pg_name (i := 3) sc_law_ready.nd rfl (Or.inl rfl))
      (pss_one (ps_expr (pe_meth (pv 2) T.k_Check.cl T.m_Check_opens.i (ok_Check_opens T) (hr.mono (by decide)) T.m_Check_opens.b .nil passL (pa_cons (pv 1) pa_nil)))))
    (pss_cons (ps_expr (pe_meth (pv 2) T.k_Check.cl T.m_Check_commits.i (ok_Check_commits T) (hr.mono (by decide)) T.m_Check_commits.b .nil passL (pa_cons pe_int (pa_cons (pe_tup (pa_cons pe_str pa_nil)) (pa_cons (pe_tup pa_nil) (pa_cons (pe_tup (pa_cons (pe_tup (pa_cons pe_str (pa_cons pe_int pa_nil))) pa_nil)) pa_nil))))))
    (pss_cons (ps_expr (pe_meth (pv 2) T.k_Check.cl T.m_Check_gives_up.i (ok_Check_gives_up T) (hr.mono (by decide)) T.m_Check_gives_up.b .nil passL (pa_cons pe_int pa_nil)))
    (pss_cons (ps_expr (pe_meth (pv 2) T.k_Check.cl T.m_Check_opens.i (ok_Check_opens T) (hr.mono (by decide)) T.m_Check_opens.b .nil passL (pa_cons (pe_op oAdd (pv 1) pe_int) pa_nil)))
    (pss_one (ps_ret (pv 2)))))))), ?_⟩
    walk_at "go"
    refine e_make ?_
    walk_at "go"
    intro p dx np ndx ne
    show sp_check_init T [.ref p, .int L] _ _ _
    have hob : InsAt T.C_Check (upd (upd H dx (.own p)) p (.ins T.C_Check dx [])) p [] := ⟨dx, upd_same⟩
    have s0 : Same H (upd (upd H dx (.own p)) p (.ins T.C_Check dx [])) := fun b o e => by
      rw [upd_ne (ne_of_none e np), upd_ne (ne_of_none e ndx)]; exact e
    generalize upd (upd H dx (.own p)) p (.ins T.C_Check dx []) = H0 at *
    refine ⟨p, .int L, NF, .int L, rfl, hob, .int L, fun e => ?_, ?_⟩
    · have e : decide (0 ≤ L) = false := e
      rw [decide_eq_true h0] at e; cases e
    intro l el l0 H1 c e1 e2 e3 e4 e5 hC o1 nu nd nn
    cases el
    refine ⟨rfl, ?_⟩
    have hu : H c.u = none := free_ s0 nu
    have hdn : H c.d = none := free_ s0 nd
    have sS : ∀ {H'} {X : List Addr}, (∀ x ∈ X, H x = none) → BtX X H1 H' → Same H H' := fun n b a o e => b a o (fun m => by rw [n a m] at e; cases e) (o1 a o (ne_of_none e np) (s0 a o e))
    walk_at "go"
    refine i_rng 3 rfl (by omega) (by omega) ?_
    refine l_rng (fun i σ3 H3 => ∃ y, σ3 = [some x, some (.int L), some (.ref p), y] ∧ BtX [p, c.u] H1 H3 ∧ CkAt K T.C_Check T.C_Dealing H3 p { c with many := (i : Nat), uw := opn L i }) ⟨none, rfl, fun _ _ _ z => z, by
      have ec : c = { c with many := ((0 : Nat) : Int), uw := opn L 0 } := by
        cases c
        cases e2
        cases e3
        rfl
      rw [← ec]; exact hC⟩ (fun σ3 H3 z => ?_) (fun i σ3 H3 hi z => ?_)
    rotate_left 1
    · obtain ⟨y, rfl, b3, h3⟩ := z
      walk_at "go"
      refine m_call0 h3.ob (cf_no _ _ _ _ _ (by decide +kernel)) ?_
      walk_at "go"
      refine ⟨p, _, .int L, NF, .int L, rfl, h3, .int L, by show (opn L i).length ≤ 100; rw [opn_len]; omega, fun s => opn_new L s i, fun e => ?_, fun s es st H4 b4 h4 => ?_⟩
      · cases (show false = true from Eq.trans (Eq.symm e) (stand_last e1.symm))
      · cases es
        walk_at "go"
        refine ⟨_, rfl, b3.trans b4, ?_⟩
        have h4 : CkAt K T.C_Check T.C_Dealing H4 p { c with many := (i : Nat) + 1, uw := opn L i ++ [((i : Int), L)] } := h4
        rw [opn_succ] at h4
        exact h4
    obtain ⟨y, rfl, b3, h3⟩ := z
    have e3' : opn L 3 = [(0, L), (1, L), (2, L)] := rfl
    rw [e3'] at h3
    walk_at "go"
    refine m_call0 h3.ob (cf_no _ _ _ _ _ (by decide +kernel)) ?_
    walk_at "go"
    refine n_new (le_size (by simp)) fun t1 H4 n4 s4 h4 => ?_
    walk_at "go"
    refine n_new (le_size (by simp)) fun t2 H5 n5 s5 h5 => ?_
    walk_at "go"
    refine n_new (le_size (by simp)) fun t3 H6 n6 s6 h6 => ?_
    walk_at "go"
    refine n_new (le_size (by simp)) fun t4 H7 n7 s7 h7 => ?_
    walk_at "go"
    have s37 := s4.trans (s5.trans (s6.trans s7))
    have g1 : Dq K NF H7 (.ref t1) (.tuple [.str "a"]) := .tup (stO ((s5.trans (s6.trans s7)) _ _ h4)) (.cons (.str _) .nil)
    have g2 : Dq K NF H7 (.ref t2) (.tuple []) := .tup (stO ((s6.trans s7) _ _ h5)) .nil
    have g4 : Dq K NF H7 (.ref t4) (.tuple [.tuple [.str "b", .int 4]]) := .tup (stO h7) (.cons (.tup (stO (s7 _ _ h6)) (.cons (.str _) (.cons (.int _) .nil))) .nil)
    have b7 := b3.trans (BtX.of_same s37)
    have h7' := h3.same s37
    clear h4 h5 h6 h7 n4 n5 n6 n7 s4 s5 s6 s7 h3 s37 b3
    refine ⟨p, _, .int 1, .ref t1, .ref t2, .ref t4, .int 1, _, _, _, rfl, h7', by simp, ⟨⟨NF, .int 1⟩, ⟨_, g1⟩, ⟨_, g2⟩, ⟨_, g4⟩, by decide +kernel, by decide +kernel, by decide +kernel, e1 ▸ h0, fun y hy => ?_⟩, ⟨fun e => ?_, fun _ e => ?_, fun _ _ e => ?_⟩, ⟨fun e gs rs ws ee eo eg er ew ok => ⟨.inl ⟨e4, e5⟩, fun _ => ?_, fun er => ?_⟩⟩⟩
    · have hy : y ∈ [((0 : Int), L), (1, L), (2, L)] := hy
      simp only [List.mem_cons, List.not_mem_nil, or_false] at hy
      show 0 ≤ y.2 ∧ y.2 ≤ c.last
      rcases hy with z | z | z <;> rw [z, e1] <;> exact ⟨h0, Int.le_refl _⟩
    · cases (show false = true from Eq.trans (Eq.symm e) (by rfl))
    · exact absurd e (by decide +kernel)
    · exact absurd e (by decide +kernel)
    · cases ee
      obtain rfl := gs_a eg
      obtain rfl := rs_0 er
      obtain rfl := ws_b ew
      intro v H8 S a d' n0 n' nx' b8 en hS h8
      have b8 : BtX [p, c.u, c.d] H1 H8 := (b7.mono (by simp)).trans b8
      have en : nx'.map dat = match c.dl with
        | [] => [((1 : Int), ([] : List Int))]
        | (k, _, D1) :: _ => [(k, if tiedB D1 (dealD { c with many := ((3 : Nat) : Int), uw := [(0, L), (1, L), (2, L)] } 1 ["a"] [] [("b", some 4)]) then [1] else []), (1, if tiedB (dealD { c with many := ((3 : Nat) : Int), uw := [(0, L), (1, L), (2, L)] } 1 ["a"] [] [("b", some 4)]) D1 then [k] else [])] := en
      rw [e4] at en
      obtain ⟨r, rfl⟩ := nx_one en
      have eD : dealD { c with many := ((3 : Nat) : Int), uw := [(0, L), (1, L), (2, L)] } 1 ["a"] [] [("b", some 4)] = DL1 L := by
        show (⟨snapOf _ 1, some (c.last + 1), _, _, _⟩ : Dl) = _
        rw [e1]; rfl
      have S1 : S 1 = true := hS (fun z => (by cases z)) (1, a, _) (List.mem_append_right _ List.mem_cons_self) (by
        rw [eD]
        show decide (minU _ < L + 1) = true
        refine decide_eq_true ?_
        show (([L, L] : List Int).min?).getD 0 < L + 1
        have : ([L, L] : List Int).min? = some L := by simp [List.min?]
        rw [this]
        show L < L + 1
        omega)
      clear hS
      have h8 : CkAt K T.C_Check T.C_Dealing H8 p ⟨L + 1, 3, c.u, d', n', [(0, L), (2, L)], [(1, a, DL1 L)], [(1, r, [])]⟩ := by
        have q : CkAt K T.C_Check T.C_Dealing H8 p ⟨newLast c (dealD { c with many := ((3 : Nat) : Int), uw := [(0, L), (1, L), (2, L)] } 1 ["a"] [] [("b", some 4)]), 3, c.u, d', n', [(0, L), (2, L)], (c.dl ++ [(1, a, dealD { c with many := ((3 : Nat) : Int), uw := [(0, L), (1, L), (2, L)] } 1 ["a"] [] [("b", some 4)])]).filter (fun y => S y.1), [((1 : Int), r, ([] : List Int))].filter (fun y => S y.1)⟩ := h8
        rw [eD, e4] at q
        have f1 : ([] ++ [((1 : Int), a, DL1 L)]).filter (fun y => S y.1) = [((1 : Int), a, DL1 L)] := by
          exact keep1 S1 _
        have f2 : [((1 : Int), r, ([] : List Int))].filter (fun y => S y.1) = [((1 : Int), r, ([] : List Int))] := keep1 S1 _
        rw [f1, f2] at q
        exact q
      clear S1 g1 g2 g4 h7' b7 en
      walk_at "go"
      refine m_call0 h8.ob (cf_no _ _ _ _ _ (by decide +kernel)) ?_
      walk_at "go"
      refine ⟨p, _, .int 2, NF, .int 2, rfl, h8, ⟨rfl, by simp, by simp, by simp, by simp⟩, .int 2, fun e => (by cases (show false = true from Eq.trans (Eq.symm e) (by rfl))), fun e ee eo S2 H9 d2 n2 hS b9 h9 => ?_⟩
      cases ee
      have S1 : S2 1 = true := hS (fun z => (by cases z)) (1, a, _) List.mem_cons_self (by
        show decide ((([L] : List Int).min?).getD 0 < L + 1) = true
        refine decide_eq_true ?_
        show L < L + 1
        omega)
      have h9 : CkAt K T.C_Check T.C_Dealing H9 p ⟨L + 1, 3, c.u, d2, n2, [(0, L)], [(1, a, DL1 L)], [(1, r, [])]⟩ := by
        have q : CkAt K T.C_Check T.C_Dealing H9 p ⟨L + 1, 3, c.u, d2, n2, [(0, L)], [((1 : Int), a, DL1 L)].filter (fun y => S2 y.1), [((1 : Int), r, ([] : List Int))].filter (fun y => S2 y.1)⟩ := h9
        rw [keep1 S1, keep1 S1] at q
        exact q
      have b9 : BtX [p, c.u] H8 H9 := b9
      clear hS S1 h8
      walk_at "go"
      refine m_call0 h9.ob (cf_no _ _ _ _ _ (by decide +kernel)) ?_
      walk_at "go"
      refine ⟨p, _, .int (L + 1), NF, .int (L + 1), rfl, h9, .int _, by simp, by simp, fun e => ?_, fun s es st H10 b10 h10 => ?_⟩
      · cases (show false = true from Eq.trans (Eq.symm e) (stand_last rfl))
      · cases es
        have b10 : BtX [p, c.u] H9 H10 := b10
        walk_at "go"
        refine k p _ H10 (sS ?_ (b8.trans ((b9.trans b10).mono (by simp)))) np h10 ⟨rfl, rfl, rfl, ⟨a, rfl⟩, ⟨r, rfl⟩⟩
        intro x hx
        simp only [List.mem_cons, List.not_mem_nil, or_false] at hx
        rcases hx with z | z | z <;> rw [z] <;> assumption
    · have er : (match c.dl with
        | [] => false
        | (_, _, D1) :: _ => tiedB D1 _ && tiedB _ D1) = true := er
      rw [e4] at er; cases er
end



section
variable {P : Program} {w : World} {K : PySem.W.Frag} {mg : Str → Option Value} {base : Heap}
/-! ### the law's state -/
def WE (Cs : List Addr) (Q : VK) : XK := fun cls d H' => (∀ dd, d = some dd → ∃ fs, H' dd = some (.xd fs)) ∧ ∃ (j : Nat) (C : Addr) (wd : V), Cs[j]? = some C ∧ cls = .ref C ∧ wWords[j]? = some wd ∧ ∀ H'', Same H' H'' → Q wd H''
theorem e_lamW {TL : List (Addr × Str)} {Cs : List Addr} {t : XK → TE} {σ : L2.St} {H : Hp} {Q : VK} (tb : LamX.Tabs TL H) (h : ∀ H1, LamX.ExtN H H1 → LamX.Tabs TL H1 → t (WE Cs Q) σ H1 fun _ H' => Q (.str "let") H') : LamX.tLam TL (TWord Cs) t σ H Q := ⟨tb, h⟩
theorem w_err {Cs : List Addr} {Q : VK} {H : Hp} {C : Addr} {wd : V} (j : Nat) (h1 : Cs[j]? = some C) (h2 : wWords[j]? = some wd) (q : ∀ H'', Same H H'' → Q wd H'') : WE Cs Q (.ref C) none H := ⟨fun _ z => (nomatch z), j, C, wd, h1, rfl, h2, q⟩
theorem w_errF {Cs : List Addr} {Q : VK} {H : Hp} {C dd : Addr} {f : List (Str × V)} {wd : V} (j : Nat) (h1 : Cs[j]? = some C) (h2 : wWords[j]? = some wd) (q : ∀ H'', Same (upd H dd (.xd f)) H'' → Q wd H'') : WE Cs Q (.ref C) (some dd) (upd H dd (.xd f)) := ⟨fun _ z => (by cases z; exact ⟨_, upd_same⟩), j, C, wd, h1, rfl, h2, q⟩
theorem xn_t {H H' : Hp} {a : Addr} {xs : List V} (e : LamX.ExtN H H') (s : SqT K H a xs) : SqT K H' a xs := by
  rcases s with (s | ⟨u, s⟩) | s
  · exact .inl (.inl (e _ _ s (fun _ z => nomatch z)))
  · exact .inl (.inr ⟨u, e _ _ s (fun _ z => nomatch z)⟩)
  · exact .inr s
theorem xn_l {H H' : Hp} {a : Addr} {xs : List V} (e : LamX.ExtN H H') (s : SqL K H a xs) : SqL K H' a xs := by
  rcases s with (s | ⟨u, s⟩) | s
  · exact .inl (.inl (e _ _ s (fun _ z => nomatch z)))
  · exact .inl (.inr ⟨u, e _ _ s (fun _ z => nomatch z)⟩)
  · exact .inr s
theorem Dq.xn {N : Addr → Prop} {H H' : Hp} {d : PyData} {x : V} (h : Dq K N H x d) (e : LamX.ExtN H H') : Dq K N H' x d := Dq.mv (fun _ _ _ => xn_l e) (fun _ _ => xn_t e) (fun _ _ _ z => e _ _ z (fun _ z => nomatch z)) d x h
theorem bag_xn {B : Bg} {H H' : Hp} (b : BagAt K H B) (e : LamX.ExtN H H') : BagAt K H' B := by
  obtain ⟨i, big, x, c, h1, h2, h3⟩ := b
  exact ⟨i, big, x, c, e _ _ h1 (fun _ z => nomatch z), e _ _ h2 (fun _ z => nomatch z), h3⟩
theorem ck_mv {C Cd p : Addr} {H H' : Hp} {c : Ck} {L : Int} (h : CkAt K C Cd H p c) (m : MainC L c) (kO : ∀ a D dx fs, H a = some (.ins D dx fs) → H' a = some (.ins D dx fs)) (kD : ∀ a kvs, H a = some (.dK kvs) → H' a = some (.dK kvs)) (kT : ∀ a xs, SqT K H a xs → SqT K H' a xs) (kL : ∀ a, H a = some (.lst []) → H' a = some (.lst [])) : CkAt K C Cd H' p c := by
  refine ⟨h.ob.elim fun dx e => ⟨dx, kO _ _ _ _ e⟩, kD _ _ h.hu, kD _ _ h.hd, kD _ _ h.hn, h.ud, h.un, h.dn, fun e me => ⟨?_, (h.dls e me).2⟩, fun e me => ?_⟩
  · obtain ⟨vg, vr, vw, ⟨dx, q⟩, g, r, w⟩ := (h.dls e me).1
    exact ⟨vg, vr, vw, ⟨dx, kO _ _ _ _ q⟩, nf_mv kT g, nf_mv kT r, nf_mv kT w⟩
  · have q := h.nxs e me
    obtain ⟨r1, er⟩ := m.n
    rw [er] at me
    rw [List.mem_singleton.mp me] at q ⊢
    exact kL _ q
theorem ck_xn {C Cd p : Addr} {H H' : Hp} {c : Ck} {L : Int} (h : CkAt K C Cd H p c) (m : MainC L c) (e : LamX.ExtN H H') : CkAt K C Cd H' p c :=
  ck_mv h m (fun _ _ _ _ z => e _ _ z (fun _ z => nomatch z)) (fun _ _ z => e _ _ z (fun _ z => nomatch z)) (fun _ _ => xn_t e) fun _ z => e _ _ z (fun _ z => nomatch z)
theorem ck_hs {C Cd p : Addr} {B : Bg} {H H' : Hp} {c : Ck} {L : Int} (h : CkAt K C Cd H p c) (m : MainC L c) (b : BagAt K H B) (s : Hs K B H H') : CkAt K C Cd H' p c := by
  obtain ⟨i, big, x, y, g1, g2, g3⟩ := id b
  exact ck_mv h m (fun a _ _ _ z => s.o _ _ (fun n => by rw [n, g1] at z; cases z) z) (fun a _ z => s.o _ _ (fun n => by rw [n, g1] at z; cases z) z) (fun _ _ => s.st b) fun a z => s.o _ _ (fun n => by rw [n, g1] at z; cases z) z
def ShAt (H : Hp) (a : Addr) (L : Int) : Prop := ∃ t1 t2, H a = some (.tup [.int (L + 1), .ref t1, .ref t2]) ∧ H t1 = some (.tup [.int 0, .int 3]) ∧ H t2 = some (.tup [.int 1])
theorem sh_mv {H H' : Hp} {a : Addr} {L : Int} (h : ShAt H a L) (k : ∀ a xs, H a = some (.tup xs) → H' a = some (.tup xs)) : ShAt H' a L := by
  obtain ⟨t1, t2, h1, h2, h3⟩ := h
  exact ⟨t1, t2, k _ _ h1, k _ _ h2, k _ _ h3⟩
def shD (L : Int) : PyData := .tuple [.int (L + 1), .tuple [.int 0, .int 3], .tuple [.int 1]]
theorem sh_dp {H : Hp} {a : Addr} {L : Int} (h : ShAt H a L) : Dp K H (.ref a) (shD L) := by
  obtain ⟨t1, t2, h1, h2, h3⟩ := h
  exact .tup (stO h1) (.cons (.int _) (.cons (.tup (stO h2) (.cons (.int _) (.cons (.int _) .nil))) (.cons (.tup (stO h3) (.cons (.int _) .nil)) .nil)))
theorem sh_lay (L : Int) : PyData.canLay0 (shD L) = true := by simp [shD, PyData.canLay0, PyData.canLayAll0]
theorem sh_shaped (L : Int) : SeqAt.shaped (shD L) = true := by
  unfold SeqAt.shaped
  rw [Bool.and_eq_true_iff]
  exact ⟨sh_lay L, by simp [shD, PyData.depth, PyData.depthAll]⟩
theorem sh_ne {r : R2} {H : Hp} {Q : VK} {a b : Addr} {L : Int} (h1 : ShAt H a L) (h2 : ShAt H b L) (q : Q (.bl false) H) : rOr r (rNeD K) (.ref a) (.ref b) H Q :=
  .inr ⟨_, _, sh_dp h1, sh_dp h2, sh_shaped L, sh_shaped L, by rw [SeqAt.eqv_refl _ (sh_lay L)]; exact q⟩
theorem sh_eq {r : R2} {H : Hp} {Q : VK} {a b : Addr} {L : Int} (h1 : ShAt H a L) (h2 : ShAt H b L) (q : Q (.bl true) H) : rOr r (rEqD K) (.ref a) (.ref b) H Q :=
  .inr ⟨_, _, sh_dp h1, sh_dp h2, sh_shaped L, sh_shaped L, by rw [SeqAt.eqv_refl _ (sh_lay L)]; exact q⟩
theorem sorted_03 {ys : List Int} (p : ys.Perm [0, 3]) (s : ys.Pairwise (· ≤ ·)) : ys = [0, 3] := List.Perm.eq_of_pairwise (le := (· ≤ ·)) (fun a b _ _ x y => Int.le_antisymm x y) s (by simp) p
structure Lw (T : Txt K mg) (H : Hp) (B : Bg) (p : Addr) (c : Ck) (L : Int) (sh : Addr) : Prop where
  tb : LamX.Tabs (tabsL T) H
  bag : BagAt K H B
  ck : CkAt K T.C_Check T.C_Dealing H p c
  mc : MainC L c
  s : ShAt H sh L
  l0 : 0 ≤ L
section
variable {T : Txt K mg} {H H' : Hp} {B : Bg} {p sh : Addr} {c : Ck} {L : Int}
theorem tabs_hs {TL : List (Addr × Str)} {B : Bg} {H H' : Hp} (b : BagAt K H B) (s : Hs K B H H') (t : LamX.Tabs TL H) : LamX.Tabs TL H' := by
  obtain ⟨i, big, x, y, g1, g2, g3⟩ := id b
  intro q hq
  obtain ⟨ps, h1, h2, h3⟩ := t q hq
  refine ⟨ps, s.o _ _ (fun n => by rw [n, g1] at h1; cases h1) h1, h2, fun pos cv hc => ?_⟩
  obtain ⟨d, e1, e2⟩ := h3 pos cv hc
  exact ⟨d, e1, s.o _ _ (fun n => by rw [n, g1] at e2; cases e2) e2⟩
theorem Lw.hs (l : Lw T H B p c L sh) (s : Hs K B H H') : Lw T H' B p c L sh := by
  obtain ⟨i, big, x, y, g1, g2, g3⟩ := id l.bag
  exact ⟨tabs_hs l.bag s l.tb, s.b, ck_hs l.ck l.mc l.bag s, l.mc, sh_mv l.s fun a xs z => s.o _ _ (fun n => by rw [n, g1] at z; cases z) z, l.l0⟩
theorem Lw.same (l : Lw T H B p c L sh) (s : Same H H') : Lw T H' B p c L sh := l.hs (Hs.of l.bag s)
theorem Lw.xn (l : Lw T H B p c L sh) (e : LamX.ExtN H H') (t : LamX.Tabs (tabsL T) H') : Lw T H' B p c L sh :=
  ⟨t, bag_xn l.bag e, ck_xn l.ck l.mc e, l.mc, sh_mv l.s fun a xs z => e _ _ z (fun _ z => nomatch z), l.l0⟩
end
theorem btx_same {X : List Addr} {H H1 H2 : Hp} (s : Same H H1) (n : ∀ x ∈ X, H x = none) (b : BtX X H1 H2) : Same H H2 := fun a o e => b a o (fun m => by rw [n a m] at e; cases e) (s a o e)
/-- a copy asks what the check asks -/
structure Cpy (c c' : Ck) : Prop where
  l : c'.last = c.last
  u : c'.uw = c.uw
  d : c'.dl = c.dl
theorem MainC.shape {L : Int} {c : Ck} (m : MainC L c) : Shape c := by
  obtain ⟨a1, e1⟩ := m.d
  obtain ⟨r1, e2⟩ := m.n
  exact ⟨by rw [e1, e2]; rfl, by rw [e1]; simp, by rw [e1]; simp, by rw [m.u]; simp, by rw [e2]; simp⟩
theorem MainC.min {L : Int} {c : Ck} (m : MainC L c) : minU c = L := by
  unfold minU
  rw [m.u]
  have : ([L, L + 1] : List Int).min? = some L := by
    simp [List.min?]
    omega
  show (([L, L + 1] : List Int).min?).getD 0 = L
  rw [this]; rfl
theorem MainC.open_ {L : Int} {c : Ck} (m : MainC L c) (d : PyData) : openB c d = (withinD d 0 3 && match d with
  | .int e => decide (e = 0 ∨ e = 3)
  | _ => false) := by
  cases d with
  | int e =>
    show decide (e ∈ c.uw.map (·.1)) = ((decide (0 ≤ e) && decide (e ≤ 3)) && decide (e = 0 ∨ e = 3))
    rw [m.u]
    show decide (e ∈ ([0, 3] : List Int)) = _
    rw [Bool.eq_iff_iff]
    simp only [Bool.and_eq_true, decide_eq_true_eq, List.mem_cons, List.not_mem_nil, or_false]
    omega
  | _ => rfl
theorem MainC.op {L : Int} {c : Ck} (m : MainC L c) (d : PyData) : opB c d = withinD d L (L + 1) := by
  cases d with
  | int e =>
    show standB c e = (decide (L ≤ e) && decide (e ≤ L + 1))
    unfold standB
    rw [m.min, m.l, m.u]
    rw [Bool.eq_iff_iff]
    simp only [Bool.or_eq_true, Bool.and_eq_true, decide_eq_true_eq, List.length_cons, List.length_nil]
    omega
  | _ => rfl
theorem MainC.rem {L : Int} {c : Ck} (m : MainC L c) (d : PyData) : remB c d = withinD d 1 1 := by
  obtain ⟨a1, e1⟩ := m.d
  cases d with
  | int e =>
    show decide (e ∈ c.dl.map (·.1)) = (decide (1 ≤ e) && decide (e ≤ 1))
    rw [e1]
    show decide (e ∈ ([1] : List Int)) = _
    rw [Bool.eq_iff_iff]
    simp only [Bool.and_eq_true, decide_eq_true_eq, List.mem_cons, List.not_mem_nil, or_false]
    omega
  | _ => rfl
theorem MainC.small {L : Int} {c : Ck} (m : MainC L c) {e : Int} (h : openB c (.int e) = true) : Small c e := by
  obtain ⟨a1, e1⟩ := m.d
  obtain ⟨r1, e2⟩ := m.n
  refine .inr ⟨1, a1, DL1 L, r1, e1, e2, fun z => ?_⟩
  rw [m.open_, z] at h
  cases h
theorem MainC.one {L : Int} {c : Ck} (m : MainC L c) : ∃ a1 r1, One c 1 a1 r1 (DL1 L) (L + 1) "b" := by
  obtain ⟨a1, e1⟩ := m.d
  obtain ⟨r1, e2⟩ := m.n
  refine ⟨a1, r1, e1, e2, by rw [m.u]; simp, by rw [m.u]; simp, ?_, rfl, ⟨_, _, rfl⟩⟩
  rw [m.min]
  show decide (L < L + 1) = true
  exact decide_eq_true (by omega)
theorem MainC.cpy {L : Int} {c c' : Ck} (m : MainC L c) (h : Cpy c c') (e4 : c'.many = c.many) (e : c'.nx.map dat = c.nx.map dat) : MainC L c' := by
  obtain ⟨r1, e2⟩ := m.n
  rw [e2] at e
  have e : c'.nx.map dat = [(1, [])] := e
  exact ⟨by rw [h.l, m.l], by rw [e4, m.m], by rw [h.u, m.u], by rw [h.d]; exact m.d, nx_one e⟩
/-! ### what a dealing is told -/
theorem gs_inj {gs gs' : List Str} (h : gsP gs = gsP gs') : gs = gs' := (List.map_inj_right (f := PyData.str) fun a b e => PyData.str.inj e).mp (PyData.tuple.inj h)
theorem rg_inj {a b : Str × Str × List Str} (h : rgP a = rgP b) : a = b := by
  obtain ⟨a1, a2, a3⟩ := a
  obtain ⟨b1, b2, b3⟩ := b
  have h := PyData.tuple.inj h
  have h1 : a1 = b1 := PyData.str.inj (List.cons.inj h).1
  have h := (List.cons.inj h).2
  have h2 : a2 = b2 := PyData.str.inj (List.cons.inj h).1
  have h3 : a3 = b3 := gs_inj (List.cons.inj (List.cons.inj h).2).1
  rw [h1, h2, h3]
theorem rs_inj {rs rs' : List (Str × Str × List Str)} (h : rsP rs = rsP rs') : rs = rs' := (List.map_inj_right (f := rgP) fun a b e => rg_inj e).mp (PyData.tuple.inj h)
theorem mark_inj {a b : Option Int} (h : markP a = markP b) : a = b := by
  cases a <;> cases b <;> first | rfl | (cases h; done) | (rw [PyData.int.inj h])
theorem wr_inj {a b : Str × Option Int} (h : wrP a = wrP b) : a = b := by
  obtain ⟨a1, a2⟩ := a
  obtain ⟨b1, b2⟩ := b
  have h := PyData.tuple.inj h
  have h1 : a1 = b1 := PyData.str.inj (List.cons.inj h).1
  have h2 : a2 = b2 := mark_inj (List.cons.inj (List.cons.inj h).2).1
  rw [h1, h2]
theorem ws_inj {ws ws' : List (Str × Option Int)} (h : wsP ws = wsP ws') : ws = ws' := (List.map_inj_right (f := wrP) fun a b e => wr_inj e).mp (PyData.tuple.inj h)
structure Told (c : Ck) (d dk dr dw : PyData) (wd : Str) : Prop where
  o : openB c d = false → wd = "open"
  s : openB c d = true → seenOk dk dr = false → wd = "seen"
  w : openB c d = true → seenOk dk dr = true → writesD dw = false → wd = "writes"
  f : ∀ e gs rs ws, d = .int e → openB c d = true → dk = gsP gs → dr = rsP rs → dw = wsP ws → seenOk dk dr = true → writesD dw = true → (ringB c e (dealD c e gs rs ws) = false → wd = "let") ∧ (ringB c e (dealD c e gs rs ws) = true → wd = "other")
def dueS (c : Ck) (d dk dr dw : PyData) : Str := if openB c d = true then (if seenOk dk dr = true then (if writesD dw = true then "let" else "writes") else "seen") else "open"
theorem told_ex (c : Ck) (d dk dr dw : PyData) : ∃ wd, Told c d dk dr dw wd ∧ (wd = dueS c d dk dr dw ∨ (wd = "other" ∧ dueS c d dk dr dw = "let")) := by
  unfold dueS
  cases e1 : openB c d with
  | false => exact ⟨"open", ⟨fun _ => rfl, fun z => (by rw [e1] at z; cases z), fun z => (by rw [e1] at z; cases z), fun _ _ _ _ _ z => (by rw [e1] at z; cases z)⟩, .inl (by rw [if_neg (by simp)])⟩
  | true =>
    rw [if_pos rfl]
    cases e2 : seenOk dk dr with
    | false => exact ⟨"seen", ⟨fun z => (by rw [e1] at z; cases z), fun _ _ => rfl, fun _ z => (by rw [e2] at z; cases z), fun _ _ _ _ _ _ _ _ _ z => (by rw [e2] at z; cases z)⟩, .inl (by rw [if_neg (by simp)])⟩
    | true =>
      rw [if_pos rfl]
      cases e3 : writesD dw with
      | false => exact ⟨"writes", ⟨fun z => (by rw [e1] at z; cases z), fun _ z => (by rw [e2] at z; cases z), fun _ _ _ => rfl, fun _ _ _ _ _ _ _ _ _ _ z => (by rw [e3] at z; cases z)⟩, .inl (by rw [if_neg (by simp)])⟩
      | true =>
        rw [if_pos rfl]
        by_cases r : ∃ e gs rs ws, d = .int e ∧ dk = gsP gs ∧ dr = rsP rs ∧ dw = wsP ws ∧ ringB c e (dealD c e gs rs ws) = true
        · refine ⟨"other", ⟨fun z => (by rw [e1] at z; cases z), fun _ z => (by rw [e2] at z; cases z), fun _ _ z => (by rw [e3] at z; cases z), fun e gs rs ws a _ b1 b2 b3 _ _ => ⟨fun z => ?_, fun _ => rfl⟩⟩, .inr ⟨rfl, rfl⟩⟩
          obtain ⟨e', gs', rs', ws', q1, q2, q3, q4, q5⟩ := r
          have z1 := PyData.int.inj (a.symm.trans q1)
          have z2 := gs_inj (b1.symm.trans q2)
          have z3 := rs_inj (b2.symm.trans q3)
          have z4 := ws_inj (b3.symm.trans q4)
          subst z1 z2 z3 z4
          rw [q5] at z; cases z
        · exact ⟨"let", ⟨fun z => (by rw [e1] at z; cases z), fun _ z => (by rw [e2] at z; cases z), fun _ _ z => (by rw [e3] at z; cases z), fun e gs rs ws a _ b1 b2 b3 _ _ => ⟨fun _ => rfl, fun z => absurd ⟨e, gs, rs, ws, a, b1, b2, b3, z⟩ r⟩⟩, .inl rfl⟩
theorem Told.cpy {c c' : Ck} {d dk dr dw : PyData} {wd : Str} (t : Told c d dk dr dw wd) (h : Cpy c c') : Told c' d dk dr dw wd := by
  have e1 : ∀ d, openB c' d = openB c d := fun d => by unfold openB; rw [h.u]
  have e2 : ∀ e gs rs ws, dealD c' e gs rs ws = dealD c e gs rs ws := fun e gs rs ws => by unfold dealD snapOf; rw [h.u, h.l]
  have e3 : ∀ e D, ringB c' e D = ringB c e D := fun e D => by unfold ringB; rw [h.d]
  refine ⟨fun z => t.o (e1 d ▸ z), fun z => t.s (e1 d ▸ z), fun z => t.w (e1 d ▸ z), fun e gs rs ws a b => ?_⟩
  rw [e2, e3]
  exact t.f e gs rs ws a (e1 d ▸ b)
end



section
variable {P : Program} {w : World} {K : PySem.W.Frag} {mg : Str → Option Value} {base : Heap}
theorem szAll_cons {d : PyData} {ds : List PyData} (h : szD d = true) (k : szAll ds = true) : szAll (d :: ds) = true := by rw [szAll, h, k]; rfl
structure Qs (K : PySem.W.Frag) (B : Bg) (H : Hp) (ve vk vr vw : V) (de dk dr dw : PyData) : Prop where
  e : Dq K (NB B) H ve de
  k : Dq K (NB B) H vk dk
  r : Dq K (NB B) H vr dr
  w : Dq K (NB B) H vw dw
theorem Qs.same {B : Bg} {H H' : Hp} {ve vk vr vw : V} {de dk dr dw : PyData} (q : Qs K B H ve vk vr vw de dk dr dw) (s : Same H H') : Qs K B H' ve vk vr vw de dk dr dw := ⟨q.e.same s, q.k.same s, q.r.same s, q.w.same s⟩
theorem Qs.xn {B : Bg} {H H' : Hp} {ve vk vr vw : V} {de dk dr dw : PyData} (q : Qs K B H ve vk vr vw de dk dr dw) (s : LamX.ExtN H H') : Qs K B H' ve vk vr vw de dk dr dw := ⟨q.e.xn s, q.k.xn s, q.r.xn s, q.w.xn s⟩
theorem MainC.args {L : Int} {c : Ck} (m : MainC L c) (h0 : 0 ≤ L) : 0 ≤ c.last ∧ ∀ y ∈ c.uw, 0 ≤ y.2 ∧ y.2 ≤ c.last := by
  refine ⟨by rw [m.l]; omega, fun y hy => ?_⟩
  rw [m.u] at hy
  rw [m.l]
  simp only [List.mem_cons, List.not_mem_nil, or_false] at hy
  rcases hy with z | z <;> rw [z]
  · exact ⟨h0, by show L ≤ L + 1; omega⟩
  · exact ⟨by show 0 ≤ L + 1; omega, Int.le_refl _⟩
theorem Qs.args {B : Bg} {H : Hp} {ve vk vr vw : V} {de dk dr dw : PyData} {L : Int} {c : Ck} (q : Qs K B H ve vk vr vw de dk dr dw) (m : MainC L c) (h0 : 0 ≤ L) (zk : szD dk = true) (zr : szD dr = true) (zw : szD dw = true) : Args K H c ve vk vr vw de dk dr dw :=
  ⟨⟨_, q.e⟩, ⟨_, q.k⟩, ⟨_, q.r⟩, ⟨_, q.w⟩, zk, zr, zw, (m.args h0).1, (m.args h0).2⟩
theorem seen_ok {gs : List Str} {rs : List (Str × Str × List Str)} {ws : List (Str × Option Int)} {dk dr dw : PyData} (b1 : dk = gsP gs) (b2 : dr = rsP rs) (b3 : dw = wsP ws) (ok : DataOk gs rs ws) : seenOk dk dr = true ∧ writesD dw = true := by
  unfold seenOk
  rw [b1, b2, b3, ok.1, ok.2.1]
  exact ⟨rfl, ok.2.2.1⟩
def sp_law (K : PySem.W.Frag) (PT : Addr) : Sp := fun vs H Q _ => ∃ (a : Addr) (ns : List Int), vs = [.ref a] ∧ SqL K H a (ns.map V.int) ∧ ns.length ≤ 63 ∧ H PT = some (.tbl #[]) ∧ ∀ H', Q (.bl true) H'
theorem ok_law (T : Txt K mg) (B_law : LamX.TabB base mg T.law.c T.law.P) : FnOk P w K mg base CX0 13 T.law.f T.law.fd ["script"] ((sp_law K T.law.P)) := by
  refine T.law.ok sc_law (fun vs H Q E h => ?_) (fun A outer s H vs Q E hr h => ?_)
  · obtain ⟨a, ns, rfl, _⟩ := h
    rfl
  · obtain ⟨a, ns0, rfl, hS, hl, hP, k⟩ := h
    refine ⟨_, (pss_cons (ps_set (i := 1) sc_law.nd rfl (Or.inl rfl) (pe_call (ok_law_hand T) (hr.mono (by decide)) (by rfl) T.law_hand.g T.law_hand.F.kp T.law_hand.b .nil pass0 (pa_cons (pv 0) pa_nil)))
    (pss_cons (ps_set (i := 2) sc_law.nd rfl (Or.inr rfl) (pe_call (ok_law_odd T) (hr.mono (by decide)) (by rfl) T.law_odd.g T.law_odd.F.kp T.law_odd.b .nil pass0 (pa_cons (pv 1) (pa_cons pe_int pa_nil))))
    (Evl.pss_cut (ps_set (i := 3) sc_law.nd rfl (Or.inl rfl) (pe_ifExp (ptTruth (K := K) (pe_call (ok_law_is_int T) (hr.mono (by decide)) (by rfl) T.law_is_int.g T.law_is_int.F.kp T.law_is_int.b .nil pass0 (pa_cons (pv 2) (pa_cons pe_int (pa_cons (pe_op op_pow pe_int pe_int) pa_nil)))) (by intro _; rfl)) pe_str pe_str))
    (Evl.pss_cut (ps_if (pt_cmpR (oNe (K := K) hr.units) (pe_lamF (n := ("law" : Str) ++ ".<locals>.") (T := tabsL T) (k := 4) nox_qual T.law_word (by rfl) sc_law_word4 (by rfl) (.inl (by rfl)) (fun cdv => word_givesX T rfl rfl) B_law rfl (tabsM_law T) (tabs_uniq T.dst (tabsM_law T)) (hr.mono (by decide)) (show LamX.LamS (defScope s_law) _ from LamX.lamS_by (by decide +kernel)) rfl (fun _ _ _ _ _ => rfl) (fun A outer s H E f c hr => (pe_make (T.m_Check_init.made T.k_Check) (ok_Check_init T) (hr.mono (by decide)) (by rfl) T.k_Check.g T.m_Check_init.b .nil (passes_call (takes_of rfl rfl rfl rfl) (fun _ _ _ _ h => h)) (pa_cons (pv 2) pa_nil)))) (pv 3) (nomark _)) (pss_one (ps_ret pe_bl)) pss_nil)
    (pss_cons (ps_set (i := 4) sc_law.nd rfl (Or.inl rfl) (pe_ix (ixLT (K := K)) (pe_lst (pa_cons pe_int (pa_cons pe_int (pa_cons (pe_op op_pow pe_int pe_int) pa_nil)))) (pe_call (ok_law_draw T) (hr.mono (by decide)) (by rfl) T.law_draw.g T.law_draw.F.kp T.law_draw.b .nil pass0 (pa_cons (pv 1) (pa_cons pe_int pa_nil))) (fun _ _ => rfl)))
    (pss_cons (ps_set (i := 5) sc_law.nd rfl (Or.inr rfl) (pe_call (ok_law_ready T) (hr.mono (by decide)) (by rfl) T.law_ready.g T.law_ready.F.kp T.law_ready.b .nil pass0 (pa_cons (pv 1) (pa_cons (pv 4) pa_nil))))
    (pss_cons (ps_set (i := 6) sc_law.nd rfl (Or.inl rfl) (pe_tup (pa_cons (pe_meth0 (pv 5) T.k_Check.cl T.m_Check_last.i (ok_Check_last T) (hr.mono (by decide)) T.m_Check_last.b .nil pass0) (pa_cons (pe_meth0 (pv 5) T.k_Check.cl T.m_Check_open_entries.i (ok_Check_open_entries T) (hr.mono (by decide)) T.m_Check_open_entries.b .nil pass0) (pa_cons (pe_meth0 (pv 5) T.k_Check.cl T.m_Check_remembered.i (ok_Check_remembered T) (hr.mono (by decide)) T.m_Check_remembered.b .nil pass0) pa_nil)))))
    (pss_cons (ps_if (pt_cmpR (oNe (K := K) hr.units) (pv 6) (pe_tup (pa_cons (pe_op oAdd (pv 4) pe_int) (pa_cons (pe_tup (pa_cons pe_int (pa_cons pe_int pa_nil))) (pa_cons (pe_tup (pa_cons pe_int pa_nil)) pa_nil)))) (nomark _)) (pss_one (ps_ret pe_bl)) pss_nil)
    (pss_cons (ps_for PassesOwn.never rfl (pi_range1 (by rfl) T.z_range (pa_cons pe_int pa_nil)) (pg_name (i := 7) sc_law.nd rfl (Or.inl rfl))
      (pss_cons (ps_set (i := 8) sc_law.nd rfl (Or.inr rfl) (pe_ix (ixLT (K := K)) (pe_lst (pa_cons (pv 4) (pa_cons (pe_op oAdd (pv 4) pe_int) (pa_cons (pe_op op_sub (pv 4) pe_int) (pa_cons (pe_op oAdd (pv 4) pe_int) (pa_cons (pe_call (ok_law_odd T) (hr.mono (by decide)) (by rfl) T.law_odd.g T.law_odd.F.kp T.law_odd.b .nil pass0 (pa_cons (pv 1) (pa_cons (pv 4) pa_nil))) (pa_cons pe_bl (pa_cons pe_non (pa_cons pe_str pa_nil))))))))) (pe_call (ok_law_draw T) (hr.mono (by decide)) (by rfl) T.law_draw.g T.law_draw.F.kp T.law_draw.b .nil pass0 (pa_cons (pv 1) (pa_cons pe_int pa_nil))) (fun _ _ => rfl)))
    (Evl.pss_cut (ps_set (i := 3) sc_law.nd rfl (Or.inl rfl) (pe_ifExp (ptTruth (K := K) (pe_call (ok_law_is_int T) (hr.mono (by decide)) (by rfl) T.law_is_int.g T.law_is_int.F.kp T.law_is_int.b .nil pass0 (pa_cons (pv 8) (pa_cons (pv 4) (pa_cons (pe_op oAdd (pv 4) pe_int) pa_nil)))) (by intro _; rfl)) pe_str pe_str))
    (Evl.pss_cut (ps_if (pt_cmpR (oNe (K := K) hr.units) (pe_lamF (n := ("law" : Str) ++ ".<locals>.") (T := tabsL T) (k := 5) nox_qual T.law_word (by rfl) sc_law_word4 (by rfl) (.inl (by rfl)) (fun cdv => word_givesX T rfl rfl) B_law rfl (tabsM_law T) (tabs_uniq T.dst (tabsM_law T)) (hr.mono (by decide)) (show LamX.LamS (defScope s_law) _ from LamX.lamS_by (by decide +kernel)) rfl (fun _ _ _ _ _ => rfl) (fun A outer s H E f c hr => (pe_meth (pe_meth0 (pv 5) T.k_Check.cl T.m_Check_copy.i (ok_Check_copy T) (hr.mono (by decide)) T.m_Check_copy.b .nil pass0) T.k_Check.cl T.m_Check_opens.i (ok_Check_opens T) (hr.mono (by decide)) T.m_Check_opens.b .nil (passes_call (takes_of rfl rfl rfl rfl) (fun _ _ _ _ h => h)) (pa_cons (pv 8) pa_nil)))) (pv 3) (nomark _)) (pss_one (ps_ret pe_bl)) pss_nil)
    (pss_cons (ps_set (i := 9) sc_law.nd rfl (Or.inr rfl) (pe_ix (ixLT (K := K)) (pe_lst (pa_cons pe_int (pa_cons pe_int (pa_cons pe_int (pa_cons pe_int (pa_cons pe_int (pa_cons pe_bl (pa_cons pe_bl (pa_cons (pe_call (ok_law_odd T) (hr.mono (by decide)) (by rfl) T.law_odd.g T.law_odd.F.kp T.law_odd.b .nil pass0 (pa_cons (pv 1) (pa_cons pe_int pa_nil))) pa_nil))))))))) (pe_call (ok_law_draw T) (hr.mono (by decide)) (by rfl) T.law_draw.g T.law_draw.F.kp T.law_draw.b .nil pass0 (pa_cons (pv 1) (pa_cons pe_int pa_nil))) (fun _ _ => rfl)))
    (Evl.pss_cut (ps_set (i := 10) sc_law.nd rfl (Or.inl rfl) (pe_and (pe_call (ok_law_is_int T) (hr.mono (by decide)) (by rfl) T.law_is_int.g T.law_is_int.F.kp T.law_is_int.b .nil pass0 (pa_cons (pv 9) (pa_cons pe_int (pa_cons pe_int pa_nil)))) (pe_one (pe_cmpR (oIn (K := K)) (pv 9) (pe_tup (pa_cons pe_int (pa_cons pe_int pa_nil))) (by rfl)))))
    (pss_cons (ps_asg (pe_tup (pa_cons (pe_call (ok_law_odd T) (hr.mono (by decide)) (by rfl) T.law_odd.g T.law_odd.F.kp T.law_odd.b .nil pass0 (pa_cons (pv 1) (pa_cons (pe_tup (pa_cons pe_str pa_nil)) pa_nil))) (pa_cons (pe_call (ok_law_odd T) (hr.mono (by decide)) (by rfl) T.law_odd.g T.law_odd.F.kp T.law_odd.b .nil pass0 (pa_cons (pv 1) (pa_cons (pe_tup pa_nil) pa_nil))) (pa_cons (pe_call (ok_law_odd T) (hr.mono (by decide)) (by rfl) T.law_odd.g T.law_odd.F.kp T.law_odd.b .nil pass0 (pa_cons (pv 1) (pa_cons (pe_tup (pa_cons (pe_tup (pa_cons pe_str (pa_cons pe_int pa_nil))) pa_nil)) pa_nil))) pa_nil)))) (pgTup (K := K) (n := 3) (pg_tup (n := 3) rfl (pgs_cons (pg_name (i := 11) sc_law.nd rfl (Or.inr rfl)) (pgs_cons (pg_name (i := 12) sc_law.nd rfl (Or.inr rfl)) (pgs_cons (pg_name (i := 13) sc_law.nd rfl (Or.inr rfl)) pgs_nil))))))
    (Evl.pss_cut (ps_set (i := 3) sc_law.nd rfl (Or.inl rfl) (pe_ifExp (ptTruth (K := K) (pe_call (ok_law_are_writes T) (hr.mono (by decide)) (by rfl) T.law_are_writes.g T.law_are_writes.F.kp T.law_are_writes.b .nil pass0 (pa_cons (pv 13) pa_nil)) (by intro _; rfl)) pe_str pe_str))
    (Evl.pss_cut (ps_set (i := 3) sc_law.nd rfl (Or.inl rfl) (pe_ifExp (PW.pt (pw_and (ptTruth (K := K) (pe_call (ok_law_are_keys T) (hr.mono (by decide)) (by rfl) T.law_are_keys.g T.law_are_keys.F.kp T.law_are_keys.b .nil pass0 (pa_cons (pv 11) pa_nil)) (by intro _; rfl)) (pw_and1 (ptTruth (K := K) (pe_call (ok_law_are_ranges T) (hr.mono (by decide)) (by rfl) T.law_are_ranges.g T.law_are_ranges.F.kp T.law_are_ranges.b .nil pass0 (pa_cons (pv 12) pa_nil)) (by intro _; rfl))))) (pv 3) pe_str))
    (Evl.pss_cut (ps_set (i := 3) sc_law.nd rfl (Or.inl rfl) (pe_ifExp (ptTruth (K := K) (pv 10) (by intro _; rfl)) (pv 3) pe_str))
    (Evl.pss_cut (ps_set (i := 14) sc_law.nd rfl (Or.inl rfl) (pe_lamF (n := ("law" : Str) ++ ".<locals>.") (T := tabsL T) (k := 10) nox_qual T.law_word (by rfl) sc_law_word4 (by rfl) (.inl (by rfl)) (fun cdv => word_givesX T rfl rfl) B_law rfl (tabsM_law T) (tabs_uniq T.dst (tabsM_law T)) (hr.mono (by decide)) (show LamX.LamS (defScope s_law) _ from LamX.lamS_by (by decide +kernel)) rfl (fun _ _ _ _ _ => rfl) (fun A outer s H E f c hr => (pe_meth (pe_meth0 (pv 5) T.k_Check.cl T.m_Check_copy.i (ok_Check_copy T) (hr.mono (by decide)) T.m_Check_copy.b .nil pass0) T.k_Check.cl T.m_Check_commits.i (ok_Check_commits T) (hr.mono (by decide)) T.m_Check_commits.b .nil (passes_call (takes_of rfl rfl rfl rfl) (fun _ _ _ _ h => h)) (pa_cons (pv 9) (pa_cons (pv 11) (pa_cons (pv 12) (pa_cons (pv 13) pa_nil))))))))
    (Evl.pss_cut (ps_if (PW.pt (pw_and (pt_cmpR (oNe (K := K) hr.units) (pv 14) (pv 3) (nomark _)) (pw_and1 (PW.pt (pw_or (pt_cmpR (oNe (K := K) hr.units) (pv 14) pe_str (nomark _)) (pw_or1 (pt_cmpR (oNe (K := K) hr.units) (pv 3) pe_str (nomark _)))))))) (pss_one (ps_ret pe_bl)) pss_nil)
    (Evl.pss_cut (ps_if (pt_cmpR (oNe (K := K) hr.units) (pe_lamF (n := ("law" : Str) ++ ".<locals>.") (T := tabsL T) (k := 10) nox_qual T.law_word (by rfl) sc_law_word4 (by rfl) (.inl (by rfl)) (fun cdv => word_givesX T rfl rfl) B_law rfl (tabsM_law T) (tabs_uniq T.dst (tabsM_law T)) (hr.mono (by decide)) (show LamX.LamS (defScope s_law) _ from LamX.lamS_by (by decide +kernel)) rfl (fun _ _ _ _ _ => rfl) (fun A outer s H E f c hr => (pe_meth (pv 5) T.k_Check.cl T.m_Check_would_commit.i (ok_Check_would_commit T) (hr.mono (by decide)) T.m_Check_would_commit.b .nil (passes_call (takes_of rfl rfl rfl rfl) (fun _ _ _ _ h => h)) (pa_cons (pv 9) (pa_cons (pv 11) (pa_cons (pv 12) (pa_cons (pv 13) pa_nil))))))) (pv 14) (nomark _)) (pss_one (ps_ret pe_bl)) pss_nil)
    (Evl.pss_cut (ps_if (pt_cmpR (oNe (K := K) hr.units) (pe_lamF (n := ("law" : Str) ++ ".<locals>.") (T := tabsL T) (k := 5) nox_qual T.law_word (by rfl) sc_law_word4 (by rfl) (.inl (by rfl)) (fun cdv => word_givesX T rfl rfl) B_law rfl (tabsM_law T) (tabs_uniq T.dst (tabsM_law T)) (hr.mono (by decide)) (show LamX.LamS (defScope s_law) _ from LamX.lamS_by (by decide +kernel)) rfl (fun _ _ _ _ _ => rfl) (fun A outer s H E f c hr => (pe_meth (pe_meth0 (pv 5) T.k_Check.cl T.m_Check_copy.i (ok_Check_copy T) (hr.mono (by decide)) T.m_Check_copy.b .nil pass0) T.k_Check.cl T.m_Check_gives_up.i (ok_Check_gives_up T) (hr.mono (by decide)) T.m_Check_gives_up.b .nil (passes_call (takes_of rfl rfl rfl rfl) (fun _ _ _ _ h => h)) (pa_cons (pv 9) pa_nil)))) (pe_ifExp (ptTruth (K := K) (pv 10) (by intro _; rfl)) pe_str pe_str) (nomark _)) (pss_one (ps_ret pe_bl)) pss_nil)
    (Evl.pss_cut (ps_set (i := 3) sc_law.nd rfl (Or.inl rfl) (pe_ifExp (ptTruth (K := K) (pe_call (ok_law_is_int T) (hr.mono (by decide)) (by rfl) T.law_is_int.g T.law_is_int.F.kp T.law_is_int.b .nil pass0 (pa_cons (pv 9) (pa_cons pe_int (pa_cons pe_int pa_nil)))) (by intro _; rfl)) pe_str pe_str))
    (pss_one (ps_if (pt_cmpR (oNe (K := K) hr.units) (pe_lamF (n := ("law" : Str) ++ ".<locals>.") (T := tabsL T) (k := 3) nox_qual T.law_word (by rfl) sc_law_word4 (by rfl) (.inl (by rfl)) (fun cdv => word_givesX T rfl rfl) B_law rfl (tabsM_law T) (tabs_uniq T.dst (tabsM_law T)) (hr.mono (by decide)) (show LamX.LamS (defScope s_law) _ from LamX.lamS_by (by decide +kernel)) rfl (fun _ _ _ _ _ => rfl) (fun A outer s H E f c hr => (pe_meth (pv 5) T.k_Check.cl T.m_Check_could_ring.i (ok_Check_could_ring T) (hr.mono (by decide)) T.m_Check_could_ring.b .nil (passes_call (takes_of rfl rfl rfl rfl) (fun _ _ _ _ h => h)) (pa_cons (pv 9) pa_nil)))) (pv 3) (nomark _)) (pss_one (ps_ret pe_bl)) pss_nil)))))))))))))))))
    (pss_one (ps_ret (pe_cmpR (oEq (K := K) hr.units) (pe_tup (pa_cons (pe_meth0 (pv 5) T.k_Check.cl T.m_Check_last.i (ok_Check_last T) (hr.mono (by decide)) T.m_Check_last.b .nil pass0) (pa_cons (pe_meth0 (pv 5) T.k_Check.cl T.m_Check_open_entries.i (ok_Check_open_entries T) (hr.mono (by decide)) T.m_Check_open_entries.b .nil pass0) (pa_cons (pe_meth0 (pv 5) T.k_Check.cl T.m_Check_remembered.i (ok_Check_remembered T) (hr.mono (by decide)) T.m_Check_remembered.b .nil pass0) pa_nil)))) (pv 6) (nomark _))))))))))))), ?_⟩
    walk_at "go"
    refine ⟨a, ns0, rfl, hS, hl, fun B H1 nB s1 b1 => ?_⟩
    have tb1 : LamX.Tabs (tabsL T) H1 := fun pp hpp => by
      rw [List.mem_singleton.mp hpp]
      exact LamX.TabS.nil (s1 _ _ hP)
    walk_at "go"
    refine ⟨B, .int 0, .int 0, rfl, b1, .int 0, rfl, by decide, fun v2 d2 H2 s2 q2 z2 l2 => ?_⟩
    have tb2 := tabs_hs b1 s2 tb1
    have b2 := s2.b
    clear tb1 b1 s1 hS hP z2
    walk_at "go"
    refine s_cut (fun σ9 H9 => σ9 = [some (.ref a), some (.ref B.hd), some v2, some (.str (if withinD d2 0 N40 = true then "let" else "number")), none, none, none, none, none, none, none, none, none, none, none] ∧ H9 = H2) ?_ ?_
    · walk_at "go"
      refine ⟨v2, NB B, d2, 0, N40, rfl, q2, ?_⟩
      cases eb : withinD d2 0 N40 with
      | true =>
        walk_at "go"
        exact ⟨rfl, rfl⟩
      | false =>
        walk_at "go"
        exact ⟨rfl, rfl⟩
    rintro σ9 H9 ⟨rfl, rfl⟩
    walk_at "go"
    refine s_cut (fun σ9 H9 => ∃ y3, σ9 = [some (.ref a), some (.ref B.hd), some v2, y3, none, none, none, none, none, none, none, none, none, none, none] ∧ BagAt K H9 B ∧ LamX.Tabs (tabsL T) H9) ?_ ?_
    · walk_at "go"
      refine e_lamW tb2 fun H6 x6 t6 => ?_
      have b6 := bag_xn b2 x6
      have q6 := q2.xn x6
      walk_at "go"
      refine e_make ?_
      walk_at "go"
      intro p dx np ndx ne
      show sp_check_init T [.ref p, v2] _ _ _
      have hob : InsAt T.C_Check (upd (upd H6 dx (.own p)) p (.ins T.C_Check dx [])) p [] := ⟨dx, upd_same⟩
      have s7 : Same H6 (upd (upd H6 dx (.own p)) p (.ins T.C_Check dx [])) := fun b o e => by
        rw [upd_ne (ne_of_none e np), upd_ne (ne_of_none e ndx)]; exact e
      generalize upd (upd H6 dx (.own p)) p (.ins T.C_Check dx []) = H7 at *
      refine ⟨p, v2, NB B, d2, rfl, hob, q6.same s7, fun e => w_err 0 rfl rfl fun H8 s8 => ?_, ?_⟩
      · have s78 := s7.trans s8
        have eb : withinD d2 0 N40 = false := by
          cases d2 with
          | int i =>
            have e : decide (0 ≤ i) = false := e
            show (decide (0 ≤ i) && _) = false
            rw [e]; rfl
          | _ => rfl
        rw [eb]
        walk_at "go"
        refine i_f (decide_eq_false (by simp)) ?_
        walk_at "go"
        exact ⟨_, rfl, bag_same b6 s78, t6.ext s78⟩
      · intro l el l0 H8 c e1 e2 e3 e4 e5 hC o1 nu nd nn
        refine ⟨rfl, ?_⟩
        subst el
        have eb : withinD (.int l) 0 N40 = true := by
          show (decide (0 ≤ l) && decide (l ≤ N40)) = true
          rw [decide_eq_true l0]
          exact l2
        have s68 : Same H6 H8 := fun b o z => o1 b o (ne_of_none z np) (s7 b o z)
        rw [eb]
        walk_at "go"
        refine i_f (decide_eq_false (by simp)) ?_
        walk_at "go"
        exact ⟨_, rfl, bag_same b6 s68, t6.ext s68⟩
    rintro σ9 H9 ⟨y3, rfl, b9, t9⟩
    clear tb2 b2 q2 s2
    walk_at "go"
    refine n_new (le_size (by simp)) fun p1 H1 n1 s1 h1 => ?_
    walk_at "go"
    refine ⟨B, 3, rfl, bag_same b9 s1, by omega, by omega, fun r HA r0 r1 sA => ?_⟩
    refine o_pick (ds := [.int 0, .int 5, .int 100000000000000000]) (bag_same b9 s1) h1 (new_ne b9 n1) (.cons (.int _) (.cons (.int _) (.cons (.int _) .nil))) (by decide +kernel) sA r0 r1 fun x dx hx _ _ _ => ?_
    obtain ⟨L, rfl, h0, hL⟩ : ∃ L, x = .int L ∧ 0 ≤ L ∧ L ≤ 1000000000000000000 := by
      simp only [List.mem_cons, List.not_mem_nil, or_false] at hx
      rcases hx with z | z | z
      · exact ⟨_, z, by decide, by decide⟩
      · exact ⟨_, z, by decide, by decide⟩
      · exact ⟨_, z, by decide, by decide⟩
    have tA := tabs_hs (bag_same b9 s1) sA (t9.ext s1)
    have bA := sA.b
    clear hx h1 n1 s1 sA b9 t9
    walk_at "go"
    refine ⟨_, L, rfl, h0, fun p c H2 s2 np hC mc => ?_⟩
    have tbs := tA.ext s2
    have b2 := bag_same bA s2
    clear tA bA s2
    walk_at "go"
    refine m_call0 hC.ob (cf_no _ _ _ _ _ (by decide +kernel)) ?_
    walk_at "go"
    refine ⟨p, _, _, _, _, _, rfl, hC.ob, ?_⟩
    walk_at "go"
    refine m_call0 hC.ob (cf_no _ _ _ _ _ (by decide +kernel)) ?_
    walk_at "go"
    refine ⟨p, c, rfl, hC, by rw [mc.u]; simp, fun t1 H3 ys s3 py sy ht1 => ?_⟩
    rw [mc.u] at py
    obtain rfl := sorted_03 py sy
    have hC3 := hC.same s3
    walk_at "go"
    refine m_call0 hC3.ob (cf_no _ _ _ _ _ (by decide +kernel)) ?_
    walk_at "go"
    obtain ⟨a1, ea1⟩ := mc.d
    refine ⟨p, c, rfl, hC3, by rw [ea1]; simp, fun t2 H4 ys s4 py2 sy2 ht2 => ?_⟩
    rw [ea1] at py2
    obtain rfl : ys = [1] := List.perm_singleton.mp py2
    walk_at "go"
    refine n_new (le_size (by simp)) fun sh H5 n5 s5 h5 => ?_
    have hSh : ShAt H5 sh L := ⟨t1, t2, by rw [mc.l] at h5; exact h5, (s4.trans s5) _ _ ht1, s5 _ _ ht2⟩
    have s25 := s3.trans (s4.trans s5)
    have l0 : Lw T H5 B p c L sh := ⟨tbs.ext s25, bag_same b2 s25, hC.same s25, mc, hSh, h0⟩
    clear hC hC3 ht1 ht2 h5 n5 s5 s4 s3 s25 hSh py sy py2 sy2
    walk_at "go"
    refine n_new (le_size (by simp)) fun u1 H6 n6 s6 h6 => ?_
    walk_at "go"
    refine n_new (le_size (by simp)) fun u2 H7 n7 s7 h7 => ?_
    walk_at "go"
    refine n_new (le_size (by simp)) fun u3 H8 n8 s8 h8 => ?_
    have l1 := l0.same (s6.trans (s7.trans s8))
    refine sh_ne l1.s ⟨u1, u2, h8, (s7.trans s8) _ _ h6, s8 _ _ h7⟩ ?_
    clear l0 h6 h7 h8 n6 n7 n8 s6 s7 s8
    walk_at "go"
    refine i_rng 6 rfl (by omega) (by omega) ?_
    refine l_rng (fun i σ3 H3 => ∃ (y3 y7 y8 y9 y10 y11 y12 y13 y14 : Option V), σ3 = [some (.ref a), some (.ref B.hd), some v2, y3, some (.int L), some (.ref p), some (.ref sh), y7, y8, y9, y10, y11, y12, y13, y14] ∧ Lw T H3 B p c L sh) ⟨_, _, _, _, _, _, _, _, _, rfl, l1⟩ (fun σ3 H3 z => ?_) (fun i σ3 H3 hi z => ?_)
    · clear l1
      obtain ⟨y3, y7, y8, y9, y10, y11, y12, y13, y14, rfl, l⟩ := z
      walk_at "go"
      refine m_call0 l.ck.ob (cf_no _ _ _ _ _ (by decide +kernel)) ?_
      walk_at "go"
      refine ⟨p, _, _, _, _, _, rfl, l.ck.ob, ?_⟩
      walk_at "go"
      refine m_call0 l.ck.ob (cf_no _ _ _ _ _ (by decide +kernel)) ?_
      walk_at "go"
      refine ⟨p, c, rfl, l.ck, by rw [mc.u]; simp, fun t1 H3 ys s3 py sy ht1 => ?_⟩
      rw [mc.u] at py
      obtain rfl := sorted_03 py sy
      have l3 := l.same s3
      walk_at "go"
      refine m_call0 l3.ck.ob (cf_no _ _ _ _ _ (by decide +kernel)) ?_
      walk_at "go"
      refine ⟨p, c, rfl, l3.ck, by rw [ea1]; simp, fun t2 H4 ys s4 py2 sy2 ht2 => ?_⟩
      rw [ea1] at py2
      obtain rfl : ys = [1] := List.perm_singleton.mp py2
      walk_at "go"
      refine n_new (le_size (by simp)) fun th H5 n5 s5 h5 => ?_
      walk_at "go"
      refine sh_eq (L := L) ⟨t1, t2, by rw [mc.l] at h5; exact h5, (s4.trans s5) _ _ ht1, s5 _ _ ht2⟩ (l3.same (s4.trans s5)).s ?_
      walk_at "go"
      exact k _
    clear l1
    obtain ⟨y3', y7, y8, y9, y10, y11, y12, y13, y14, rfl, l⟩ := z
    walk_at "go"
    refine ⟨B, .int L, .int L, rfl, l.bag, .int L, rfl, decide_eq_true (Int.le_trans hL (by decide)), fun v4 d4 H4 s4 q4 z4 _ => ?_⟩
    have l4 := l.hs s4
    walk_at "go"
    refine n_new (le_size (by simp)) fun p5 H5 n5 s5 h5 => ?_
    have l5 := l4.same s5
    walk_at "go"
    refine ⟨B, 8, rfl, l5.bag, by omega, by omega, fun r6 H6 r0 r1 s6 => ?_⟩
    refine o_pick l5.bag h5 (new_ne l4.bag n5) (.cons (.int L) (.cons (.int (L + 1)) (.cons (.int (L - 1)) (.cons (.int (L + 2)) (.cons (q4.same s5) (.cons (.bl true) (.cons .non (.cons (.str "0") .nil)))))))) (szAll_cons rfl (szAll_cons rfl (szAll_cons rfl (szAll_cons rfl (szAll_cons z4 (szAll_cons rfl (szAll_cons rfl (szAll_cons (by decide +kernel) rfl)))))))) s6 r0 r1 fun vs ds _ _ qs zs => ?_
    have l6 := l5.hs s6
    clear l l4 l5 h5 n5 s5 s6 s4 q4 z4 zs
    walk_at "go"
    refine s_cut (fun σ9 H9 => σ9 = [some (.ref a), some (.ref B.hd), some v2, some (.str (if withinD ds L (L + 1) = true then "let" else "snapshot")), some (.int L), some (.ref p), some (.ref sh), some (.int (i : Nat)), some vs, y9, y10, y11, y12, y13, y14] ∧ H9 = H6) ?_ ?_
    · walk_at "go"
      refine ⟨vs, NB B, ds, L, L + 1, rfl, qs, ?_⟩
      cases eb : withinD ds L (L + 1) with
      | true =>
        walk_at "go"
        exact ⟨rfl, rfl⟩
      | false =>
        walk_at "go"
        exact ⟨rfl, rfl⟩
    rintro σ9 H9 ⟨rfl, rfl⟩
    walk_at "go"
    refine s_cut (fun σ9 H9 => ∃ y3 y8, σ9 = [some (.ref a), some (.ref B.hd), some v2, y3, some (.int L), some (.ref p), some (.ref sh), some (.int (i : Nat)), y8, y9, y10, y11, y12, y13, y14] ∧ Lw T H9 B p c L sh) ?_ ?_
    · walk_at "go"
      refine e_lamW l6.tb fun H7 x7 t7 => ?_
      have l7 := l6.xn x7 t7
      have q7 := qs.xn x7
      walk_at "go"
      refine m_call0 l7.ck.ob (cf_no _ _ _ _ _ (by decide +kernel)) ?_
      walk_at "go"
      refine ⟨p, c, rfl, l7.ck, by rw [mc.l]; omega, by (obtain ⟨r1, e⟩ := mc.n; rw [e]; simp), by (obtain ⟨r1, e⟩ := mc.n; rw [e]; simp), fun q H8 c' s8 nq nu nd nn e1 e2 e3 e4 e5 h8 => ?_⟩
      have cp : Cpy c c' := ⟨e1, e3, e4⟩
      have mc' := mc.cpy cp e2 e5
      walk_at "go"
      refine m_call0 h8.ob (cf_no _ _ _ _ _ (by decide +kernel)) ?_
      walk_at "go"
      refine ⟨q, c', vs, NB B, ds, rfl, h8, q7.same s8, by rw [mc'.u]; simp, fun s => by rw [mc'.u, mc'.m]; simp, fun e H9 s9 => w_err 1 rfl rfl fun H10 s10 => ?_, fun s es st H9 b9 _ => ?_⟩
      · rw [mc'.op] at e
        rw [e]
        walk_at "go"
        refine i_f (decide_eq_false (by simp)) ?_
        walk_at "go"
        exact ⟨_, _, rfl, l7.same (s8.trans (s9.trans s10))⟩
      · have eb : withinD ds L (L + 1) = true := by
          rw [← mc'.op, es]; exact st
        rw [eb]
        walk_at "go"
        refine i_f (decide_eq_false (by simp)) ?_
        walk_at "go"
        refine ⟨_, _, rfl, l7.same (btx_same s8 (fun x hx => ?_) b9)⟩
        simp only [List.mem_cons, List.not_mem_nil, or_false] at hx
        rcases hx with z | z <;> rw [z] <;> assumption
    clear l6 qs
    rintro σ9 H9 ⟨y3, y8', rfl, l⟩
    walk_at "go"
    refine ⟨B, .int 0, .int 0, rfl, l.bag, .int 0, rfl, by decide, fun v4 d4 H4 s4 q4 z4 _ => ?_⟩
    have l4 := l.hs s4
    walk_at "go"
    refine n_new (le_size (by simp)) fun p5 H5 n5 s5 h5 => ?_
    have l5 := l4.same s5
    walk_at "go"
    refine ⟨B, 8, rfl, l5.bag, by omega, by omega, fun r6 H6 r0 r1 s6 => ?_⟩
    refine o_pick l5.bag h5 (new_ne l4.bag n5) (.cons (.int 0) (.cons (.int 3) (.cons (.int 1) (.cons (.int 2) (.cons (.int 4) (.cons (.bl true) (.cons (.bl false) (.cons (q4.same s5) .nil)))))))) (szAll_cons rfl (szAll_cons rfl (szAll_cons rfl (szAll_cons rfl (szAll_cons rfl (szAll_cons rfl (szAll_cons rfl (szAll_cons z4 rfl)))))))) s6 r0 r1 fun ve de _ _ qe ze => ?_
    have l6 := l5.hs s6
    clear l l4 l5 h5 n5 s5 s6 s4 q4 z4
    walk_at "go"
    refine s_cut (fun σ9 H9 => σ9 = [some (.ref a), some (.ref B.hd), some v2, y3, some (.int L), some (.ref p), some (.ref sh), some (.int (i : Nat)), y8', some ve, some (.bl (openB c de)), y11, y12, y13, y14] ∧ Lw T H9 B p c L sh ∧ Dq K (NB B) H9 ve de) ?_ ?_
    · walk_at "go"
      refine ⟨ve, NB B, de, 0, 3, rfl, qe, ?_⟩
      have eo := mc.open_ de
      cases eb : withinD de 0 3 with
      | false =>
        rw [eb, Bool.false_and] at eo
        rw [eo]
        walk_at "go"
        exact ⟨rfl, l6, qe⟩
      | true =>
        rw [eb, Bool.true_and] at eo
        obtain ⟨e, rfl⟩ : ∃ e, de = .int e := by
          cases de with
          | int e => exact ⟨e, rfl⟩
          | _ => cases eb
        have eo : openB c (.int e) = decide (e = 0 ∨ e = 3) := eo
        obtain rfl := dq_int qe
        walk_at "go"
        refine n_new (le_size (by simp)) fun p1 H1 n1 s1 h1 => ?_
        walk_at "go"
        refine o_inT (ns := [0, 3]) (stO h1) ?_
        rw [show decide (e ∈ ([0, 3] : List Int)) = decide (e = 0 ∨ e = 3) from by simp, ← eo]
        walk_at "go"
        exact ⟨rfl, l6.same s1, .int _⟩
    rintro σ9 H9 ⟨rfl, l, qe⟩
    clear l6
    walk_at "go"
    refine n_new (le_size (by simp)) fun p1 H1 n1 s1 h1 => ?_
    have l1 := l.same s1
    walk_at "go"
    refine ⟨B, .ref p1, .tuple [.str "c"], rfl, l1.bag, .tup (stO h1) (.cons (.str _) .nil), by decide +kernel, rfl, fun vk dk H2 s2 qk zk _ => ?_⟩
    have l2 := l1.hs s2
    have qe2 := (qe.same s1).hs l1.bag s2
    walk_at "go"
    refine n_new (le_size (by simp)) fun p3 H3 n3 s3 h3 => ?_
    have l3 := l2.same s3
    walk_at "go"
    refine ⟨B, .ref p3, .tuple [], rfl, l3.bag, .tup (stO h3) .nil, by decide +kernel, rfl, fun vr dr H4 s4 qr zr _ => ?_⟩
    have l4 := l3.hs s4
    have qe4 := (qe2.same s3).hs l3.bag s4
    have qk4 := (qk.same s3).hs l3.bag s4
    walk_at "go"
    refine n_new (le_size (by simp)) fun p5 H5 n5 s5 h5 => ?_
    walk_at "go"
    refine n_new (le_size (by simp)) fun p6 H6 n6 s6 h6 => ?_
    have s56 := s5.trans s6
    have l6 := l4.same s56
    walk_at "go"
    refine ⟨B, .ref p6, .tuple [.tuple [.str "d", .int 1]], rfl, l6.bag, .tup (stO h6) (.cons (.tup (stO (s6 _ _ h5)) (.cons (.str _) (.cons (.int _) .nil))) .nil), by decide +kernel, rfl, fun vw dw H7 s7 qw zw _ => ?_⟩
    have l7 := l6.hs s7
    have qe7 := (qe4.same s56).hs l6.bag s7
    have qk7 := (qk4.same s56).hs l6.bag s7
    have qr7 := (qr.same s56).hs l6.bag s7
    walk_at "go"
    refine n_new (le_size (by simp)) fun p8 H8 n8 s8 h8 => ?_
    have l8 := l7.same s8
    have qe := qe7.same s8
    have qk := qk7.same s8
    have qr := qr7.same s8
    have qw := qw.same s8
    refine g_tri (stO h8) ?_
    clear l l1 l2 l3 l4 l6 l7 qe2 qe4 qe7 qk4 qk7 qr7 h1 h3 h5 h6 h8 n1 n3 n5 n6 n8 s1 s2 s3 s4 s5 s6 s7 s8 s56
    have qs : Qs K B H8 ve vk vr vw de dk dr dw := ⟨qe, qk, qr, qw⟩
    clear qe qk qr qw
    walk_at "go"
    refine s_cut (fun σ9 H9 => σ9 = [some (.ref a), some (.ref B.hd), some v2, some (.str (if writesD dw = true then "let" else "writes")), some (.int L), some (.ref p), some (.ref sh), some (.int (i : Nat)), y8', some ve, some (.bl (openB c de)), some vk, some vr, some vw, y14] ∧ Lw T H9 B p c L sh ∧ Qs K B H9 ve vk vr vw de dk dr dw) ?_ ?_
    · walk_at "go"
      refine ⟨vw, NB B, dw, rfl, qs.w, zw, fun H9 s9 => ?_⟩
      have l9 := l8.same s9
      have q9 := qs.same s9
      cases eb : writesD dw with
      | true =>
        walk_at "go"
        exact ⟨rfl, l9, q9⟩
      | false =>
        walk_at "go"
        exact ⟨rfl, l9, q9⟩
    clear qs l8
    rintro σ9 H9 ⟨rfl, l, q⟩
    walk_at "go"
    refine s_cut (fun σ9 H9 => σ9 = [some (.ref a), some (.ref B.hd), some v2, some (.str (if seenOk dk dr = true then (if writesD dw = true then "let" else "writes") else "seen")), some (.int L), some (.ref p), some (.ref sh), some (.int (i : Nat)), y8', some ve, some (.bl (openB c de)), some vk, some vr, some vw, y14] ∧ Lw T H9 B p c L sh ∧ Qs K B H9 ve vk vr vw de dk dr dw) ?_ ?_
    · walk_at "go"
      refine ⟨vk, NB B, dk, rfl, q.k, zk, fun H10 s10 => ?_⟩
      have l10 := l.same s10
      have q10 := q.same s10
      unfold seenOk
      cases eb : keysD dk with
      | true =>
        walk_at "go"
        refine ⟨vr, NB B, dr, rfl, q10.r, zr, fun H11 s11 => ?_⟩
        have l11 := l10.same s11
        have q11 := q10.same s11
        cases eb2 : rangesD dr with
        | true =>
          walk_at "go"
          exact ⟨rfl, l11, q11⟩
        | false =>
          walk_at "go"
          exact ⟨rfl, l11, q11⟩
      | false =>
        walk_at "go"
        exact ⟨rfl, l10, q10⟩
    clear q l
    rintro σ9 H9 ⟨rfl, l, q⟩
    walk_at "go"
    refine s_cut (fun σ9 H9 => σ9 = [some (.ref a), some (.ref B.hd), some v2, some (.str (dueS c de dk dr dw)), some (.int L), some (.ref p), some (.ref sh), some (.int (i : Nat)), y8', some ve, some (.bl (openB c de)), some vk, some vr, some vw, y14] ∧ Lw T H9 B p c L sh ∧ Qs K B H9 ve vk vr vw de dk dr dw) ?_ ?_
    · unfold dueS
      walk_at "go"
      cases eb : openB c de with
      | true =>
        walk_at "go"
        exact ⟨rfl, l, q⟩
      | false =>
        walk_at "go"
        exact ⟨rfl, l, q⟩
    clear q l
    rintro σ9 H9 ⟨rfl, l, q⟩
    obtain ⟨wd, td, hd⟩ := told_ex c de dk dr dw
    walk_at "go"
    refine s_cut (fun σ9 H9 => σ9 = [some (.ref a), some (.ref B.hd), some v2, some (.str (dueS c de dk dr dw)), some (.int L), some (.ref p), some (.ref sh), some (.int (i : Nat)), y8', some ve, some (.bl (openB c de)), some vk, some vr, some vw, some (.str wd)] ∧ Lw T H9 B p c L sh ∧ Qs K B H9 ve vk vr vw de dk dr dw) ?_ ?_
    · walk_at "go"
      refine e_lamW l.tb fun H7 x7 t7 => ?_
      have l7 := l.xn x7 t7
      have q7 := q.xn x7
      walk_at "go"
      refine m_call0 l7.ck.ob (cf_no _ _ _ _ _ (by decide +kernel)) ?_
      walk_at "go"
      refine ⟨p, c, rfl, l7.ck, by rw [mc.l]; omega, by (obtain ⟨r1, e⟩ := mc.n; rw [e]; simp), by (obtain ⟨r1, e⟩ := mc.n; rw [e]; simp), fun q1 H8 c' s8 nq nu nd nn e1 e2 e3 e4 e5 h8 => ?_⟩
      have cp : Cpy c c' := ⟨e1, e3, e4⟩
      have mc' := mc.cpy cp e2 e5
      have td' := td.cpy cp
      have q8 := q7.same s8
      have l8 := l7.same s8
      walk_at "go"
      refine m_call0 h8.ob (cf_no _ _ _ _ _ (by decide +kernel)) ?_
      walk_at "go"
      refine ⟨q1, c', ve, vk, vr, vw, de, dk, dr, dw, rfl, h8, by rw [mc'.u]; simp, q8.args mc' h0 zk zr zw, ⟨fun e H9 s9 => w_err 2 rfl rfl fun H10 s10 => ?_, fun e f H9 s9 => w_err 3 rfl rfl fun H10 s10 => ?_, fun e f g H9 s9 => w_err 4 rfl rfl fun H10 s10 => ?_⟩, ⟨fun e gs rs ws a1 a2 b1 b2 b3 ok => ⟨mc'.small (a1 ▸ a2), fun hr v H9 S a d' n0 n' nx' b9 _ _ _ => ?_, fun hr H9 dd f s9 nd => w_errF 6 rfl rfl fun H10 s10 => ?_⟩⟩⟩
      · walk_at "go"
        exact ⟨(by rw [td'.o e]; rfl), l8.same (s9.trans s10), q8.same (s9.trans s10)⟩
      · walk_at "go"
        exact ⟨(by rw [td'.s e f]; rfl), l8.same (s9.trans s10), q8.same (s9.trans s10)⟩
      · walk_at "go"
        exact ⟨(by rw [td'.w e f g]; rfl), l8.same (s9.trans s10), q8.same (s9.trans s10)⟩
      · have sk := seen_ok b1 b2 b3 ok
        have b : Same H7 H9 := btx_same s8 (fun x hx => by
          simp only [List.mem_cons, List.not_mem_nil, or_false] at hx
          rcases hx with z | z | z <;> rw [z] <;> assumption) b9
        walk_at "go"
        exact ⟨(by rw [(td'.f e gs rs ws a1 a2 b1 b2 b3 sk.1 sk.2).1 hr]; rfl), l7.same b, q7.same b⟩
      · have sk := seen_ok b1 b2 b3 ok
        have b := s9.trans ((Same.new nd).trans s10)
        walk_at "go"
        exact ⟨(by rw [(td'.f e gs rs ws a1 a2 b1 b2 b3 sk.1 sk.2).2 hr]; rfl), l8.same b, q8.same b⟩
    clear q l
    rintro σ9 H9 ⟨rfl, l, q⟩
    walk_at "go"
    refine s_cut (fun σ9 H10 => σ9 = [some (.ref a), some (.ref B.hd), some v2, some (.str (dueS c de dk dr dw)), some (.int L), some (.ref p), some (.ref sh), some (.int (i : Nat)), y8', some ve, some (.bl (openB c de)), some vk, some vr, some vw, some (.str wd)] ∧ H10 = H9) ?_ ?_
    · walk_at "go"
      rcases hd with e | ⟨e, f⟩
      · subst e
        refine i_f (decide_eq_false (by simp)) ?_
        walk_at "go"
        exact ⟨rfl, rfl⟩
      · subst e
        rw [f]
        walk_at "go"
        refine i_t (decide_eq_true (by decide +kernel)) ?_
        walk_at "go"
        refine i_f (decide_eq_false (by simp)) ?_
        walk_at "go"
        refine i_f (decide_eq_false (by simp)) ?_
        walk_at "go"
        exact ⟨rfl, rfl⟩
    rintro σ9 H10 ⟨rfl, rfl⟩
    clear hd
    walk_at "go"
    refine s_cut (fun σ9 H10 => ∃ y3 y14, σ9 = [some (.ref a), some (.ref B.hd), some v2, y3, some (.int L), some (.ref p), some (.ref sh), some (.int (i : Nat)), y8', some ve, some (.bl (openB c de)), some vk, some vr, some vw, y14] ∧ Lw T H10 B p c L sh ∧ Dq K (NB B) H10 ve de) ?_ ?_
    · walk_at "go"
      refine e_lamW l.tb fun H7 x7 t7 => ?_
      have l7 := l.xn x7 t7
      have q7 := q.xn x7
      walk_at "go"
      refine m_call0 l7.ck.ob (cf_no _ _ _ _ _ (by decide +kernel)) ?_
      walk_at "go"
      refine ⟨p, c, ve, vk, vr, vw, de, dk, dr, dw, rfl, l7.ck, q7.args mc h0 zk zr zw, ⟨fun e H9 s9 => w_err 2 rfl rfl fun H10 s10 => ?_, fun e f H9 s9 => w_err 3 rfl rfl fun H10 s10 => ?_, fun e f g H9 s9 => w_err 4 rfl rfl fun H10 s10 => ?_⟩, ⟨fun e gs rs ws a1 a2 b1 b2 b3 ok => ⟨mc.small (a1 ▸ a2), fun hr v H9 s9 => ?_, fun hr H9 dd f s9 nd => w_errF 6 rfl rfl fun H10 s10 => ?_⟩⟩⟩
      · obtain rfl := td.o e
        walk_at "go"
        exact ⟨_, _, rfl, l7.same (s9.trans s10), q7.e.same (s9.trans s10)⟩
      · obtain rfl := td.s e f
        walk_at "go"
        exact ⟨_, _, rfl, l7.same (s9.trans s10), q7.e.same (s9.trans s10)⟩
      · obtain rfl := td.w e f g
        walk_at "go"
        exact ⟨_, _, rfl, l7.same (s9.trans s10), q7.e.same (s9.trans s10)⟩
      · have sk := seen_ok b1 b2 b3 ok
        obtain rfl := (td.f e gs rs ws a1 a2 b1 b2 b3 sk.1 sk.2).1 hr
        walk_at "go"
        exact ⟨_, _, rfl, l7.same s9, q7.e.same s9⟩
      · have sk := seen_ok b1 b2 b3 ok
        have b := s9.trans ((Same.new nd).trans s10)
        obtain rfl := (td.f e gs rs ws a1 a2 b1 b2 b3 sk.1 sk.2).2 hr
        walk_at "go"
        exact ⟨_, _, rfl, l7.same b, q7.e.same b⟩
    clear q l td
    rintro σ9 H10 ⟨y3, y14, rfl, l, q⟩
    walk_at "go"
    refine s_cut (fun σ9 H10 => ∃ y3 y14, σ9 = [some (.ref a), some (.ref B.hd), some v2, y3, some (.int L), some (.ref p), some (.ref sh), some (.int (i : Nat)), y8', some ve, some (.bl (openB c de)), some vk, some vr, some vw, y14] ∧ Lw T H10 B p c L sh ∧ Dq K (NB B) H10 ve de) ?_ ?_
    · walk_at "go"
      refine e_lamW l.tb fun H7 x7 t7 => ?_
      have l7 := l.xn x7 t7
      have q7 := q.xn x7
      walk_at "go"
      refine m_call0 l7.ck.ob (cf_no _ _ _ _ _ (by decide +kernel)) ?_
      walk_at "go"
      refine ⟨p, c, rfl, l7.ck, by rw [mc.l]; omega, by (obtain ⟨r1, e⟩ := mc.n; rw [e]; simp), by (obtain ⟨r1, e⟩ := mc.n; rw [e]; simp), fun q1 H8 c' s8 nq nu nd nn e1 e2 e3 e4 e5 h8 => ?_⟩
      have cp : Cpy c c' := ⟨e1, e3, e4⟩
      have mc' := mc.cpy cp e2 e5
      have eo : openB c' de = openB c de := by unfold openB; rw [cp.u]
      have q8 := q7.same s8
      have l8 := l7.same s8
      walk_at "go"
      refine m_call0 h8.ob (cf_no _ _ _ _ _ (by decide +kernel)) ?_
      walk_at "go"
      refine ⟨q1, c', ve, NB B, de, rfl, h8, mc'.shape, q8, fun e => w_err 2 rfl rfl fun H10 s10 => ?_, fun e es st S H9 d' n' _ b9 _ => ?_⟩
      · rw [eo] at e
        rw [e]
        walk_at "go"
        exact ⟨_, _, rfl, l8.same s10, q8.same s10⟩
      · rw [eo] at st
        have b : Same H7 H9 := btx_same s8 (fun x hx => by
          simp only [List.mem_cons, List.not_mem_nil, or_false] at hx
          rcases hx with z | z <;> rw [z] <;> assumption) b9
        rw [st]
        walk_at "go"
        exact ⟨_, _, rfl, l7.same b, q7.same b⟩
    clear q l
    rintro σ9 H10 ⟨y3, y14, rfl, l, q⟩
    walk_at "go"
    refine s_cut (fun σ9 H9 => σ9 = [some (.ref a), some (.ref B.hd), some v2, some (.str (if withinD de 1 1 = true then "let" else "known")), some (.int L), some (.ref p), some (.ref sh), some (.int (i : Nat)), y8', some ve, some (.bl (openB c de)), some vk, some vr, some vw, y14] ∧ H9 = H10) ?_ ?_
    · walk_at "go"
      refine ⟨ve, NB B, de, 1, 1, rfl, q, ?_⟩
      cases eb : withinD de 1 1 with
      | true =>
        walk_at "go"
        exact ⟨rfl, rfl⟩
      | false =>
        walk_at "go"
        exact ⟨rfl, rfl⟩
    rintro σ9 H9 ⟨rfl, rfl⟩
    walk_at "go"
    refine e_lamW l.tb fun H7 x7 t7 => ?_
    have l7 := l.xn x7 t7
    have q7 := q.xn x7
    obtain ⟨a2, r2, one⟩ := mc.one
    walk_at "go"
    refine m_call0 l7.ck.ob (cf_no _ _ _ _ _ (by decide +kernel)) ?_
    walk_at "go"
    refine ⟨p, c, ve, NB B, de, 1, a2, r2, DL1 L, L + 1, "b", rfl, l7.ck, one, q7, fun e H8 s8 => w_err 5 rfl rfl fun H10 s10 => ?_, fun e v H8 s8 => ?_⟩
    · rw [mc.rem] at e
      rw [e]
      walk_at "go"
      exact ⟨_, _, _, _, _, _, _, _, _, rfl, l7.same (s8.trans s10)⟩
    · rw [mc.rem] at e
      rw [e]
      walk_at "go"
      exact ⟨_, _, _, _, _, _, _, _, _, rfl, l7.same s8⟩
end


end Vw

set_option Elab.async false
namespace Vw
open PySem PySem.Spec PyProof.Rows L2 RT
theorem tabIn_of {K : PySem.W.Frag} {x : Str} {f c P : Addr} {oc oc2 : Value} {od od2 : Option Addr} {fd : FuncData} {sl sl2 : Array (Option Value)} {vs : Array Value} (a : PySem.W.nsIn K mainGlobals x = some (some (.ref f))) (l : K.lookup f = some ⟨oc, od, .func fd, sl⟩) (e : fd.code = .ref c) (lc : K.lookup c = some ⟨oc2, od2, .fields vs, sl2⟩) (p : vs[11]? = some (.ref P)) : PySem.W.tabIn K x = some (c, P) := by
  unfold PySem.W.tabIn
  simp only [a, l, e, lc, p]
def defAtL_mk2 {K : PySem.W.Frag} {mg : Str → Option Value} {h : Heap} {x qual : Str} {st : Stmt} {ps : List Str} {f c P : Addr} {od an od2 : Option Addr} {sl sl2 : Array (Option Value)} {oc kV dc pm ct oc2 : Value} {vs : Array Value} (X : K.In h) (G : h.Ns mainGlobals mg)
    (a : PySem.W.nsIn K mainGlobals x = some (some (.ref f))) (l : K.lookup f = some ⟨oc, od, .func (PySem.W.fnOf x qual (defArgs st) (defBody st) (defScope st) .none kV dc pm an (.ref c) ct), sl⟩) (cc : PySem.W.codeIn K (.ref c) qual = true) (k : PySem.W.keepIn K (.ref f) = true)
    (lc : K.lookup c = some ⟨oc2, od2, .fields vs, sl2⟩) (p : vs[11]? = some (.ref P)) (nP : K.lookup P = none)
    (b : ∀ (kV doc pm : Value) (an : Option Addr) (cdv ct : Value) (us : List Value), us.length = ps.length → bindArgs (PySem.W.fnOf x qual (defArgs st) (defBody st) (defScope st) .none kV doc pm an cdv ct) ⟨us, []⟩ = pure (ps.zip us)) : DefAtL K mg x qual st ps :=
  defAtL_mk X G a l cc k (tabIn_of a l rfl lc p) nP b
def gRef_mk {K : PySem.W.Frag} {mg : Str → Option Value} {h : Heap} {x : Str} {C : Addr} (X : K.In h) (G : h.Ns mainGlobals mg) (a : PySem.W.nsIn K mainGlobals x = some (some (.ref C))) : { N : Addr // mg x = some (.ref N) } := ⟨C, PySem.W.mg_of X G a⟩
theorem law_mkL {l : PySem.W.OpenLaw} {q : Program} {w : World} {K : PySem.W.Frag} {h : Heap} {mg : Str → Option Value} {fa : Addr} {e : DefRec} (X : K.In h) (G : h.Ns mainGlobals mg) (hfa : mg "law" = some (.ref fa))
    (tabs : ∀ (y : Str) (e : DefRec) (c P : Addr), (PyProof.Rows.recsOf q).find? (fun e => e.name == y) = some e → PySem.W.tabIn K y = some (c, P) → PySem.W.CodeHd h c P ∧ h.get? P = some { cls := .none, data := .fields #[] })
    (hrec : (PyProof.Rows.recsOf q).find? (fun e => e.name == ("law" : Str)) = some e) (T : Txt K mg) :
    LamX.LawAtS l w K CX0 13 63 "script" mg fa h := by
  have e : fa = T.law.f := by
    have := hfa.symm.trans T.law.g
    injection this with this
    injection this
  subst e
  obtain ⟨oc, od, kV, doc, pm, an, ct, osl, efd, _⟩ := T.law.ex
  obtain ⟨t1, t2⟩ := tabs _ _ _ _ hrec T.law.tb
  have one : ∀ {Z : Addr × Addr → Prop}, Z (T.law.c, T.law.P) → ∀ p ∈ [(T.law.c, T.law.P)], Z p := fun z p hp => by rw [List.mem_singleton.mp hp]; exact z
  exact ⟨T.law.fd, [(T.law.c, T.law.P)], sp_law K T.law.P, one t2, one T.law.nP, one t1, fun s v => by rw [efd]; exact .of_eq rfl,
    fun H a ns hl _ hH hS => ⟨a, ns, rfl, hS, hl, hH _ (.head _), fun _ => rfl⟩, fun base _ _ hB => ok_law T (hB _ (.head _))⟩
end Vw
open PySem PySem.W PyProof.Rows
set_option maxRecDepth 100000 in
set_option maxHeartbeats 0 in
theorem PySem.Challenge.cw_wholeways_k35_checks_refused_holds : PySem.Challenge.rw_wholeways_k35_checks_refused.Holds := by
  w_on; o_law; k_head; (case hw => w_witness2)
  k_fill
  refine Vw.walk_ofRecs (l := PySem.Challenge.rw_wholeways_k35_checks_refused) (n := 63) (k := 13) (x := "script") (CX := fun _ => L2.CX0) rfl (by decide) rfl ⟨rfl, by decide, by decide⟩ (fun w h Y => PySem.W.km_in_of Y) ?F (fun _ _ _ _ _ h => h)
  case F =>
    intro w mg fa h _ KX G hmg tabs
    refine' Vw.law_mkL KX G hmg tabs rfl (T := {
      is_integer := (Vw.defAt_mk KX G ?a0 ?l0 ?c0 ?k0 (fun _ _ _ _ _ _ us hl => match us, hl with | [_], _ => rfl)),
      is_within := (Vw.defAt_mk KX G ?a1 ?l1 ?c1 ?k1 (fun _ _ _ _ _ _ us hl => match us, hl with | [_, _, _], _ => rfl)),
      is_number := (Vw.defAt_mk KX G ?a2 ?l2 ?c2 ?k2 (fun _ _ _ _ _ _ us hl => match us, hl with | [_], _ => rfl)),
      is_word := (Vw.defAt_mk KX G ?a3 ?l3 ?c3 ?k3 (fun _ _ _ _ _ _ us hl => match us, hl with | [_], _ => rfl)),
      is_key := (Vw.defAt_mk KX G ?a4 ?l4 ?c4 ?k4 (fun _ _ _ _ _ _ us hl => match us, hl with | [_], _ => rfl)),
      is_worth := (Vw.defAt_mk KX G ?a5 ?l5 ?c5 ?k5 (fun _ _ _ _ _ _ us hl => match us, hl with | [_], _ => rfl)),
      is_mark := (Vw.defAt_mk KX G ?a6 ?l6 ?c6 ?k6 (fun _ _ _ _ _ _ us hl => match us, hl with | [_], _ => rfl)),
      is_ascending := (Vw.defAt_mk KX G ?a7 ?l7 ?c7 ?k7 (fun _ _ _ _ _ _ us hl => match us, hl with | [_], _ => rfl)),
      are_keys := (Vw.defAt_mk KX G ?a8 ?l8 ?c8 ?k8 (fun _ _ _ _ _ _ us hl => match us, hl with | [_], _ => rfl)),
      is_seen_range := (Vw.defAt_mk KX G ?a9 ?l9 ?c9 ?k9 (fun _ _ _ _ _ _ us hl => match us, hl with | [_], _ => rfl)),
      are_ranges := (Vw.defAt_mk KX G ?a10 ?l10 ?c10 ?k10 (fun _ _ _ _ _ _ us hl => match us, hl with | [_], _ => rfl)),
      is_write := (Vw.defAt_mk KX G ?a11 ?l11 ?c11 ?k11 (fun _ _ _ _ _ _ us hl => match us, hl with | [_], _ => rfl)),
      are_writes := (Vw.defAt_mk KX G ?a12 ?l12 ?c12 ?k12 (fun _ _ _ _ _ _ us hl => match us, hl with | [_], _ => rfl)),
      has_seen_key := (Vw.defAt_mk KX G ?a13 ?l13 ?c13 ?k13 (fun _ _ _ _ _ _ us hl => match us, hl with | [_, _], _ => rfl)),
      written_keys := (Vw.defAt_mk KX G ?a14 ?l14 ?c14 ?k14 (fun _ _ _ _ _ _ us hl => match us, hl with | [_], _ => rfl)),
      is_tied := (Vw.defAt_mk KX G ?a15 ?l15 ?c15 ?k15 (fun _ _ _ _ _ _ us hl => match us, hl with | [_, _], _ => rfl)),
      writes_one_of := (Vw.defAt_mk KX G ?a16 ?l16 ?c16 ?k16 (fun _ _ _ _ _ _ us hl => match us, hl with | [_, _], _ => rfl)),
      has_seen_one_of := (Vw.defAt_mk KX G ?a17 ?l17 ?c17 ?k17 (fun _ _ _ _ _ _ us hl => match us, hl with | [_, _], _ => rfl)),
      ring_from := (Vw.defAt_mk KX G ?a18 ?l18 ?c18 ?k18 (fun _ _ _ _ _ _ us hl => match us, hl with | [_, _], _ => rfl)),
      way_to := (Vw.defAt_mk KX G ?a19 ?l19 ?c19 ?k19 (fun _ _ _ _ _ _ us hl => match us, hl with | [_, _], _ => rfl)),
      can_be_number := (Vw.defAt_mk KX G ?a20 ?l20 ?c20 ?k20 (fun _ _ _ _ _ _ us hl => match us, hl with | [_, _, _], _ => rfl)),
      is_behind := (Vw.defAt_mk KX G ?a21 ?l21 ?c21 ?k21 (fun _ _ _ _ _ _ us hl => match us, hl with | [_, _], _ => rfl)),
      need_no_ring := (Vw.defAt_mk KX G ?a22 ?l22 ?c22 ?k22 (fun _ _ _ _ _ _ us hl => match us, hl with | [_, _], _ => rfl)),
      law_hand := (Vw.defAt_mk KX G ?a23 ?l23 ?c23 ?k23 (fun _ _ _ _ _ _ us hl => match us, hl with | [_], _ => rfl)),
      law_draw := (Vw.defAt_mk KX G ?a24 ?l24 ?c24 ?k24 (fun _ _ _ _ _ _ us hl => match us, hl with | [_, _], _ => rfl)),
      law_word := (Vw.defAt_mk KX G ?a25 ?l25 ?c25 ?k25 (fun _ _ _ _ _ _ us hl => match us, hl with | [_], _ => rfl)),
      law_is_int := (Vw.defAt_mk KX G ?a26 ?l26 ?c26 ?k26 (fun _ _ _ _ _ _ us hl => match us, hl with | [_, _, _], _ => rfl)),
      law_is_key := (Vw.defAt_mk KX G ?a27 ?l27 ?c27 ?k27 (fun _ _ _ _ _ _ us hl => match us, hl with | [_], _ => rfl)),
      law_are_keys := (Vw.defAt_mk KX G ?a28 ?l28 ?c28 ?k28 (fun _ _ _ _ _ _ us hl => match us, hl with | [_], _ => rfl)),
      law_are_ranges := (Vw.defAt_mk KX G ?a29 ?l29 ?c29 ?k29 (fun _ _ _ _ _ _ us hl => match us, hl with | [_], _ => rfl)),
      law_are_writes := (Vw.defAt_mk KX G ?a30 ?l30 ?c30 ?k30 (fun _ _ _ _ _ _ us hl => match us, hl with | [_], _ => rfl)),
      law_deep := (Vw.defAt_mk KX G ?a31 ?l31 ?c31 ?k31 (fun _ _ _ _ _ _ us hl => match us, hl with | [_], _ => rfl)),
      law_odd := (Vw.defAt_mk KX G ?a32 ?l32 ?c32 ?k32 (fun _ _ _ _ _ _ us hl => match us, hl with | [_, _], _ => rfl)),
      law_ready := (Vw.defAt_mk KX G ?a33 ?l33 ?c33 ?k33 (fun _ _ _ _ _ _ us hl => match us, hl with | [_, _], _ => rfl)),
      law := (Vw.defAtL_mk2 KX G ?a34 ?l34 ?c34 ?k34 ?lc34 ?p34 ?nP34 (fun _ _ _ _ _ _ us hl => match us, hl with | [_], _ => rfl)),
      z_ValueError := PySem.W.mg_none_of KX G ?z_ValueError,
      z_abs := PySem.W.mg_none_of KX G ?z_abs,
      z_all := PySem.W.mg_none_of KX G ?z_all,
      z_any := PySem.W.mg_none_of KX G ?z_any,
      z_bool := PySem.W.mg_none_of KX G ?z_bool,
      z_dict := PySem.W.mg_none_of KX G ?z_dict,
      z_int := PySem.W.mg_none_of KX G ?z_int,
      z_isinstance := PySem.W.mg_none_of KX G ?z_isinstance,
      z_len := PySem.W.mg_none_of KX G ?z_len,
      z_list := PySem.W.mg_none_of KX G ?z_list,
      z_min := PySem.W.mg_none_of KX G ?z_min,
      z_range := PySem.W.mg_none_of KX G ?z_range,
      z_reversed := PySem.W.mg_none_of KX G ?z_reversed,
      z_sorted := PySem.W.mg_none_of KX G ?z_sorted,
      z_str := PySem.W.mg_none_of KX G ?z_str,
      z_tuple := PySem.W.mg_none_of KX G ?z_tuple,
      z_zip := PySem.W.mg_none_of KX G ?z_zip,
      c_GREATEST_WORTH := Vw.cAt_mk KX G ?q_GREATEST_WORTH ?r_GREATEST_WORTH,
      c_LONGEST_WORD := Vw.cAt_mk KX G ?q_LONGEST_WORD ?r_LONGEST_WORD,
      C_Dealing := ?C_Dealing,
      k_Dealing := Vw.clsAt_mk KX G ?ka_Dealing ?kb_Dealing ?kc_Dealing ?kd_Dealing ?ke_Dealing ?kf_Dealing ?kg_Dealing,
      C_Check := ?C_Check,
      k_Check := Vw.clsAt_mk KX G ?ka_Check ?kb_Check ?kc_Check ?kd_Check ?ke_Check ?kf_Check ?kg_Check,
      m_Dealing_init := Vw.methAt_mk ?ma_Dealing_init ?mi_Dealing_init ?ml_Dealing_init ?mc_Dealing_init ?mk_Dealing_init (fun _ _ _ _ _ _ us hl => match us, hl with | [_, _, _, _, _, _], _ => rfl),
      m_Check_init := Vw.methAt_mk ?ma_Check_init ?mi_Check_init ?ml_Check_init ?mc_Check_init ?mk_Check_init (fun _ _ _ _ _ _ us hl => match us, hl with | [_, _], _ => rfl),
      m_Check_opens := Vw.methAt_mk ?ma_Check_opens ?mi_Check_opens ?ml_Check_opens ?mc_Check_opens ?mk_Check_opens (fun _ _ _ _ _ _ us hl => match us, hl with | [_, _], _ => rfl),
      m_Check__can_stand_at := Vw.methAt_mk ?ma_Check__can_stand_at ?mi_Check__can_stand_at ?ml_Check__can_stand_at ?mc_Check__can_stand_at ?mk_Check__can_stand_at (fun _ _ _ _ _ _ us hl => match us, hl with | [_, _], _ => rfl),
      m_Check_commits := Vw.methAt_mk ?ma_Check_commits ?mi_Check_commits ?ml_Check_commits ?mc_Check_commits ?mk_Check_commits (fun _ _ _ _ _ _ us hl => match us, hl with | [_, _, _, _, _], _ => rfl),
      m_Check_would_commit := Vw.methAt_mk ?ma_Check_would_commit ?mi_Check_would_commit ?ml_Check_would_commit ?mc_Check_would_commit ?mk_Check_would_commit (fun _ _ _ _ _ _ us hl => match us, hl with | [_, _, _, _, _], _ => rfl),
      m_Check__dealing_of := Vw.methAt_mk ?ma_Check__dealing_of ?mi_Check__dealing_of ?ml_Check__dealing_of ?mc_Check__dealing_of ?mk_Check__dealing_of (fun _ _ _ _ _ _ us hl => match us, hl with | [_, _, _, _, _], _ => rfl),
      m_Check__nexts_with := Vw.methAt_mk ?ma_Check__nexts_with ?mi_Check__nexts_with ?ml_Check__nexts_with ?mc_Check__nexts_with ?mk_Check__nexts_with (fun _ _ _ _ _ _ us hl => match us, hl with | [_, _, _], _ => rfl),
      m_Check_gives_up := Vw.methAt_mk ?ma_Check_gives_up ?mi_Check_gives_up ?ml_Check_gives_up ?mc_Check_gives_up ?mk_Check_gives_up (fun _ _ _ _ _ _ us hl => match us, hl with | [_, _], _ => rfl),
      m_Check__need_under_way := Vw.methAt_mk ?ma_Check__need_under_way ?mi_Check__need_under_way ?ml_Check__need_under_way ?mc_Check__need_under_way ?mk_Check__need_under_way (fun _ _ _ _ _ _ us hl => match us, hl with | [_, _], _ => rfl),
      m_Check_last := Vw.methAt_mk ?ma_Check_last ?mi_Check_last ?ml_Check_last ?mc_Check_last ?mk_Check_last (fun _ _ _ _ _ _ us hl => match us, hl with | [_], _ => rfl),
      m_Check_open_entries := Vw.methAt_mk ?ma_Check_open_entries ?mi_Check_open_entries ?ml_Check_open_entries ?mc_Check_open_entries ?mk_Check_open_entries (fun _ _ _ _ _ _ us hl => match us, hl with | [_], _ => rfl),
      m_Check_remembered := Vw.methAt_mk ?ma_Check_remembered ?mi_Check_remembered ?ml_Check_remembered ?mc_Check_remembered ?mk_Check_remembered (fun _ _ _ _ _ _ us hl => match us, hl with | [_], _ => rfl),
      m_Check_copy := Vw.methAt_mk ?ma_Check_copy ?mi_Check_copy ?ml_Check_copy ?mc_Check_copy ?mk_Check_copy (fun _ _ _ _ _ _ us hl => match us, hl with | [_], _ => rfl),
      m_Check__forget := Vw.methAt_mk ?ma_Check__forget ?mi_Check__forget ?ml_Check__forget ?mc_Check__forget ?mk_Check__forget (fun _ _ _ _ _ _ us hl => match us, hl with | [_], _ => rfl),
      m_Check__sources := Vw.methAt_mk ?ma_Check__sources ?mi_Check__sources ?ml_Check__sources ?mc_Check__sources ?mk_Check__sources (fun _ _ _ _ _ _ us hl => match us, hl with | [_], _ => rfl),
      m_Check__ways_from := Vw.methAt_mk ?ma_Check__ways_from ?mi_Check__ways_from ?ml_Check__ways_from ?mc_Check__ways_from ?mk_Check__ways_from (fun _ _ _ _ _ _ us hl => match us, hl with | [_, _], _ => rfl),
      m_Check_could_ring := Vw.methAt_mk ?ma_Check_could_ring ?mi_Check_could_ring ?ml_Check_could_ring ?mc_Check_could_ring ?mk_Check_could_ring (fun _ _ _ _ _ _ us hl => match us, hl with | [_, _], _ => rfl),
      m_Check__touched_key := Vw.methAt_mk ?ma_Check__touched_key ?mi_Check__touched_key ?ml_Check__touched_key ?mc_Check__touched_key ?mk_Check__touched_key (fun _ _ _ _ _ _ us hl => match us, hl with | [_, _], _ => rfl),
      n_Dealing_snapshot := Vw.noAttr_mk ?na_Dealing_snapshot,
      n_Dealing_number := Vw.noAttr_mk ?na_Dealing_number,
      n_Dealing_gets := Vw.noAttr_mk ?na_Dealing_gets,
      n_Dealing_ranges := Vw.noAttr_mk ?na_Dealing_ranges,
      n_Dealing_writes := Vw.noAttr_mk ?na_Dealing_writes,
      n_Check__last := Vw.noAttr_mk ?na_Check__last,
      n_Check__many := Vw.noAttr_mk ?na_Check__many,
      n_Check__under_way := Vw.noAttr_mk ?na_Check__under_way,
      n_Check__dealings := Vw.noAttr_mk ?na_Check__dealings,
      n_Check__nexts := Vw.noAttr_mk ?na_Check__nexts,
      m_StoreError_init := Vw.initAt_mk ?il ?ic ?ik (fun _ _ _ _ _ _ us hl => match us, hl with | [_], _ => rfl),
      vV := ?vV,
      e_NoNumber := Vw.excAt_mk KX G ?ea_NoNumber ?el_NoNumber ?eb_NoNumber ?es_NoNumber ?ex_NoNumber ?et_NoNumber ?ek_NoNumber ?ei_NoNumber ?ef_NoNumber ?eh_NoNumber ?ec_NoNumber ?ee_NoNumber,
      e_NoSnapshot := Vw.excAt_mk KX G ?ea_NoSnapshot ?el_NoSnapshot ?eb_NoSnapshot ?es_NoSnapshot ?ex_NoSnapshot ?et_NoSnapshot ?ek_NoSnapshot ?ei_NoSnapshot ?ef_NoSnapshot ?eh_NoSnapshot ?ec_NoSnapshot ?ee_NoSnapshot,
      e_NotOpen := Vw.excAt_mk KX G ?ea_NotOpen ?el_NotOpen ?eb_NotOpen ?es_NotOpen ?ex_NotOpen ?et_NotOpen ?ek_NotOpen ?ei_NotOpen ?ef_NotOpen ?eh_NotOpen ?ec_NotOpen ?ee_NotOpen,
      e_NotRemembered := Vw.excAt_mk KX G ?ea_NotRemembered ?el_NotRemembered ?eb_NotRemembered ?es_NotRemembered ?ex_NotRemembered ?et_NotRemembered ?ek_NotRemembered ?ei_NotRemembered ?ef_NotRemembered ?eh_NotRemembered ?ec_NotRemembered ?ee_NotRemembered,
      e_Refused := Vw.excAt_mk KX G ?ea_Refused ?el_Refused ?eb_Refused ?es_Refused ?ex_Refused ?et_Refused ?ek_Refused ?ei_Refused ?ef_Refused ?eh_Refused ?ec_Refused ?ee_Refused,
      e_BadDealing := Vw.excAt_mk KX G ?ea_BadDealing ?el_BadDealing ?eb_BadDealing ?es_BadDealing ?ex_BadDealing ?et_BadDealing ?ek_BadDealing ?ei_BadDealing ?ef_BadDealing ?eh_BadDealing ?ec_BadDealing ?ee_BadDealing,
      e_BadSeen := Vw.excAt_mk KX G ?ea_BadSeen ?el_BadSeen ?eb_BadSeen ?es_BadSeen ?ex_BadSeen ?et_BadSeen ?ek_BadSeen ?ei_BadSeen ?ef_BadSeen ?eh_BadSeen ?ec_BadSeen ?ee_BadSeen,
      e_BadWrites := Vw.excAt_mk KX G ?ea_BadWrites ?el_BadWrites ?eb_BadWrites ?es_BadWrites ?ex_BadWrites ?et_BadWrites ?ek_BadWrites ?ei_BadWrites ?ef_BadWrites ?eh_BadWrites ?ec_BadWrites ?ee_BadWrites,
      m_Refused_init := Vw.initAt_mk ?il_Refused ?ic_Refused ?ik_Refused (fun _ _ _ _ _ _ us hl => match us, hl with | [_, _], _ => rfl),
      a_Refused_ring := ?fa_Refused_ring,
      m_BadDealing_init := Vw.initAt_mk ?il_BadDealing ?ic_BadDealing ?ik_BadDealing (fun _ _ _ _ _ _ us hl => match us, hl with | [_, _], _ => rfl),
      N_StoreError := (Vw.gRef_mk KX G ?gn_StoreError).1,
      g_StoreError := (Vw.gRef_mk KX G ?gn_StoreError).2,
      x_NoNumber := ⟨?xa_NoNumber, ?xb_NoNumber, ?xc_NoNumber, ?xd_NoNumber, ?xe_NoNumber, ?xf_NoNumber, ?xg_NoNumber, ?xh_NoNumber⟩,
      kv_NoNumber := ?kv_NoNumber,
      xs_NoNumber := PySem.W.exm_ref ?m1_NoNumber ?m2_NoNumber ?m3_NoNumber ?m4_NoNumber,
      k_NoNumber_NoNumber := ?k_NoNumber_NoNumber,
      k_NoNumber_NoSnapshot := ?k_NoNumber_NoSnapshot,
      k_NoNumber_NotOpen := ?k_NoNumber_NotOpen,
      k_NoNumber_BadSeen := ?k_NoNumber_BadSeen,
      k_NoNumber_BadWrites := ?k_NoNumber_BadWrites,
      k_NoNumber_NotRemembered := ?k_NoNumber_NotRemembered,
      k_NoNumber_Refused := ?k_NoNumber_Refused,
      x_NoSnapshot := ⟨?xa_NoSnapshot, ?xb_NoSnapshot, ?xc_NoSnapshot, ?xd_NoSnapshot, ?xe_NoSnapshot, ?xf_NoSnapshot, ?xg_NoSnapshot, ?xh_NoSnapshot⟩,
      kv_NoSnapshot := ?kv_NoSnapshot,
      xs_NoSnapshot := PySem.W.exm_ref ?m1_NoSnapshot ?m2_NoSnapshot ?m3_NoSnapshot ?m4_NoSnapshot,
      k_NoSnapshot_NoNumber := ?k_NoSnapshot_NoNumber,
      k_NoSnapshot_NoSnapshot := ?k_NoSnapshot_NoSnapshot,
      k_NoSnapshot_NotOpen := ?k_NoSnapshot_NotOpen,
      k_NoSnapshot_BadSeen := ?k_NoSnapshot_BadSeen,
      k_NoSnapshot_BadWrites := ?k_NoSnapshot_BadWrites,
      k_NoSnapshot_NotRemembered := ?k_NoSnapshot_NotRemembered,
      k_NoSnapshot_Refused := ?k_NoSnapshot_Refused,
      x_NotOpen := ⟨?xa_NotOpen, ?xb_NotOpen, ?xc_NotOpen, ?xd_NotOpen, ?xe_NotOpen, ?xf_NotOpen, ?xg_NotOpen, ?xh_NotOpen⟩,
      kv_NotOpen := ?kv_NotOpen,
      xs_NotOpen := PySem.W.exm_ref ?m1_NotOpen ?m2_NotOpen ?m3_NotOpen ?m4_NotOpen,
      k_NotOpen_NoNumber := ?k_NotOpen_NoNumber,
      k_NotOpen_NoSnapshot := ?k_NotOpen_NoSnapshot,
      k_NotOpen_NotOpen := ?k_NotOpen_NotOpen,
      k_NotOpen_BadSeen := ?k_NotOpen_BadSeen,
      k_NotOpen_BadWrites := ?k_NotOpen_BadWrites,
      k_NotOpen_NotRemembered := ?k_NotOpen_NotRemembered,
      k_NotOpen_Refused := ?k_NotOpen_Refused,
      x_BadSeen := ⟨?xa_BadSeen, ?xb_BadSeen, ?xc_BadSeen, ?xd_BadSeen, ?xe_BadSeen, ?xf_BadSeen, ?xg_BadSeen, ?xh_BadSeen⟩,
      kv_BadSeen := ?kv_BadSeen,
      xs_BadSeen := PySem.W.exm_ref ?m1_BadSeen ?m2_BadSeen ?m3_BadSeen ?m4_BadSeen,
      k_BadSeen_NoNumber := ?k_BadSeen_NoNumber,
      k_BadSeen_NoSnapshot := ?k_BadSeen_NoSnapshot,
      k_BadSeen_NotOpen := ?k_BadSeen_NotOpen,
      k_BadSeen_BadSeen := ?k_BadSeen_BadSeen,
      k_BadSeen_BadWrites := ?k_BadSeen_BadWrites,
      k_BadSeen_NotRemembered := ?k_BadSeen_NotRemembered,
      k_BadSeen_Refused := ?k_BadSeen_Refused,
      x_BadWrites := ⟨?xa_BadWrites, ?xb_BadWrites, ?xc_BadWrites, ?xd_BadWrites, ?xe_BadWrites, ?xf_BadWrites, ?xg_BadWrites, ?xh_BadWrites⟩,
      kv_BadWrites := ?kv_BadWrites,
      xs_BadWrites := PySem.W.exm_ref ?m1_BadWrites ?m2_BadWrites ?m3_BadWrites ?m4_BadWrites,
      k_BadWrites_NoNumber := ?k_BadWrites_NoNumber,
      k_BadWrites_NoSnapshot := ?k_BadWrites_NoSnapshot,
      k_BadWrites_NotOpen := ?k_BadWrites_NotOpen,
      k_BadWrites_BadSeen := ?k_BadWrites_BadSeen,
      k_BadWrites_BadWrites := ?k_BadWrites_BadWrites,
      k_BadWrites_NotRemembered := ?k_BadWrites_NotRemembered,
      k_BadWrites_Refused := ?k_BadWrites_Refused,
      x_NotRemembered := ⟨?xa_NotRemembered, ?xb_NotRemembered, ?xc_NotRemembered, ?xd_NotRemembered, ?xe_NotRemembered, ?xf_NotRemembered, ?xg_NotRemembered, ?xh_NotRemembered⟩,
      kv_NotRemembered := ?kv_NotRemembered,
      xs_NotRemembered := PySem.W.exm_ref ?m1_NotRemembered ?m2_NotRemembered ?m3_NotRemembered ?m4_NotRemembered,
      k_NotRemembered_NoNumber := ?k_NotRemembered_NoNumber,
      k_NotRemembered_NoSnapshot := ?k_NotRemembered_NoSnapshot,
      k_NotRemembered_NotOpen := ?k_NotRemembered_NotOpen,
      k_NotRemembered_BadSeen := ?k_NotRemembered_BadSeen,
      k_NotRemembered_BadWrites := ?k_NotRemembered_BadWrites,
      k_NotRemembered_NotRemembered := ?k_NotRemembered_NotRemembered,
      k_NotRemembered_Refused := ?k_NotRemembered_Refused,
      x_Refused := ⟨?xa_Refused, ?xb_Refused, ?xc_Refused, ?xd_Refused, ?xe_Refused, ?xf_Refused, ?xg_Refused, ?xh_Refused⟩,
      kv_Refused := ?kv_Refused,
      xs_Refused := PySem.W.exm_ref ?m1_Refused ?m2_Refused ?m3_Refused ?m4_Refused,
      k_Refused_NoNumber := ?k_Refused_NoNumber,
      k_Refused_NoSnapshot := ?k_Refused_NoSnapshot,
      k_Refused_NotOpen := ?k_Refused_NotOpen,
      k_Refused_BadSeen := ?k_Refused_BadSeen,
      k_Refused_BadWrites := ?k_Refused_BadWrites,
      k_Refused_NotRemembered := ?k_Refused_NotRemembered,
      k_Refused_Refused := ?k_Refused_Refused,
      dst := ?dst })
    (case ka_Dealing => k_is); (case kb_Dealing => k_is); (case kc_Dealing => k_is); (case kd_Dealing => k_is); (case ke_Dealing => k_is); (case kf_Dealing => k_is); (case kg_Dealing => k_is)
    (case ka_Check => k_is); (case kb_Check => k_is); (case kc_Check => k_is); (case kd_Check => k_is); (case ke_Check => k_is); (case kf_Check => k_is); (case kg_Check => k_is)
    (case ma_Dealing_init => k_is); (case mi_Dealing_init => k_is); (case ml_Dealing_init => k_is); (case mc_Dealing_init => k_is); (case mk_Dealing_init => k_is)
    (case ma_Check_init => k_is); (case mi_Check_init => k_is); (case ml_Check_init => k_is); (case mc_Check_init => k_is); (case mk_Check_init => k_is)
    (case ma_Check_opens => k_is); (case mi_Check_opens => k_is); (case ml_Check_opens => k_is); (case mc_Check_opens => k_is); (case mk_Check_opens => k_is)
    (case ma_Check__can_stand_at => k_is); (case mi_Check__can_stand_at => k_is); (case ml_Check__can_stand_at => k_is); (case mc_Check__can_stand_at => k_is); (case mk_Check__can_stand_at => k_is)
    (case ma_Check_commits => k_is); (case mi_Check_commits => k_is); (case ml_Check_commits => k_is); (case mc_Check_commits => k_is); (case mk_Check_commits => k_is)
    (case ma_Check_would_commit => k_is); (case mi_Check_would_commit => k_is); (case ml_Check_would_commit => k_is); (case mc_Check_would_commit => k_is); (case mk_Check_would_commit => k_is)
    (case ma_Check__dealing_of => k_is); (case mi_Check__dealing_of => k_is); (case ml_Check__dealing_of => k_is); (case mc_Check__dealing_of => k_is); (case mk_Check__dealing_of => k_is)
    (case ma_Check__nexts_with => k_is); (case mi_Check__nexts_with => k_is); (case ml_Check__nexts_with => k_is); (case mc_Check__nexts_with => k_is); (case mk_Check__nexts_with => k_is)
    (case ma_Check_gives_up => k_is); (case mi_Check_gives_up => k_is); (case ml_Check_gives_up => k_is); (case mc_Check_gives_up => k_is); (case mk_Check_gives_up => k_is)
    (case ma_Check__need_under_way => k_is); (case mi_Check__need_under_way => k_is); (case ml_Check__need_under_way => k_is); (case mc_Check__need_under_way => k_is); (case mk_Check__need_under_way => k_is)
    (case ma_Check_last => k_is); (case mi_Check_last => k_is); (case ml_Check_last => k_is); (case mc_Check_last => k_is); (case mk_Check_last => k_is)
    (case ma_Check_open_entries => k_is); (case mi_Check_open_entries => k_is); (case ml_Check_open_entries => k_is); (case mc_Check_open_entries => k_is); (case mk_Check_open_entries => k_is)
    (case ma_Check_remembered => k_is); (case mi_Check_remembered => k_is); (case ml_Check_remembered => k_is); (case mc_Check_remembered => k_is); (case mk_Check_remembered => k_is)
    (case ma_Check_copy => k_is); (case mi_Check_copy => k_is); (case ml_Check_copy => k_is); (case mc_Check_copy => k_is); (case mk_Check_copy => k_is)
    (case ma_Check__forget => k_is); (case mi_Check__forget => k_is); (case ml_Check__forget => k_is); (case mc_Check__forget => k_is); (case mk_Check__forget => k_is)
    (case ma_Check__sources => k_is); (case mi_Check__sources => k_is); (case ml_Check__sources => k_is); (case mc_Check__sources => k_is); (case mk_Check__sources => k_is)
    (case ma_Check__ways_from => k_is); (case mi_Check__ways_from => k_is); (case ml_Check__ways_from => k_is); (case mc_Check__ways_from => k_is); (case mk_Check__ways_from => k_is)
    (case ma_Check_could_ring => k_is); (case mi_Check_could_ring => k_is); (case ml_Check_could_ring => k_is); (case mc_Check_could_ring => k_is); (case mk_Check_could_ring => k_is)
    (case ma_Check__touched_key => k_is); (case mi_Check__touched_key => k_is); (case ml_Check__touched_key => k_is); (case mc_Check__touched_key => k_is); (case mk_Check__touched_key => k_is)
    (case na_Dealing_snapshot => k_is)
    (case na_Dealing_number => k_is)
    (case na_Dealing_gets => k_is)
    (case na_Dealing_ranges => k_is)
    (case na_Dealing_writes => k_is)
    (case na_Check__last => k_is)
    (case na_Check__many => k_is)
    (case na_Check__under_way => k_is)
    (case na_Check__dealings => k_is)
    (case na_Check__nexts => k_is)
    (case ea_NoNumber => k_is); (case ei_NoNumber => k_is); (case eh_NoNumber => exact rfl)
    (case ea_NoSnapshot => k_is); (case ei_NoSnapshot => k_is); (case eh_NoSnapshot => exact rfl)
    (case ea_NotOpen => k_is); (case ei_NotOpen => k_is); (case eh_NotOpen => exact rfl)
    (case ea_NotRemembered => k_is); (case ei_NotRemembered => k_is); (case eh_NotRemembered => exact rfl)
    (case ea_Refused => k_is); (case ei_Refused => k_is); (case eh_Refused => exact rfl)
    (case ea_BadDealing => k_is); (case ei_BadDealing => k_is); (case eh_BadDealing => exact rfl)
    (case ea_BadSeen => k_is); (case ei_BadSeen => k_is); (case eh_BadSeen => exact rfl)
    (case ea_BadWrites => k_is); (case ei_BadWrites => k_is); (case eh_BadWrites => exact rfl)
    (case il => k_is); (case ic => k_is); (case ik => k_is); (case vV => k_is)
    (case il_Refused => k_is); (case ic_Refused => k_is); (case ik_Refused => k_is)
    (case il_BadDealing => k_is); (case ic_BadDealing => k_is); (case ik_BadDealing => k_is)
    (case el_NoNumber => k_is); (case eb_NoNumber => decide +kernel); (case es_NoNumber => k_is); (case ex_NoNumber => k_is); (case et_NoNumber => k_is); (case ek_NoNumber => k_is); (case ef_NoNumber => k_is); (case ec_NoNumber => k_is); (case ee_NoNumber => k_is)
    (case el_NoSnapshot => k_is); (case eb_NoSnapshot => decide +kernel); (case es_NoSnapshot => k_is); (case ex_NoSnapshot => k_is); (case et_NoSnapshot => k_is); (case ek_NoSnapshot => k_is); (case ef_NoSnapshot => k_is); (case ec_NoSnapshot => k_is); (case ee_NoSnapshot => k_is)
    (case el_NotOpen => k_is); (case eb_NotOpen => decide +kernel); (case es_NotOpen => k_is); (case ex_NotOpen => k_is); (case et_NotOpen => k_is); (case ek_NotOpen => k_is); (case ef_NotOpen => k_is); (case ec_NotOpen => k_is); (case ee_NotOpen => k_is)
    (case el_NotRemembered => k_is); (case eb_NotRemembered => decide +kernel); (case es_NotRemembered => k_is); (case ex_NotRemembered => k_is); (case et_NotRemembered => k_is); (case ek_NotRemembered => k_is); (case ef_NotRemembered => k_is); (case ec_NotRemembered => k_is); (case ee_NotRemembered => k_is)
    (case el_Refused => k_is); (case eb_Refused => decide +kernel); (case es_Refused => k_is); (case ex_Refused => k_is); (case et_Refused => k_is); (case ek_Refused => k_is); (case ef_Refused => k_is); (case ec_Refused => k_is); (case ee_Refused => k_is)
    (case el_BadDealing => k_is); (case eb_BadDealing => decide +kernel); (case es_BadDealing => k_is); (case ex_BadDealing => k_is); (case et_BadDealing => k_is); (case ek_BadDealing => k_is); (case ef_BadDealing => k_is); (case ec_BadDealing => k_is); (case ee_BadDealing => k_is)
    (case el_BadSeen => k_is); (case eb_BadSeen => decide +kernel); (case es_BadSeen => k_is); (case ex_BadSeen => k_is); (case et_BadSeen => k_is); (case ek_BadSeen => k_is); (case ef_BadSeen => k_is); (case ec_BadSeen => k_is); (case ee_BadSeen => k_is)
    (case el_BadWrites => k_is); (case eb_BadWrites => decide +kernel); (case es_BadWrites => k_is); (case ex_BadWrites => k_is); (case et_BadWrites => k_is); (case ek_BadWrites => k_is); (case ef_BadWrites => k_is); (case ec_BadWrites => k_is); (case ee_BadWrites => k_is)
    (case gn_StoreError => k_is)
    (case a0 => k_is); (case l0 => k_is); (case c0 => k_is); (case k0 => k_is)
    (case a1 => k_is); (case l1 => k_is); (case c1 => k_is); (case k1 => k_is)
    (case a2 => k_is); (case l2 => k_is); (case c2 => k_is); (case k2 => k_is)
    (case a3 => k_is); (case l3 => k_is); (case c3 => k_is); (case k3 => k_is)
    (case a4 => k_is); (case l4 => k_is); (case c4 => k_is); (case k4 => k_is)
    (case a5 => k_is); (case l5 => k_is); (case c5 => k_is); (case k5 => k_is)
    (case a6 => k_is); (case l6 => k_is); (case c6 => k_is); (case k6 => k_is)
    (case a7 => k_is); (case l7 => k_is); (case c7 => k_is); (case k7 => k_is)
    (case a8 => k_is); (case l8 => k_is); (case c8 => k_is); (case k8 => k_is)
    (case a9 => k_is); (case l9 => k_is); (case c9 => k_is); (case k9 => k_is)
    (case a10 => k_is); (case l10 => k_is); (case c10 => k_is); (case k10 => k_is)
    (case a11 => k_is); (case l11 => k_is); (case c11 => k_is); (case k11 => k_is)
    (case a12 => k_is); (case l12 => k_is); (case c12 => k_is); (case k12 => k_is)
    (case a13 => k_is); (case l13 => k_is); (case c13 => k_is); (case k13 => k_is)
    (case a14 => k_is); (case l14 => k_is); (case c14 => k_is); (case k14 => k_is)
    (case a15 => k_is); (case l15 => k_is); (case c15 => k_is); (case k15 => k_is)
    (case a16 => k_is); (case l16 => k_is); (case c16 => k_is); (case k16 => k_is)
    (case a17 => k_is); (case l17 => k_is); (case c17 => k_is); (case k17 => k_is)
    (case a18 => k_is); (case l18 => k_is); (case c18 => k_is); (case k18 => k_is)
    (case a19 => k_is); (case l19 => k_is); (case c19 => k_is); (case k19 => k_is)
    (case a20 => k_is); (case l20 => k_is); (case c20 => k_is); (case k20 => k_is)
    (case a21 => k_is); (case l21 => k_is); (case c21 => k_is); (case k21 => k_is)
    (case a22 => k_is); (case l22 => k_is); (case c22 => k_is); (case k22 => k_is)
    (case a23 => k_is); (case l23 => k_is); (case c23 => k_is); (case k23 => k_is)
    (case a24 => k_is); (case l24 => k_is); (case c24 => k_is); (case k24 => k_is)
    (case a25 => k_is); (case l25 => k_is); (case c25 => k_is); (case k25 => k_is)
    (case a26 => k_is); (case l26 => k_is); (case c26 => k_is); (case k26 => k_is)
    (case a27 => k_is); (case l27 => k_is); (case c27 => k_is); (case k27 => k_is)
    (case a28 => k_is); (case l28 => k_is); (case c28 => k_is); (case k28 => k_is)
    (case a29 => k_is); (case l29 => k_is); (case c29 => k_is); (case k29 => k_is)
    (case a30 => k_is); (case l30 => k_is); (case c30 => k_is); (case k30 => k_is)
    (case a31 => k_is); (case l31 => k_is); (case c31 => k_is); (case k31 => k_is)
    (case a32 => k_is); (case l32 => k_is); (case c32 => k_is); (case k32 => k_is)
    (case a33 => k_is); (case l33 => k_is); (case c33 => k_is); (case k33 => k_is)
    (case a34 => k_is); (case l34 => k_is); (case c34 => k_is); (case k34 => k_is); (case lc34 => k_is); (case p34 => exact rfl); (case nP34 => first | exact rfl | kernel_rfl | decide +kernel)
    (case z_ValueError => k_is)
    (case z_abs => k_is)
    (case z_all => k_is)
    (case z_any => k_is)
    (case z_bool => k_is)
    (case z_dict => k_is)
    (case z_int => k_is)
    (case z_isinstance => k_is)
    (case z_len => k_is)
    (case z_list => k_is)
    (case z_min => k_is)
    (case z_range => k_is)
    (case z_reversed => k_is)
    (case z_sorted => k_is)
    (case z_str => k_is)
    (case z_tuple => k_is)
    (case z_zip => k_is)
    (case q_GREATEST_WORTH => k_is); (case r_GREATEST_WORTH => exact ⟨_, rfl⟩)
    (case q_LONGEST_WORD => k_is); (case r_LONGEST_WORD => exact ⟨_, rfl⟩)
    (case xa_NoNumber => (try dsimp only [Vw.excAt_mk, Vw.gRef_mk]); k_is); (case xb_NoNumber => (try dsimp only [Vw.excAt_mk, Vw.gRef_mk]); k_is); (case xc_NoNumber => (try dsimp only [Vw.excAt_mk, Vw.gRef_mk]); k_is); (case xd_NoNumber => (try dsimp only [Vw.excAt_mk, Vw.gRef_mk]); k_is); (case xe_NoNumber => (try dsimp only [Vw.excAt_mk, Vw.gRef_mk]); k_is); (case xf_NoNumber => (try dsimp only [Vw.excAt_mk, Vw.gRef_mk]); k_is); (case xg_NoNumber => (try dsimp only [Vw.excAt_mk, Vw.gRef_mk]); k_is); (case xh_NoNumber => (try dsimp only [Vw.excAt_mk, Vw.gRef_mk]); k_is); (case kv_NoNumber => (try dsimp only [Vw.excAt_mk, Vw.gRef_mk]); kit_is); (case m1_NoNumber => (try dsimp only [Vw.excAt_mk, Vw.gRef_mk]); k_is); (case m2_NoNumber => (try dsimp only [Vw.excAt_mk, Vw.gRef_mk]); k_is); (case m3_NoNumber => (try dsimp only [Vw.excAt_mk, Vw.gRef_mk]); k_is); (case m4_NoNumber => (try dsimp only [Vw.excAt_mk, Vw.gRef_mk]); k_is)
    (case k_NoNumber_NoNumber => (try dsimp only [Vw.excAt_mk, Vw.gRef_mk]); kit_is)
    (case k_NoNumber_NoSnapshot => (try dsimp only [Vw.excAt_mk, Vw.gRef_mk]); kit_is)
    (case k_NoNumber_NotOpen => (try dsimp only [Vw.excAt_mk, Vw.gRef_mk]); kit_is)
    (case k_NoNumber_BadSeen => (try dsimp only [Vw.excAt_mk, Vw.gRef_mk]); kit_is)
    (case k_NoNumber_BadWrites => (try dsimp only [Vw.excAt_mk, Vw.gRef_mk]); kit_is)
    (case k_NoNumber_NotRemembered => (try dsimp only [Vw.excAt_mk, Vw.gRef_mk]); kit_is)
    (case k_NoNumber_Refused => (try dsimp only [Vw.excAt_mk, Vw.gRef_mk]); kit_is)
    (case xa_NoSnapshot => (try dsimp only [Vw.excAt_mk, Vw.gRef_mk]); k_is); (case xb_NoSnapshot => (try dsimp only [Vw.excAt_mk, Vw.gRef_mk]); k_is); (case xc_NoSnapshot => (try dsimp only [Vw.excAt_mk, Vw.gRef_mk]); k_is); (case xd_NoSnapshot => (try dsimp only [Vw.excAt_mk, Vw.gRef_mk]); k_is); (case xe_NoSnapshot => (try dsimp only [Vw.excAt_mk, Vw.gRef_mk]); k_is); (case xf_NoSnapshot => (try dsimp only [Vw.excAt_mk, Vw.gRef_mk]); k_is); (case xg_NoSnapshot => (try dsimp only [Vw.excAt_mk, Vw.gRef_mk]); k_is); (case xh_NoSnapshot => (try dsimp only [Vw.excAt_mk, Vw.gRef_mk]); k_is); (case kv_NoSnapshot => (try dsimp only [Vw.excAt_mk, Vw.gRef_mk]); kit_is); (case m1_NoSnapshot => (try dsimp only [Vw.excAt_mk, Vw.gRef_mk]); k_is); (case m2_NoSnapshot => (try dsimp only [Vw.excAt_mk, Vw.gRef_mk]); k_is); (case m3_NoSnapshot => (try dsimp only [Vw.excAt_mk, Vw.gRef_mk]); k_is); (case m4_NoSnapshot => (try dsimp only [Vw.excAt_mk, Vw.gRef_mk]); k_is)
    (case k_NoSnapshot_NoNumber => (try dsimp only [Vw.excAt_mk, Vw.gRef_mk]); kit_is)
    (case k_NoSnapshot_NoSnapshot => (try dsimp only [Vw.excAt_mk, Vw.gRef_mk]); kit_is)
    (case k_NoSnapshot_NotOpen => (try dsimp only [Vw.excAt_mk, Vw.gRef_mk]); kit_is)
    (case k_NoSnapshot_BadSeen => (try dsimp only [Vw.excAt_mk, Vw.gRef_mk]); kit_is)
    (case k_NoSnapshot_BadWrites => (try dsimp only [Vw.excAt_mk, Vw.gRef_mk]); kit_is)
    (case k_NoSnapshot_NotRemembered => (try dsimp only [Vw.excAt_mk, Vw.gRef_mk]); kit_is)
    (case k_NoSnapshot_Refused => (try dsimp only [Vw.excAt_mk, Vw.gRef_mk]); kit_is)
    (case xa_NotOpen => (try dsimp only [Vw.excAt_mk, Vw.gRef_mk]); k_is); (case xb_NotOpen => (try dsimp only [Vw.excAt_mk, Vw.gRef_mk]); k_is); (case xc_NotOpen => (try dsimp only [Vw.excAt_mk, Vw.gRef_mk]); k_is); (case xd_NotOpen => (try dsimp only [Vw.excAt_mk, Vw.gRef_mk]); k_is); (case xe_NotOpen => (try dsimp only [Vw.excAt_mk, Vw.gRef_mk]); k_is); (case xf_NotOpen => (try dsimp only [Vw.excAt_mk, Vw.gRef_mk]); k_is); (case xg_NotOpen => (try dsimp only [Vw.excAt_mk, Vw.gRef_mk]); k_is); (case xh_NotOpen => (try dsimp only [Vw.excAt_mk, Vw.gRef_mk]); k_is); (case kv_NotOpen => (try dsimp only [Vw.excAt_mk, Vw.gRef_mk]); kit_is); (case m1_NotOpen => (try dsimp only [Vw.excAt_mk, Vw.gRef_mk]); k_is); (case m2_NotOpen => (try dsimp only [Vw.excAt_mk, Vw.gRef_mk]); k_is); (case m3_NotOpen => (try dsimp only [Vw.excAt_mk, Vw.gRef_mk]); k_is); (case m4_NotOpen => (try dsimp only [Vw.excAt_mk, Vw.gRef_mk]); k_is)
    (case k_NotOpen_NoNumber => (try dsimp only [Vw.excAt_mk, Vw.gRef_mk]); kit_is)
    (case k_NotOpen_NoSnapshot => (try dsimp only [Vw.excAt_mk, Vw.gRef_mk]); kit_is)
    (case k_NotOpen_NotOpen => (try dsimp only [Vw.excAt_mk, Vw.gRef_mk]); kit_is)
    (case k_NotOpen_BadSeen => (try dsimp only [Vw.excAt_mk, Vw.gRef_mk]); kit_is)
    (case k_NotOpen_BadWrites => (try dsimp only [Vw.excAt_mk, Vw.gRef_mk]); kit_is)
    (case k_NotOpen_NotRemembered => (try dsimp only [Vw.excAt_mk, Vw.gRef_mk]); kit_is)
    (case k_NotOpen_Refused => (try dsimp only [Vw.excAt_mk, Vw.gRef_mk]); kit_is)
    (case xa_BadSeen => (try dsimp only [Vw.excAt_mk, Vw.gRef_mk]); k_is); (case xb_BadSeen => (try dsimp only [Vw.excAt_mk, Vw.gRef_mk]); k_is); (case xc_BadSeen => (try dsimp only [Vw.excAt_mk, Vw.gRef_mk]); k_is); (case xd_BadSeen => (try dsimp only [Vw.excAt_mk, Vw.gRef_mk]); k_is); (case xe_BadSeen => (try dsimp only [Vw.excAt_mk, Vw.gRef_mk]); k_is); (case xf_BadSeen => (try dsimp only [Vw.excAt_mk, Vw.gRef_mk]); k_is); (case xg_BadSeen => (try dsimp only [Vw.excAt_mk, Vw.gRef_mk]); k_is); (case xh_BadSeen => (try dsimp only [Vw.excAt_mk, Vw.gRef_mk]); k_is); (case kv_BadSeen => (try dsimp only [Vw.excAt_mk, Vw.gRef_mk]); kit_is); (case m1_BadSeen => (try dsimp only [Vw.excAt_mk, Vw.gRef_mk]); k_is); (case m2_BadSeen => (try dsimp only [Vw.excAt_mk, Vw.gRef_mk]); k_is); (case m3_BadSeen => (try dsimp only [Vw.excAt_mk, Vw.gRef_mk]); k_is); (case m4_BadSeen => (try dsimp only [Vw.excAt_mk, Vw.gRef_mk]); k_is)
    (case k_BadSeen_NoNumber => (try dsimp only [Vw.excAt_mk, Vw.gRef_mk]); kit_is)
    (case k_BadSeen_NoSnapshot => (try dsimp only [Vw.excAt_mk, Vw.gRef_mk]); kit_is)
    (case k_BadSeen_NotOpen => (try dsimp only [Vw.excAt_mk, Vw.gRef_mk]); kit_is)
    (case k_BadSeen_BadSeen => (try dsimp only [Vw.excAt_mk, Vw.gRef_mk]); kit_is)
    (case k_BadSeen_BadWrites => (try dsimp only [Vw.excAt_mk, Vw.gRef_mk]); kit_is)
    (case k_BadSeen_NotRemembered => (try dsimp only [Vw.excAt_mk, Vw.gRef_mk]); kit_is)
    (case k_BadSeen_Refused => (try dsimp only [Vw.excAt_mk, Vw.gRef_mk]); kit_is)
    (case xa_BadWrites => (try dsimp only [Vw.excAt_mk, Vw.gRef_mk]); k_is); (case xb_BadWrites => (try dsimp only [Vw.excAt_mk, Vw.gRef_mk]); k_is); (case xc_BadWrites => (try dsimp only [Vw.excAt_mk, Vw.gRef_mk]); k_is); (case xd_BadWrites => (try dsimp only [Vw.excAt_mk, Vw.gRef_mk]); k_is); (case xe_BadWrites => (try dsimp only [Vw.excAt_mk, Vw.gRef_mk]); k_is); (case xf_BadWrites => (try dsimp only [Vw.excAt_mk, Vw.gRef_mk]); k_is); (case xg_BadWrites => (try dsimp only [Vw.excAt_mk, Vw.gRef_mk]); k_is); (case xh_BadWrites => (try dsimp only [Vw.excAt_mk, Vw.gRef_mk]); k_is); (case kv_BadWrites => (try dsimp only [Vw.excAt_mk, Vw.gRef_mk]); kit_is); (case m1_BadWrites => (try dsimp only [Vw.excAt_mk, Vw.gRef_mk]); k_is); (case m2_BadWrites => (try dsimp only [Vw.excAt_mk, Vw.gRef_mk]); k_is); (case m3_BadWrites => (try dsimp only [Vw.excAt_mk, Vw.gRef_mk]); k_is); (case m4_BadWrites => (try dsimp only [Vw.excAt_mk, Vw.gRef_mk]); k_is)
    (case k_BadWrites_NoNumber => (try dsimp only [Vw.excAt_mk, Vw.gRef_mk]); kit_is)
    (case k_BadWrites_NoSnapshot => (try dsimp only [Vw.excAt_mk, Vw.gRef_mk]); kit_is)
    (case k_BadWrites_NotOpen => (try dsimp only [Vw.excAt_mk, Vw.gRef_mk]); kit_is)
    (case k_BadWrites_BadSeen => (try dsimp only [Vw.excAt_mk, Vw.gRef_mk]); kit_is)
    (case k_BadWrites_BadWrites => (try dsimp only [Vw.excAt_mk, Vw.gRef_mk]); kit_is)
    (case k_BadWrites_NotRemembered => (try dsimp only [Vw.excAt_mk, Vw.gRef_mk]); kit_is)
    (case k_BadWrites_Refused => (try dsimp only [Vw.excAt_mk, Vw.gRef_mk]); kit_is)
    (case xa_NotRemembered => (try dsimp only [Vw.excAt_mk, Vw.gRef_mk]); k_is); (case xb_NotRemembered => (try dsimp only [Vw.excAt_mk, Vw.gRef_mk]); k_is); (case xc_NotRemembered => (try dsimp only [Vw.excAt_mk, Vw.gRef_mk]); k_is); (case xd_NotRemembered => (try dsimp only [Vw.excAt_mk, Vw.gRef_mk]); k_is); (case xe_NotRemembered => (try dsimp only [Vw.excAt_mk, Vw.gRef_mk]); k_is); (case xf_NotRemembered => (try dsimp only [Vw.excAt_mk, Vw.gRef_mk]); k_is); (case xg_NotRemembered => (try dsimp only [Vw.excAt_mk, Vw.gRef_mk]); k_is); (case xh_NotRemembered => (try dsimp only [Vw.excAt_mk, Vw.gRef_mk]); k_is); (case kv_NotRemembered => (try dsimp only [Vw.excAt_mk, Vw.gRef_mk]); kit_is); (case m1_NotRemembered => (try dsimp only [Vw.excAt_mk, Vw.gRef_mk]); k_is); (case m2_NotRemembered => (try dsimp only [Vw.excAt_mk, Vw.gRef_mk]); k_is); (case m3_NotRemembered => (try dsimp only [Vw.excAt_mk, Vw.gRef_mk]); k_is); (case m4_NotRemembered => (try dsimp only [Vw.excAt_mk, Vw.gRef_mk]); k_is)
    (case k_NotRemembered_NoNumber => (try dsimp only [Vw.excAt_mk, Vw.gRef_mk]); kit_is)
    (case k_NotRemembered_NoSnapshot => (try dsimp only [Vw.excAt_mk, Vw.gRef_mk]); kit_is)
    (case k_NotRemembered_NotOpen => (try dsimp only [Vw.excAt_mk, Vw.gRef_mk]); kit_is)
    (case k_NotRemembered_BadSeen => (try dsimp only [Vw.excAt_mk, Vw.gRef_mk]); kit_is)
    (case k_NotRemembered_BadWrites => (try dsimp only [Vw.excAt_mk, Vw.gRef_mk]); kit_is)
    (case k_NotRemembered_NotRemembered => (try dsimp only [Vw.excAt_mk, Vw.gRef_mk]); kit_is)
    (case k_NotRemembered_Refused => (try dsimp only [Vw.excAt_mk, Vw.gRef_mk]); kit_is)
    (case xa_Refused => (try dsimp only [Vw.excAt_mk, Vw.gRef_mk]); k_is); (case xb_Refused => (try dsimp only [Vw.excAt_mk, Vw.gRef_mk]); k_is); (case xc_Refused => (try dsimp only [Vw.excAt_mk, Vw.gRef_mk]); k_is); (case xd_Refused => (try dsimp only [Vw.excAt_mk, Vw.gRef_mk]); k_is); (case xe_Refused => (try dsimp only [Vw.excAt_mk, Vw.gRef_mk]); k_is); (case xf_Refused => (try dsimp only [Vw.excAt_mk, Vw.gRef_mk]); k_is); (case xg_Refused => (try dsimp only [Vw.excAt_mk, Vw.gRef_mk]); k_is); (case xh_Refused => (try dsimp only [Vw.excAt_mk, Vw.gRef_mk]); k_is); (case kv_Refused => (try dsimp only [Vw.excAt_mk, Vw.gRef_mk]); kit_is); (case m1_Refused => (try dsimp only [Vw.excAt_mk, Vw.gRef_mk]); k_is); (case m2_Refused => (try dsimp only [Vw.excAt_mk, Vw.gRef_mk]); k_is); (case m3_Refused => (try dsimp only [Vw.excAt_mk, Vw.gRef_mk]); k_is); (case m4_Refused => (try dsimp only [Vw.excAt_mk, Vw.gRef_mk]); k_is)
    (case k_Refused_NoNumber => (try dsimp only [Vw.excAt_mk, Vw.gRef_mk]); kit_is)
    (case k_Refused_NoSnapshot => (try dsimp only [Vw.excAt_mk, Vw.gRef_mk]); kit_is)
    (case k_Refused_NotOpen => (try dsimp only [Vw.excAt_mk, Vw.gRef_mk]); kit_is)
    (case k_Refused_BadSeen => (try dsimp only [Vw.excAt_mk, Vw.gRef_mk]); kit_is)
    (case k_Refused_BadWrites => (try dsimp only [Vw.excAt_mk, Vw.gRef_mk]); kit_is)
    (case k_Refused_NotRemembered => (try dsimp only [Vw.excAt_mk, Vw.gRef_mk]); kit_is)
    (case k_Refused_Refused => (try dsimp only [Vw.excAt_mk, Vw.gRef_mk]); kit_is)
    (case dst => first | exact List.nodup_cons.mpr ⟨(fun h => nomatch h), List.nodup_nil⟩ | decide | exact of_decide_eq_true rfl | exact of_decide_eq_true (by kernel_rfl) | (dsimp only [Vw.defAtL_mk2, Vw.defAtL_mk]; decide) | (rw [Vw.mk2P, Vw.mk2P, Vw.mk2P, Vw.mk2P]; decide))
    (case fa_Refused_ring => (try dsimp only [Vw.excAt_mk, Vw.gRef_mk]); k_is)

import PyProof.Rows.All
import Wide.All
import OpenK.AllK
import Wide.FinOn
import HandS.ForMost
import HandS.IsInst
import HandS.SortInts
import HandS.DictComp
import HandS.Rev
import HandS.Strs
import HandS.SetFor
import HandS.Wide
import HandS.TupAny
import HandS.Evl
import KE.GoesEnum
import HandS.Walk
import HandS.Style
import HandS.Zip
import HandS.Zip0
import HandS.WordsDict
import HandS.Dict
import PySem.Challenge.RW_wholeways_k42_whole_lots_that_are_enough
set_option Elab.async false
set_option linter.all false
set_option maxRecDepth 100000
set_option maxHeartbeats 4000000
namespace Vw
open PySem PySem.Spec PyProof.Rows L2 RT

/-! ### operators of more than one kind -/
section
variable {X : Cx}
def rOr (r r' : R2) : R2 := fun x y H Q => r x y H Q ∨ r' x y H Q
theorem oOr {f : Value → Value → Sem Value} {r r' : R2} (a : OpR X f r) (b : OpR X f r') : OpR X f (rOr r r') := by
  intro pins s σ H x y v u Q I rx ry q
  cases q with
  | inl q => exact a pins s σ H x y v u Q I rx ry q
  | inr q => exact b pins s σ H x y v u Q I rx ry q
def cOr (r r' : List V → Hp → VK → Prop) : List V → Hp → VK → Prop := fun x H Q => r x H Q ∨ r' x H Q
theorem kOr {f : Value} {r r' : List V → Hp → VK → Prop} (a : CallR X f r) (b : CallR X f r') : CallR X f (cOr r r') := by
  intro pins s σ H xs us Q I rx q
  cases q with
  | inl q => exact a pins s σ H xs us Q I rx q
  | inr q => exact b pins s σ H xs us Q I rx q
abbrev rIAdd : R2 := rI0 fun i j => .int (i + j)
abbrev rSAdd' : R2 := fun x y H Q => ∃ i j, x = .str i ∧ y = .str j ∧ i.length + j.length ≤ sizeLine ∧ Q (.str (i ++ j)) H
theorem oAdd : OpR X (binaryOp .Add) (rOr rIAdd (rOr rCat rSAdd')) := oOr op_add (oOr op_cat op_add_str)
abbrev rIMul : R2 := rI CMul fun i j => .int (i * j)
theorem oMul : OpR X (binaryOp .Mult) (rOr rIMul rRep) := oOr op_mul op_rep
theorem oLt : OpR X (compareOp .Lt) (rI0 fun i j => .bl (decide (i < j))) := op_lt
variable {K : PySem.W.Frag}
theorem oEq (hu : X.A.units + 64 < cLine) (e : X.K = K := by rfl) : OpR X (compareOp .Eq) (rOr rEq (rEqD K)) := by cases e; exact oOr op_eq (op_eqD hu)
theorem oNe (hu : X.A.units + 64 < cLine) (e : X.K = K := by rfl) : OpR X (compareOp .NotEq) (rOr rNe (rNeD K)) := by cases e; exact oOr op_ne (op_neD hu)
theorem oIn (e : X.K = K := by rfl) : OpR X (compareOp .In) (rIn K false) := by cases e; exact op_in_seq
theorem oNotIn (e : X.K = K := by rfl) : OpR X (compareOp .NotIn) (rIn K true) := by cases e; exact op_notIn_seq
abbrev rIxLT (K : PySem.W.Frag) : R2 := fun x y H Q => rIxL K x y H Q ∨ rIxT K x y H Q
theorem ixLT (e : X.K = K := by rfl) : IxR X (rIxLT K) := by cases e; exact IxR.or ix_list ix_tup
def rLen' (K : PySem.W.Frag) : List V → Hp → VK → Prop := fun xs H Q => ∃ x n, xs = [x] ∧ LenV K x H n ∧ Q (.int n) H
theorem cLen (e : X.K = K := by rfl) : CallR X (.builtin "len") (rLen' K) := by cases e; exact call_len
theorem cIsi (e : X.K = K := by rfl) : CallR X (.builtin "isinstance") (rIsi K) := by cases e; exact call_isi
theorem cIsiT (e : X.K = K := by rfl) : CallR X (.builtin "isinstance") (rIsiT K) := by cases e; exact call_isiT
def rIsN0 : R2 := fun x y H Q => y = .non ∧ Q (.bl (decide (x = .non))) H
def rNoN0 : R2 := fun x y H Q => y = .non ∧ Q (.bl (!decide (x = .non))) H
theorem oIsN : OpR X (compareOp .Is) rIsN0 := op_isN
theorem oNotN : OpR X (compareOp .IsNot) rNoN0 := op_notN
theorem cAll (hc : X.calm = true) (e : X.K = K := by rfl) : CallR X (.builtin "all") (rAll K) := by cases e; exact cr_all hc
theorem cAny (hc : X.calm = true) (e : X.K = K := by rfl) : CallR X (.builtin "any") (rAny K) := by cases e; exact cr_any hc
theorem cSortI (e : X.K = K := by rfl) : CallR X (.builtin "sorted") (rSortedI K) := by cases e; exact cr_sortedI
def rListOf (K : PySem.W.Frag) : List V → Hp → VK → Prop := fun xs H Q => ∃ p ys, xs = [.ref p] ∧ (SqL K H p ys ∨ SqT K H p ys) ∧ ∀ l, H l = none → Q (.ref l) (upd H l (.lst ys))
theorem cListOf (e : X.K = K := by rfl) : CallR X (.type "list") (rListOf K) := by cases e; exact call_list_of
def rTupOf (K : PySem.W.Frag) : List V → Hp → VK → Prop := fun xs H Q => ∃ p ys, xs = [.ref p] ∧ ((SqL K H p ys ∧ ∀ l, H l = none → Q (.ref l) (upd H l (.tup ys))) ∨ (SqT K H p ys ∧ Q (.ref p) H))
theorem cTupOf (e : X.K = K := by rfl) : CallR X (.type "tuple") (rTupOf K) := by cases e; exact call_tuple_of
def rInt1 : List V → Hp → VK → Prop := fun xs H Q => (∃ i, xs = [.int i] ∧ Q (.int i) H) ∨ ∃ k, xs = [.bl k] ∧ Q (.int (if k then 1 else 0)) H
theorem cInt : CallR X (.type "int") rInt1 := call_int1
def rAbs : List V → Hp → VK → Prop := fun xs H Q => ∃ i, xs = [.int i] ∧ Q (.int (if i < 0 then -i else i)) H
theorem cAbs : CallR X (.builtin "abs") rAbs := call_abs
def rMin2 : List V → Hp → VK → Prop := fun xs H Q => ∃ i j, xs = [.int i, .int j] ∧ Q (.int (if j < i then j else i)) H
theorem cMin2 (hc : X.calm = true) : CallR X (.builtin "min") rMin2 := call_min2 hc
def rMax2 : List V → Hp → VK → Prop := fun xs H Q => ∃ i j, xs = [.int i, .int j] ∧ Q (.int (if j > i then j else i)) H
theorem cMax2 (hc : X.calm = true) : CallR X (.builtin "max") rMax2 := call_max2 hc
theorem slL (e : X.K = K := by rfl) : SlR X (rSlL K) := by cases e; exact sl_list
theorem piL {tg l : Expr} {tl : TE} (hl : PE X l tl) (e : X.K = K := by rfl) : PI X tg l (iList K tl) := by cases e; exact pi_list hl
theorem piT {tg l : Expr} {tl : TE} (hl : PE X l tl) (e : X.K = K := by rfl) : PI X tg l (iTup K tl) := by cases e; exact pi_tup hl
theorem piEnum {ex : Expr} {ta : TA} {p pos tpos : Pos} {elts : List Expr} {kk : Nat} (hg : Gl X "enumerate") (hm : X.mg "enumerate" = none) (ha : PA X [ex] ta) (e : X.K = K := by rfl) (hs : starEach [ex] X.env = [(false, eval ex X.env)] := by rfl) :
    PI X (.Tuple elts kk tpos) (.Call (.Name "enumerate" p) [ex] [] pos) (iEnum K ta) := by cases e; exact pi_enum hg hm ha hs
theorem piRev {tg ex : Expr} {te : TE} {p pos : Pos} (hg : Gl X "reversed") (hm : X.mg "reversed" = none) (he : PE X ex te) (e : X.K = K := by rfl) (hs : starEach [ex] X.env = (false, eval ex X.env) :: starEach [] X.env := by rfl) :
    PI X tg (.Call (.Name "reversed" p) [ex] [] pos) (iRevA K te) := by cases e; exact pi_revA hg hm he hs
theorem pgTup {es : List Expr} {k : Nat} {t : TGs} {n : Nat} {p : Pos} (h : PG X (.Tuple es k p) (gTup X.K n t)) (e : X.K = K := by rfl) : PG X (.Tuple es k p) (gTup K n t) := by cases e; exact h
theorem peApp {o ex : Expr} {to te : TE} {apos cpos : Pos} (h : PE X (.Call (.Attribute o "append" apos) [ex] [] cpos) (tBM X.K "list" rAppend to (tCons te tNil))) (e : X.K = K := by rfl) :
    PE X (.Call (.Attribute o "append" apos) [ex] [] cpos) (tBM K "list" rAppend to (tCons te tNil)) := by cases e; exact h
def tTruE (K : PySem.W.Frag) (ta : TE) : TT := fun σ H Q => ta σ H fun x H' => ∃ k, TruV K x H' k ∧ Q k H'
theorem ptTruth {a : Expr} {ta : TE} (ha : PE X a ta) (he : ∀ whole, isTrue a X.env whole = (do let v ← whole; standAt a.pos; holding [v] (truthy v))) (e : X.K = K := by rfl) : PT X a (tTruE K ta) := by cases e; exact pt_truth ha he
end

/-! ### heaps -/
theorem Same.new {H : Hp} {p : Addr} {o : HO} (h : H p = none) : Same H (upd H p o) := fun b x e => by
  rw [upd_ne (ne_of_none e h)]; exact e
theorem at_ {H H' : Hp} {a : Addr} {o : HO} (s : Same H H') (h : H a = some o) : H' a = some o := s a o h
theorem rd_ {H H' : Hp} {a : Addr} {o : HO} (s : Same H H') (h : Rd H a o) : Rd H' a o := by
  cases h with
  | inl h => exact .inl (s _ _ h)
  | inr h => exact .inr (h.elim fun u q => ⟨u, s _ _ q⟩)
section
variable {K : PySem.W.Frag} {H H' : Hp} {a p : Addr} {xs : List V} {o : HO}
theorem sl_ (s : Same H H') (h : SqL K H a xs) : SqL K H' a xs := h.elim (fun q => .inl (rd_ s q)) .inr
theorem st_ (s : Same H H') (h : SqT K H a xs) : SqT K H' a xs := h.elim (fun q => .inl (rd_ s q)) .inr
theorem slO (h : H a = some (.lst xs)) : SqL K H a xs := .inl (.inl h)
theorem stO (h : H a = some (.tup xs)) : SqT K H a xs := .inl (.inl h)
theorem ne_new (h : H a = some o) (n : H p = none) : a ≠ p := ne_of_none h n
theorem free_ (s : Same H H') (n : H' p = none) : H p = none := s.free n
end
theorem lt_size {n : Nat} (h : n < 100000) : n < sizeLine := Nat.lt_of_lt_of_le h (by decide)
theorem le_size {n : Nat} (h : n < 100000) : n ≤ sizeLine := Nat.le_of_lt (lt_size h)
/-- a new object, wherever -/
def NewQ (o : HO) (H : Hp) (Q : VK) : Prop := ∀ p, H p = none → Q (.ref p) (upd H p o)
/-- all but one object is as it was -/
def Oth (hd : Addr) (H H' : Hp) : Prop := ∀ b o, b ≠ hd → H b = some o → H' b = some o
theorem oth_sl {K : PySem.W.Frag} {hd a : Addr} {H H' : Hp} {xs : List V} (o : Oth hd H H') (n : a ≠ hd) (s : SqL K H a xs) : SqL K H' a xs := by
  rcases s with (s | ⟨u, s⟩) | s
  · exact .inl (.inl (o _ _ n s))
  · exact .inl (.inr ⟨u, o _ _ n s⟩)
  · exact .inr s
theorem oth_st {K : PySem.W.Frag} {hd a : Addr} {H H' : Hp} {xs ys : List V} (o : Oth hd H H') (n : H hd = some (.lst ys)) (s : SqT K H a xs) : SqT K H' a xs := by
  rcases s with (s | ⟨u, s⟩) | s
  · exact .inl (.inl (o _ _ (fun z => by rw [z, n] at s; cases s) s))
  · exact .inl (.inr ⟨u, o _ _ (fun z => by rw [z, n] at s; cases s) s⟩)
  · exact .inr s
theorem Oth.trans {hd : Addr} {H H1 H2 : Hp} (a : Oth hd H H1) (b : Oth hd H1 H2) : Oth hd H H2 := fun c o n h => b c o n (a c o n h)
theorem Same.oth {hd : Addr} {H H' : Hp} (s : Same H H') : Oth hd H H' := fun c o _ h => s c o h

/-! ### one step of a reading -/
section
variable {K : PySem.W.Frag} {σ : L2.St} {H : Hp} {Q : VK} {QB : Bool → Hp → Prop} {QA : List V → Hp → Prop} {D : Ends} {ta tb te : TE} {t u : TS} {c d : TT} {i : Nat} {v : V} {b : Bool}
theorem s_seq (h : t { D with nx := u D } σ H) : tSeq t u D σ H := h
theorem s_cut (M : L2.St → Hp → Prop) (h : t { D with nx := M } σ H) (k : ∀ σ' H', M σ' H' → u D σ' H') : Evl.tCut t u D σ H := ⟨M, h, k⟩
theorem s_next (h : D.nx σ H) : tNext D σ H := h
theorem s_brk (h : D.bk σ H) : tBreak D σ H := h
theorem s_cont (h : D.ct σ H) : tCont D σ H := h
theorem s_set (h : te σ H fun x H1 => D.nx (σ.set i (some x)) H1) : tAsg te (gName i) D σ H := h
theorem s_asg {g : TG} (h : te σ H fun x H1 => g x σ H1 D.nx) : tAsg te g D σ H := h
theorem s_ret (h : te σ H D.rt) : tRet te D σ H := h
theorem s_retN (h : D.rt .non H) : tRetN D σ H := h
theorem s_drop (h : te σ H fun _ H1 => D.nx σ H1) : tDrop te D σ H := h
theorem s_if (h : c σ H fun b H1 => if b = true then t D σ H1 else u D σ H1) : tIfS c t u D σ H := h
theorem s_aug {ti : TIp} {x : V} (e : σ[i]? = some (some x)) (h : te σ H fun y H1 => ti x y H1 fun z H2 => D.nx (σ.set i (some z)) H2) : tAug i te ti D σ H := ⟨x, e, h⟩
theorem s_ipI {f : Int → Int → Int} {a b : Int} (h : Q (.int (f a b)) H) : ipI f (.int a) (.int b) H Q := ⟨a, b, rfl, rfl, h⟩
theorem e_var (h : σ[i]? = some (some v)) (q : Q v H) : tVar i σ H Q := ⟨v, h, q⟩
theorem e_c (q : Q v H) : tC v σ H Q := q
theorem e_op {r : R2} (h : ta σ H fun x H1 => tb σ H1 fun y H2 => r x y H2 Q) : tOp r ta tb σ H Q := h
theorem e_un {r : V → Hp → VK → Prop} (h : ta σ H fun x H1 => r x H1 Q) : tUn r ta σ H Q := h
theorem e_neg {a : Int} (h : Q (.int (-a)) H) : rU (fun i => V.int (-i)) (.int a) H Q := ⟨a, rfl, h⟩
theorem e_test (h : te σ H fun x H1 => ∃ k, x = .bl k ∧ QB k H1) : tTest te σ H QB := h
theorem e_tB (h : te σ H fun x H1 => ∃ k, x = .bl k ∧ QB k H1) : tB te σ H QB := h
theorem e_bl (q : QB b H) : ∃ k, V.bl b = .bl k ∧ QB k H := ⟨b, rfl, q⟩
theorem e_and (h : c σ H fun b H1 => if b = true then d σ H1 QB else QB false H1) : tAnd c d σ H QB := h
theorem e_or (h : c σ H fun b H1 => if b = true then QB true H1 else d σ H1 QB) : tOr c d σ H QB := h
theorem e_not (h : c σ H fun b H1 => QB (!b) H1) : tNot c σ H QB := h
theorem e_andV (h : ta σ H fun x H1 => ∃ k, x = .bl k ∧ if k = true then tb σ H1 Q else Q (.bl false) H1) : tAndV ta tb σ H Q := h
theorem e_orV (h : ta σ H fun x H1 => ∃ k, x = .bl k ∧ if k = true then Q (.bl true) H1 else tb σ H1 Q) : tOrV ta tb σ H Q := h
theorem e_notV (h : ta σ H fun x H1 => ∃ k, x = .bl k ∧ Q (.bl (!k)) H1) : tNotV ta σ H Q := h
theorem e_kV {P : Bool → Prop} (q : P b) : ∃ k, V.bl b = .bl k ∧ P k := ⟨b, rfl, q⟩
theorem e_ife (h : c σ H fun b H1 => if b = true then ta σ H1 Q else tb σ H1 Q) : tIf c ta tb σ H Q := h
theorem e_nil (q : QA [] H) : tNil σ H QA := q
theorem e_cons {tr : TA} (h : ta σ H fun x H1 => tr σ H1 fun xs H2 => QA (x :: xs) H2) : tCons ta tr σ H QA := h
theorem e_cb {r : List V → Hp → VK → Prop} {tt : TA} (h : tt σ H fun vs H1 => r vs H1 Q) : tCB r tt σ H Q := h
theorem e_call {sp : Sp} {dvs : List V} {E : XK} {tt : TA} (h : tt σ H fun vs H1 => sp (vs ++ dvs) H1 Q E) : tCall sp dvs E tt σ H Q := h
theorem e_chain {r r' : R2} {tc : TE} (h : ta σ H fun x H1 => tb σ H1 fun y H2 => r x y H2 fun z H3 => ∃ k, z = .bl k ∧ if k = true then tc σ H3 fun w H4 => r' y w H4 Q else Q (.bl false) H3) : tChain r r' ta tb tc σ H Q := h
theorem o_l {r r' : R2} {x y : V} (h : r x y H Q) : rOr r r' x y H Q := .inl h
theorem o_r {r r' : R2} {x y : V} (h : r' x y H Q) : rOr r r' x y H Q := .inr h
theorem o_I0 {g : Int → Int → V} {a b : Int} (h : Q (g a b) H) : rI0 g (.int a) (.int b) H Q := ⟨a, b, rfl, rfl, h⟩
theorem o_addI {r' : R2} {a b : Int} (h : Q (.int (a + b)) H) : rOr rIAdd r' (.int a) (.int b) H Q := .inl ⟨a, b, rfl, rfl, h⟩
theorem o_mod {a b : Int} (hb : 0 < b) (h : Q (.int (a % b)) H) : rI (fun _ j => 0 < j) (fun i j => V.int (i % j)) (.int a) (.int b) H Q := ⟨a, b, rfl, rfl, hb, h⟩
theorem o_modL {a b : Int} (hb : 0 < b) (h : ∀ r, 0 ≤ r → r < b → Q (.int r) H) : rI (fun _ j => 0 < j) (fun i j => V.int (i % j)) (.int a) (.int b) H Q := o_mod hb (h _ (Int.emod_nonneg _ (by omega)) (Int.emod_lt_of_pos _ hb))
theorem o_mulR {r' : R2} {a b : Int} (hb : -(2 ^ 64) < b ∧ b < 2 ^ 64) (h : Q (.int (a * b)) H) : rOr rIMul r' (.int a) (.int b) H Q := .inl ⟨a, b, rfl, rfl, .inr hb, h⟩
theorem o_mulL {r' : R2} {a b : Int} (ha : -(2 ^ 64) < a ∧ a < 2 ^ 64) (h : Q (.int (a * b)) H) : rOr rIMul r' (.int a) (.int b) H Q := .inl ⟨a, b, rfl, rfl, .inl ha, h⟩
theorem o_divW {a b : Int} (n : Nat) (hb : 0 < b) (h1 : b < 2 ^ n) (h2 : 0 < n) (h3 : n ≤ 9000) (h : Q (.int (a / b)) H) : rI CDivW (fun i j => V.int (i / j)) (.int a) (.int b) H Q := ⟨a, b, rfl, rfl, wide_div (b := n) hb (by
  have e : ((2 ^ n : Nat) : Int) = (2 : Int) ^ n := by rw [Int.natCast_pow]; rfl
  have : (b.natAbs : Int) = b := by omega
  have h4 : ((b.natAbs : Nat) : Int) < ((2 ^ n : Nat) : Int) := by rw [this, e]; exact h1
  exact Int.ofNat_lt.mp h4) h2 h3, h⟩
theorem o_div {a b : Int} (hb : 0 < b) (h1 : b < 2 ^ 100) (h : Q (.int (a / b)) H) : rI CDivW (fun i j => V.int (i / j)) (.int a) (.int b) H Q := o_divW 100 hb h1 (by decide) (by decide) h
theorem o_pow {a b : Int} (n : Nat) (e : b = (n : Nat)) (h0 : n ≤ 1000000) (h1 : a.natAbs < 2 ^ 64) (h : Q (.int (a ^ n)) H) : rI CPow (fun i j => V.int (i ^ j.toNat)) (.int a) (.int b) H Q := ⟨a, b, rfl, rfl, ⟨by omega, by omega, h1⟩, by
  have e2 : b.toNat = n := by omega
  show Q (.int (a ^ b.toNat)) H
  rw [e2]; exact h⟩
theorem o_pow1 (h : Q (.int 10) H) : rI CPow (fun i j => V.int (i ^ j.toNat)) (.int 10) (.int 1) H Q := o_pow 1 rfl (by decide) (by decide) (by rw [(by decide : (10 : Int) ^ 1 = 10)]; exact h)
theorem o_pow2 (h : Q (.int 100) H) : rI CPow (fun i j => V.int (i ^ j.toNat)) (.int 10) (.int 2) H Q := o_pow 2 rfl (by decide) (by decide) (by rw [(by decide : (10 : Int) ^ 2 = 100)]; exact h)
theorem o_pow3 (h : Q (.int 1000) H) : rI CPow (fun i j => V.int (i ^ j.toNat)) (.int 10) (.int 3) H Q := o_pow 3 rfl (by decide) (by decide) (by rw [(by decide : (10 : Int) ^ 3 = 1000)]; exact h)
theorem o_pow4 (h : Q (.int 10000) H) : rI CPow (fun i j => V.int (i ^ j.toNat)) (.int 10) (.int 4) H Q := o_pow 4 rfl (by decide) (by decide) (by rw [(by decide : (10 : Int) ^ 4 = 10000)]; exact h)
theorem o_pow5 (h : Q (.int 100000) H) : rI CPow (fun i j => V.int (i ^ j.toNat)) (.int 10) (.int 5) H Q := o_pow 5 rfl (by decide) (by decide) (by rw [(by decide : (10 : Int) ^ 5 = 100000)]; exact h)
theorem o_pow6 (h : Q (.int 1000000) H) : rI CPow (fun i j => V.int (i ^ j.toNat)) (.int 10) (.int 6) H Q := o_pow 6 rfl (by decide) (by decide) (by rw [(by decide : (10 : Int) ^ 6 = 1000000)]; exact h)
theorem o_pow9 (h : Q (.int 1000000000) H) : rI CPow (fun i j => V.int (i ^ j.toNat)) (.int 10) (.int 9) H Q := o_pow 9 rfl (by decide) (by decide) (by rw [(by decide : (10 : Int) ^ 9 = 1000000000)]; exact h)
theorem o_pow10 (h : Q (.int 10000000000) H) : rI CPow (fun i j => V.int (i ^ j.toNat)) (.int 10) (.int 10) H Q := o_pow 10 rfl (by decide) (by decide) (by rw [(by decide : (10 : Int) ^ 10 = 10000000000)]; exact h)
theorem o_pow12 (h : Q (.int 1000000000000) H) : rI CPow (fun i j => V.int (i ^ j.toNat)) (.int 10) (.int 12) H Q := o_pow 12 rfl (by decide) (by decide) (by rw [(by decide : (10 : Int) ^ 12 = 1000000000000)]; exact h)
theorem o_pow15 (h : Q (.int 1000000000000000) H) : rI CPow (fun i j => V.int (i ^ j.toNat)) (.int 10) (.int 15) H Q := o_pow 15 rfl (by decide) (by decide) (by rw [(by decide : (10 : Int) ^ 15 = 1000000000000000)]; exact h)
theorem o_pow16 (h : Q (.int 10000000000000000) H) : rI CPow (fun i j => V.int (i ^ j.toNat)) (.int 10) (.int 16) H Q := o_pow 16 rfl (by decide) (by decide) (by rw [(by decide : (10 : Int) ^ 16 = 10000000000000000)]; exact h)
theorem o_pow17 (h : Q (.int 100000000000000000) H) : rI CPow (fun i j => V.int (i ^ j.toNat)) (.int 10) (.int 17) H Q := o_pow 17 rfl (by decide) (by decide) (by rw [(by decide : (10 : Int) ^ 17 = 100000000000000000)]; exact h)
theorem o_pow18 (h : Q (.int 1000000000000000000) H) : rI CPow (fun i j => V.int (i ^ j.toNat)) (.int 10) (.int 18) H Q := o_pow 18 rfl (by decide) (by decide) (by rw [(by decide : (10 : Int) ^ 18 = 1000000000000000000)]; exact h)
theorem o_pow19 (h : Q (.int 10000000000000000000) H) : rI CPow (fun i j => V.int (i ^ j.toNat)) (.int 10) (.int 19) H Q := o_pow 19 rfl (by decide) (by decide) (by rw [(by decide : (10 : Int) ^ 19 = 10000000000000000000)]; exact h)
theorem o_pow20 (h : Q (.int 100000000000000000000) H) : rI CPow (fun i j => V.int (i ^ j.toNat)) (.int 10) (.int 20) H Q := o_pow 20 rfl (by decide) (by decide) (by rw [(by decide : (10 : Int) ^ 20 = 100000000000000000000)]; exact h)
theorem o_pow30 (h : Q (.int 1000000000000000000000000000000) H) : rI CPow (fun i j => V.int (i ^ j.toNat)) (.int 10) (.int 30) H Q := o_pow 30 rfl (by decide) (by decide) (by rw [(by decide : (10 : Int) ^ 30 = 1000000000000000000000000000000)]; exact h)
theorem o_pow31 (h : Q (.int 10000000000000000000000000000000) H) : rI CPow (fun i j => V.int (i ^ j.toNat)) (.int 10) (.int 31) H Q := o_pow 31 rfl (by decide) (by decide) (by rw [(by decide : (10 : Int) ^ 31 = 10000000000000000000000000000000)]; exact h)
theorem set_ {p : Addr} {xs : List V} {k : Int} {j : Nat} {R : Hp → Prop} (h : H p = some (.lst xs)) (e : ixN xs.length k = some j) (q : ∀ H2, Oth p H H2 → H2 p = some (.lst (xs.set j v)) → R H2) : rSetL (.ref p) (.int k) v H R :=
  ⟨p, xs, k, j, rfl, rfl, h, e, q _ (fun b o n z => by rw [upd_ne n]; exact z) upd_same⟩
theorem g_sub {to ti : TE} {tset : TSet} {R : L2.St → Hp → Prop} (h : to σ H fun o H1 => ti σ H1 fun i H2 => tset o i v H2 fun H3 => R σ H3) : gSub to ti tset v σ H R := h
theorem o_eqS {r' : R2} {x y : V} (s : scal x y = true) (h : Q (.bl (decide (x = y))) H) : rOr rEq r' x y H Q := .inl ⟨s, h⟩
theorem o_eqI {r' : R2} {a b : Int} (h : Q (.bl (decide (a = b))) H) : rOr rEq r' (.int a) (.int b) H Q := .inl ⟨rfl, by
  have e : decide (V.int a = V.int b) = decide (a = b) := by
    by_cases q : a = b
    · rw [decide_eq_true q, q]; exact decide_eq_true rfl
    · rw [decide_eq_false q]; exact decide_eq_false fun z => q (V.int.inj z)
  rw [e]; exact h⟩
theorem o_neI {r' : R2} {a b : Int} (h : Q (.bl (decide (a ≠ b))) H) : rOr rNe r' (.int a) (.int b) H Q := .inl ⟨rfl, by
  have e : (!decide (V.int a = V.int b)) = decide (a ≠ b) := by
    by_cases q : a = b
    · rw [decide_eq_false (show ¬ a ≠ b from fun z => z q), q, decide_eq_true rfl] <;> rfl
    · rw [decide_eq_true (show a ≠ b from q), decide_eq_false fun z => q (V.int.inj z)] <;> rfl
  rw [e]; exact h⟩
theorem o_ixL {p : Addr} {xs : List V} {a : Int} (s : SqL K H p xs) (e : atI xs a = some v) (q : Q v H) : rIxLT K (.ref p) (.int a) H Q := .inl ⟨p, xs, a, v, rfl, rfl, s, e, q⟩
theorem o_ixT {p : Addr} {xs : List V} {a : Int} (s : SqT K H p xs) (e : atI xs a = some v) (q : Q v H) : rIxLT K (.ref p) (.int a) H Q := .inr ⟨p, xs, a, v, rfl, rfl, s, e, q⟩
theorem o_ixA {p : Addr} {xs : List V} {a : Int} (s : H p = some (.lst xs)) (e : atI xs a = some v) (q : Q v H) : rIxLT K (.ref p) (.int a) H Q := o_ixL (slO s) e q
theorem o_ixU {p : Addr} {xs : List V} {a : Int} (s : H p = some (.tup xs)) (e : atI xs a = some v) (q : Q v H) : rIxLT K (.ref p) (.int a) H Q := o_ixT (stO s) e q
theorem ixN_in {n : Nat} {z : Int} {j : Nat} (e : z = (j : Nat)) (h : j < n) : ixN n z = some j := by
  unfold ixN
  rw [if_pos (by omega), if_pos (by omega)]
  congr 1; omega
theorem atI_in {α : Type} {xs : List α} {z : Int} {j : Nat} {x : α} (e : z = (j : Nat)) (h : xs[j]? = some x) : atI xs z = some x := by
  have hj : j < xs.length := (List.getElem?_eq_some_iff.mp h).1
  unfold atI
  rw [ixN_in e hj]
  exact h
theorem e_lenL {p : Addr} {xs : List V} (s : SqL K H p xs) (q : Q (.int (xs.length : Nat)) H) : rLen' K [.ref p] H Q := ⟨_, xs.length, rfl, .inl ⟨xs, s, rfl⟩, q⟩
theorem e_lenM {α : Type} {f : α → V} {p : Addr} {xs : List α} (s : SqL K H p (xs.map f)) (q : Q (.int (xs.length : Nat)) H) : rLen' K [.ref p] H Q := e_lenL s (by rw [List.length_map]; exact q)
theorem e_lenN {α : Type} {f : α → V} {p : Addr} {xs : List α} (s : SqT K H p (xs.map f)) (q : Q (.int (xs.length : Nat)) H) : rLen' K [.ref p] H Q := ⟨_, xs.length, rfl, .inr ⟨_, s, by rw [List.length_map]⟩, q⟩
theorem e_lenT {p : Addr} {xs : List V} (s : SqT K H p xs) (q : Q (.int (xs.length : Nat)) H) : rLen' K [.ref p] H Q := ⟨_, xs.length, rfl, .inr ⟨xs, s, rfl⟩, q⟩
theorem i_t {A B : Prop} (hb : b = true) (q : A) : if b = true then A else B := by rw [if_pos hb]; exact q
theorem i_f {A B : Prop} (hb : b = false) (q : B) : if b = true then A else B := by rw [hb]; exact iteF q
theorem i_nt {A B : Prop} (q : B) : if (!true) = true then A else B := q
theorem i_nf {A B : Prop} (q : A) : if (!false) = true then A else B := q
theorem i_dt {p A B : Prop} [Decidable p] (hp : p) (q : A) : if decide p = true then A else B := i_t (decide_eq_true hp) q
theorem i_df {p A B : Prop} [Decidable p] (hp : ¬ p) (q : B) : if decide p = true then A else B := i_f (decide_eq_false hp) q
theorem i_ndt {p A B : Prop} [Decidable p] (hp : ¬ p) (q : A) : if (!decide p) = true then A else B := i_t (by rw [decide_eq_false hp]; rfl) q
theorem i_ndf {p A B : Prop} [Decidable p] (hp : p) (q : B) : if (!decide p) = true then A else B := i_f (by rw [decide_eq_true hp]; rfl) q
theorem i_d {p A B : Prop} [Decidable p] (h1 : p → A) (h2 : ¬ p → B) : if decide p = true then A else B := by
  by_cases hp : p
  · exact i_dt hp (h1 hp)
  · exact i_df hp (h2 hp)
/-- a new list, a new tuple -/
theorem e_lst {tt : TA} (h : tt σ H fun xs H1 => xs.length ≤ sizeLine ∧ NewQ (.lst xs) H1 Q) : tLst tt σ H Q := h
theorem e_tup {tt : TA} (h : tt σ H fun xs H1 => xs.length ≤ sizeLine ∧ NewQ (.tup xs) H1 Q) : tTup tt σ H Q := h
theorem n_new {n : Nat} {o : HO} (hl : n ≤ sizeLine) (h : ∀ p H2, H p = none → Same H H2 → H2 p = some o → Q (.ref p) H2) : n ≤ sizeLine ∧ NewQ o H Q := ⟨hl, fun p hp => h p _ hp (Same.new hp) upd_same⟩
theorem n_new0 {o : HO} (h : ∀ p H2, H p = none → Same H H2 → H2 p = some o → Q (.ref p) H2) : NewQ o H Q := fun p hp => h p _ hp (Same.new hp) upd_same
theorem c_listL {p : Addr} {xs : List V} (s : SqL K H p xs) (q : NewQ (.lst xs) H Q) : rListOf K [.ref p] H Q := ⟨p, xs, rfl, .inl s, q⟩
theorem c_listT {p : Addr} {xs : List V} (s : SqT K H p xs) (q : NewQ (.lst xs) H Q) : rListOf K [.ref p] H Q := ⟨p, xs, rfl, .inr s, q⟩
theorem c_tupL {p : Addr} {xs : List V} (s : SqL K H p xs) (q : NewQ (.tup xs) H Q) : rTupOf K [.ref p] H Q := ⟨p, xs, rfl, .inl ⟨s, q⟩⟩
theorem c_tupT {p : Addr} {xs : List V} (s : SqT K H p xs) (q : Q (.ref p) H) : rTupOf K [.ref p] H Q := ⟨p, xs, rfl, .inr ⟨s, q⟩⟩
theorem isi_ {x : V} {t n : String} {b : Bool} (ty : TyX K H x (.type t)) (e : kitB t n = some b) (q : Q (.bl b) H) : rIsi K [x, .ty n] H Q := ⟨x, .ty n, .type t, .type n, b, rfl, .ty n, ty, kit_ty e, q⟩
theorem isi_int {a : Int} {n : String} (b : Bool) (e : kitB "int" n = some b) (q : Q (.bl b) H) : rIsi K [.int a, .ty n] H Q := isi_ (.base (.int a)) e q
theorem isi_non {n : String} (b : Bool) (e : kitB "NoneType" n = some b) (q : Q (.bl b) H) : rIsi K [.non, .ty n] H Q := isi_ (.base .non) e q
theorem isi_str {z : Str} {n : String} (b : Bool) (e : kitB "str" n = some b) (q : Q (.bl b) H) : rIsi K [.str z, .ty n] H Q := isi_ (.base (.str z)) e q
theorem isi_bl {z : Bool} {n : String} (b : Bool) (e : kitB "bool" n = some b) (q : Q (.bl b) H) : rIsi K [.bl z, .ty n] H Q := isi_ (.base (.bl z)) e q
theorem isi_tup {a : Addr} {xs : List V} {n : String} (b : Bool) (h : H a = some (.tup xs)) (e : kitB "tuple" n = some b) (q : Q (.bl b) H) : rIsi K [.ref a, .ty n] H Q := isi_ (.base (.tup h)) e q
theorem isi_lst {a : Addr} {xs : List V} {n : String} (b : Bool) (h : H a = some (.lst xs)) (e : kitB "list" n = some b) (q : Q (.bl b) H) : rIsi K [.ref a, .ty n] H Q := isi_ (.base (.lst h)) e q
theorem t_bl {PB : Bool → Prop} (q : PB b) : ∃ k, TruV K (.bl b) H k ∧ PB k := ⟨b, rfl, q⟩
theorem t_non {PB : Bool → Prop} (q : PB false) : ∃ k, TruV K .non H k ∧ PB k := ⟨false, rfl, q⟩
theorem t_int {PB : Bool → Prop} {a : Int} (q : PB (decide (a ≠ 0))) : ∃ k, TruV K (.int a) H k ∧ PB k := ⟨_, rfl, by
  have e : (a != 0) = decide (a ≠ 0) := by
    by_cases h : a = 0
    · subst h; rfl
    · rw [decide_eq_true h]; simpa using h
  rw [e]; exact q⟩
theorem t_lst {PB : Bool → Prop} {p : Addr} {xs : List V} (s : SqL K H p xs) (q : PB (!xs.isEmpty)) : ∃ k, TruV K (.ref p) H k ∧ PB k := ⟨_, .inl ⟨xs, s, rfl⟩, q⟩
theorem t_tup {PB : Bool → Prop} {p : Addr} {xs : List V} (s : SqT K H p xs) (q : PB (!xs.isEmpty)) : ∃ k, TruV K (.ref p) H k ∧ PB k := ⟨_, .inr (.inl ⟨xs, s, rfl⟩), q⟩
theorem isN_non (q : Q (.bl true) H) : rIsN0 .non .non H Q := ⟨rfl, q⟩
theorem isN_int {a : Int} (q : Q (.bl false) H) : rIsN0 (.int a) .non H Q := ⟨rfl, q⟩
theorem isN_ref {a : Addr} (q : Q (.bl false) H) : rIsN0 (.ref a) .non H Q := ⟨rfl, q⟩
theorem isN_str {a : Str} (q : Q (.bl false) H) : rIsN0 (.str a) .non H Q := ⟨rfl, q⟩
theorem isN_bl {a : Bool} (q : Q (.bl false) H) : rIsN0 (.bl a) .non H Q := ⟨rfl, q⟩
theorem noN_non (q : Q (.bl false) H) : rNoN0 .non .non H Q := ⟨rfl, q⟩
theorem noN_int {a : Int} (q : Q (.bl true) H) : rNoN0 (.int a) .non H Q := ⟨rfl, q⟩
theorem noN_ref {a : Addr} (q : Q (.bl true) H) : rNoN0 (.ref a) .non H Q := ⟨rfl, q⟩
theorem noN_str {a : Str} (q : Q (.bl true) H) : rNoN0 (.str a) .non H Q := ⟨rfl, q⟩
theorem noN_bl {a : Bool} (q : Q (.bl true) H) : rNoN0 (.bl a) .non H Q := ⟨rfl, q⟩
theorem tyx_st {a : Addr} {xs : List V} (s : SqT K H a xs) : TyX K H (.ref a) (.type "tuple") := by
  rcases s with (s | ⟨o, s⟩) | ⟨o, its, n, hk, hc, _⟩
  · exact .base (.tup s)
  · exact .fTuple s
  · exact .kTuple hk hc
theorem tyx_sl {a : Addr} {xs : List V} (s : SqL K H a xs) : TyX K H (.ref a) (.type "list") := by
  rcases s with (s | ⟨o, s⟩) | ⟨o, its, n, hk, hc, _⟩
  · exact .base (.lst s)
  · exact .base (.frz s)
  · exact .kList hk hc
theorem isi_t {a : Addr} {xs : List V} {n : String} (b : Bool) (s : SqT K H a xs) (e : kitB "tuple" n = some b) (q : Q (.bl b) H) : rIsi K [.ref a, .ty n] H Q := isi_ (tyx_st s) e q
theorem isi_l {a : Addr} {xs : List V} {n : String} (b : Bool) (s : SqL K H a xs) (e : kitB "list" n = some b) (q : Q (.bl b) H) : rIsi K [.ref a, .ty n] H Q := isi_ (tyx_sl s) e q
theorem e_allB {p : Addr} {bs : List Bool} (s : H p = some (.lst (bs.map V.bl))) (q : Q (.bl (bs.all id)) H) : rAll K [.ref p] H Q := ⟨p, bs, rfl, slO s, q⟩
theorem c_int {a : Int} (q : Q (.int a) H) : rInt1 [V.int a] H Q := .inl ⟨a, rfl, q⟩
theorem c_abs {a : Int} (q : Q (.int (if a < 0 then -a else a)) H) : rAbs [V.int a] H Q := ⟨a, rfl, q⟩
theorem c_min2 {a b : Int} (q : Q (.int (if b < a then b else a)) H) : rMin2 [V.int a, V.int b] H Q := ⟨a, b, rfl, q⟩
theorem c_max2 {a b : Int} (q : Q (.int (if b > a then b else a)) H) : rMax2 [V.int a, V.int b] H Q := ⟨a, b, rfl, q⟩
theorem e_tru (h : te σ H fun x H1 => ∃ k, TruV K x H1 k ∧ QB k H1) : tTruE K te σ H QB := h
theorem e_app {to : TE} (h : to σ H fun x H1 => ∃ l xs, x = .ref l ∧ SqL K H1 l xs ∧ te σ H1 fun y H2 => ∃ ys, H2 l = some (.lst ys) ∧ ys.length < sizeLine ∧ Q .non (upd H2 l (.lst (ys ++ [y])))) (mono : ∀ (H : Hp) (R R' : V → Hp → Prop), (∀ x H1, R x H1 → R' x H1) → to σ H R → to σ H R') (mono2 : ∀ (H : Hp) (R R' : V → Hp → Prop), (∀ x H1, R x H1 → R' x H1) → te σ H R → te σ H R') :
    tBM K "list" rAppend to (tCons te tNil) σ H Q := by
  refine mono H _ _ (fun x H1 q => ?_) h
  obtain ⟨l, xs, rfl, s, q⟩ := q
  refine ⟨.inl ⟨rfl, xs, s⟩, ?_⟩
  exact mono2 H1 _ _ (fun y H2 ⟨ys, h1, h2, h3⟩ => ⟨l, ys, y, rfl, rfl, h1, h2, h3⟩) q
end
/-- a def of the text as it stands, a constant of the text -/
structure DefAt (K : PySem.W.Frag) (mg : Str → Option Value) (x qual : Str) (st : Stmt) (ps : List Str) where
  f : Addr
  fd : FuncData
  F : Fun K x qual st f fd
  b : Binds K fd ps []
  g : mg x = some (.ref f)
structure CAt (mg : Str → Option Value) (x : Str) (v : V) where
  u : Value
  h : mg x = some u
  r : RelV v u
def defAt_mk {K : PySem.W.Frag} {mg : Str → Option Value} {h : Heap} {x qual : Str} {st : Stmt} {ps : List Str} {f : Addr} {od an : Option Addr} {sl : Array (Option Value)} {oc kV dc pm cd ct : Value} (X : K.In h) (G : h.Ns mainGlobals mg)
    (a : PySem.W.nsIn K mainGlobals x = some (some (.ref f))) (l : K.lookup f = some ⟨oc, od, .func (PySem.W.fnOf x qual (defArgs st) (defBody st) (defScope st) .none kV dc pm an cd ct), sl⟩) (c : PySem.W.codeIn K cd qual = true) (k : PySem.W.keepIn K (.ref f) = true)
    (b : ∀ (kV doc pm : Value) (an : Option Addr) (cdv ct : Value) (us : List Value), us.length = ps.length → bindArgs (PySem.W.fnOf x qual (defArgs st) (defBody st) (defScope st) .none kV doc pm an cdv ct) ⟨us, []⟩ = pure (ps.zip us)) : DefAt K mg x qual st ps :=
  ⟨f, _, fun_mk l c k, (fun_mk (st := st) l c k).binds b, PySem.W.mg_of X G a⟩
def cAt_mk {K : PySem.W.Frag} {mg : Str → Option Value} {h : Heap} {x : Str} {u : Value} {v : V} (X : K.In h) (G : h.Ns mainGlobals mg) (a : PySem.W.nsIn K mainGlobals x = some (some u)) (r : RelV v u) : CAt mg x v := ⟨u, PySem.W.mg_of X G a, r⟩
end Vw

set_option Elab.async false
set_option linter.all false
set_option maxRecDepth 100000
set_option maxHeartbeats 4000000
namespace Vw
open PySem PySem.Spec PyProof.Rows L2
/-! ### enumerate of a tuple -/
abbrev ti0 (t : Addr) : Obj := { cls := .type "tuple_iterator", data := .fields #[.ref t, .int 0 0] }
abbrev en0 (i : Addr) : Obj := { cls := .type "enumerate", data := .fields #[.none, .bool false, .ref i, rawInt 0, .none, .none] }
theorem new_enumT (t : Addr) (items : Array Value) :
    Meets (Builtin.«enumerate.__new__» ⟨[.type "enumerate", .ref t], []⟩) (fun _ R s => s.heap.IsTuple t items ∧
      R (.ok (.ret (.ref (s.heap.push (ti0 t)).objs.size))) { s with heap := (s.heap.push (ti0 t)).push (en0 s.heap.objs.size) }) :=
  .of_wp fun prog w A R s h => by
    obtain ⟨hp, g, d, tk, os⟩ := s
    obtain ⟨hL, h⟩ := h
    have hsub := sub_enumerate
    have hL2 := hL
    obtain ⟨⟨oc, od, odt, osl⟩, hl, hc, n, hd⟩ := hL2
    simp only at hc hd
    subst hc hd
    have hL : Heap.IsTuple (Shared.heap ⟨hp, g, d, tk, os⟩) t items := hL
    wp_walk using wpAny_loadPart' hl
    refine wpAny_stack_any fun st => wpAny_pure ?_
    split
    · rename_i c _ _ _ _ _
      cases (c == Value.type "enumerate")
      · wp_walk using wpAny_loadPart' hl, wpAny_pyIter_tuple hL
        exact ⟨_, rfl, h⟩
      · wp_walk using wpAny_loadPart' hl, wpAny_pyIter_tuple hL
        exact ⟨_, rfl, h⟩
    · wp_walk using wpAny_loadPart' hl, wpAny_pyIter_tuple hL
      exact ⟨_, rfl, h⟩
theorem call_enumT {prog : Program} {w : World} {A : Around} {E : Value → Shared → Prop} {s : Shared} {t : Addr} {items : Array Value} {Q : Value → Shared → Prop} (hL : s.heap.IsTuple t items)
    (h : ∀ h', IsEnum h' (s.heap.objs.size + 1) s.heap.objs.size 0 .none → h'.IsTupleIter s.heap.objs.size t 0 →
      (∀ b o, s.heap.get? b = some o → h'.get? b = some o) → Q (.ref (s.heap.objs.size + 1)) { s with heap := h' }) :
    wpAny (model prog w) A (call (.type "enumerate") [.ref t]) Q E s := by
  refine callType_new F.called_enumerate (by decide) (F.typeCall_enumerate_1 _) (F.newCall_enumerate_1 _) (fun obj => F.args_object_init_2 obj _) F.entry_enumerate_new (new_enumT t items) ⟨hL, ?_⟩
  have hz : (s.heap.push (ti0 t)).objs.size = s.heap.objs.size + 1 := Heap.size_push ..
  show _ ∧ _
  rw [hz]
  have he : IsEnum ((s.heap.push (ti0 t)).push (en0 s.heap.objs.size)) (s.heap.objs.size + 1) s.heap.objs.size 0 .none := by
    have q := Heap.get?_push_size (s.heap.push (ti0 t)) (o := en0 s.heap.objs.size) rfl
    rw [hz] at q; exact q
  exact ⟨⟨_, he, rfl⟩, h _ he ⟨_, Heap.get?_push_of_some _ (Heap.get?_push_size _ rfl), rfl, rfl⟩ fun b o x => Heap.get?_push_of_some _ (Heap.get?_push_of_some _ x)⟩
/-- the tuple at a, each item in a new pair -/
def ItEt (K : PySem.W.Frag) (a : Addr) : It :=
  ⟨fun i H => ∃ (xs : List V) (x : V), SqT K H a xs ∧ xs[i]? = some x, fun i H v H' => ∃ T x, v = .ref T ∧ H T = none ∧ H' = upd H T (.tup [.int (i : Nat), x]) ∧ ∀ xs, SqT K H a xs → xs[i]? = some x, fun i H => ∃ xs : List V, SqT K H a xs ∧ xs.length ≤ i⟩
theorem turn_enumT {P : Program} {w : World} {K : PySem.W.Frag} {elts : List Expr} {kk : Nat} {tpos : Pos} (a e it : Addr) :
    Turn P w K (.Tuple elts kk tpos) (ItEt K a) [e, it] e (fun i h => (∃ old, IsEnum h e it ((i : Nat) : Int) old) ∧ h.IsTupleIter it a i ∧ e ≠ it) where
  mem := List.mem_cons_self
  obj := fun i h st b hb => by
    obtain ⟨⟨old, he⟩, ⟨o, ho, hc, hd⟩, _⟩ := st
    rcases List.mem_cons.mp hb with z | z
    · rw [z]; exact ⟨_, he, fun v q => nomatch q⟩
    · rw [List.mem_singleton.mp z]; exact ⟨o, ho, fun v q => by rw [hd] at q; cases q⟩
  keep := fun i h h' ⟨⟨old, he⟩, hi, hne⟩ k => ⟨⟨old, k e List.mem_cons_self _ he⟩, hi.at fun o q => k it (List.mem_cons_of_mem _ List.mem_cons_self) o q, hne⟩
  item := by
    intro X hP hw hK hc i pins s σ H E I hf st hg
    subst hP hw hK
    obtain ⟨⟨old, he⟩, hit, hne⟩ := st
    obtain ⟨xs, x, hq, hx⟩ := hg
    obtain ⟨its, rv, p, hz⟩ := I.tuple hq
    obtain ⟨u, hu, ru⟩ := rv.get hx
    have pt : s.heap.IsTuple a its.toArray := p
    have hel : e < s.heap.objs.size := Heap.lt_size he
    have hil : it < s.heap.objs.size := by obtain ⟨_, q, _⟩ := hit; exact Heap.lt_size q
    have hai : a ≠ it := fun z => by
      obtain ⟨o1, g1, c1, _⟩ := pt
      obtain ⟨o2, g2, c2, _⟩ := hit
      rw [z, g2] at g1
      cases g1
      rw [c2] at c1
      exact absurd c1 (by decide)
    have hae : a ≠ e := fun z => by
      obtain ⟨o1, g1, c1, _⟩ := pt
      rw [z, show s.heap.get? e = _ from he] at g1
      cases g1
      have c2 : Value.type "enumerate" = Value.type "tuple" := c1
      exact absurd c2 (by decide)
    have hlt : i < its.toArray.size := by
      have := (List.getElem?_eq_some_iff.mp hu).1
      simpa using this
    refine wpAny_pyNext_enum_itemD (Draws.tuple (by rw [Around.in1_handled]; exact I.ok.hd hc) it a hai its.toArray) he ⟨hit, pt⟩ hlt hne (by simp [hne, Ne.symm hae]) fun y h' tk hy ho hst' hT hsz hk => ?_
    have ey : y = u := by
      have q : its.toArray[i]? = some u := by simpa using hu
      rw [q] at hy
      exact (Option.some.inj hy).symm
    subst ey
    refine ⟨_, rfl, wpAny_letOwnedTupleGo_enum (s := { s with heap := h', toks := tk + 1 }) ho fun h'' he' sb => ?_⟩
    have hT2 := (sb.2 _ (Nat.ne_of_gt hel)).trans hT
    have new : ObjOk X.prog X.w (upd H s.heap.objs.size (.tup [.int (i : Nat), x])) h'' s.heap.objs.size (.tup [.int (i : Nat), x]) := ⟨by show 2 ≤ sizeLine; decide, [.int i tk, y], .cons ⟨_, rfl⟩ (.cons ru .nil), ⟨_, hT2, rfl, _, rfl⟩⟩
    have I1 : Inv X pins σ (upd H s.heap.objs.size (.tup [.int (i : Nat), x])) { s with heap := h'', toks := tk + 1 } :=
      I.turnedNew (ch := [e, it]) (fun b ob hb q => (sb.2 b (fun z => hb (by simp [z]))).trans (hk b ob (fun z => hb (by simp [z])) (fun z => hb (by simp [z])) q)) hf (Nat.le_refl _) new
    refine ⟨.ref s.heap.objs.size, _, I1, rfl, ⟨_, x, rfl, I.hok.fresh (Nat.le_refl _), rfl, fun ys hy => ?_⟩, ⟨⟨y, ?_⟩, hst'.1.at fun o q => (sb.2 it (Ne.symm hne)).trans q, hne⟩, fun b hb => ?_⟩
    · rw [I.tuple_inj hy hq]; exact hx
    · rw [show ((i + 1 : Nat) : Int) = (i : Int) + 1 by omega]; exact he'
    · have hb' : b < s.heap.objs.size := by
        rcases List.mem_cons.mp hb with z | z
        · rw [z]; exact hel
        · rw [List.mem_singleton.mp z]; exact hil
      rw [upd_ne (Nat.ne_of_lt hb')]; exact (hf b hb).1
  done := by
    intro X hP hw hK hc i pins s σ H E I hf st hg
    subst hP hw hK
    obtain ⟨⟨old, he⟩, hit, hne⟩ := st
    obtain ⟨xs, hq, hx⟩ := hg
    obtain ⟨its, rv, p, hz⟩ := I.tuple hq
    obtain ⟨f0, f1, f2, f3, f4, f5⟩ := hf it (List.mem_cons_of_mem _ List.mem_cons_self)
    have pt : s.heap.IsTuple a its.toArray := p
    have hai : a ≠ it := fun z => by
      obtain ⟨o1, g1, c1, _⟩ := pt
      obtain ⟨o2, g2, c2, _⟩ := hit
      rw [z, g2] at g1
      cases g1
      rw [c2] at c1
      exact absurd c1 (by decide)
    have hl := rv.length
    have D : Draws X.prog X.w X.A.in1 it [it, a] i (fun _ _ => False) (fun j h => j = i ∧ h.IsTupleIter it a i ∧ h.IsTuple a its.toArray) := by
      refine ⟨fun j h st => let ⟨o, ho, _⟩ := st.2.1; ⟨o, ho⟩, fun j h h' st k => ⟨st.1, st.2.1.at fun o q => k it (by simp) o q, st.2.2.at fun o q => k a (by simp) o q⟩, fun j s Q E hj st _ => absurd st.1 (Nat.ne_of_lt hj), fun s Q E st hE => ?_⟩
      exact wpAny_nextOf_tuple_end (by rw [Around.in1_handled]; exact I.ok.hd hc) st.2.1 st.2.2 (by simp; omega) hE
    exact wpAny_pyNext_enum_endD D he ⟨rfl, hit, pt⟩ fun h' eb => ⟨rfl, I.turned (t' := s.toks) (fun b o hb q => eb b o hb q) f0 f1 f3 f4 f5⟩
  self := fun A i s Q E ⟨⟨_, he⟩, _⟩ h => wpAny_pyIter_enum he h
def iEnumT (K : PySem.W.Frag) (ta : TA) : TI := fun σ H R => ta σ H fun vs H1 => ∃ a xs, vs = [.ref a] ∧ ((SqL K H1 a xs ∧ R (Ite K a) H1) ∨ (SqT K H1 a xs ∧ R (ItEt K a) H1))
theorem piEnumT {K : PySem.W.Frag} {X : Cx} {e : Expr} {ta : TA} {p pos tpos : Pos} {elts : List Expr} {kk : Nat} (hg : Gl X "enumerate") (hm : X.mg "enumerate" = none) (ha : PA X [e] ta) (eK : X.K = K := by rfl) (hs : starEach [e] X.env = [(false, eval e X.env)] := by rfl) :
    PI X (.Tuple elts kk tpos) (.Call (.Name "enumerate" p) [e] [] pos) (iEnumT K ta) := by
  cases eK
  refine ⟨fun pins s σ H R I h => Call_ (ld_blt I hg hm boot_enumerate (PyProof.Rows.callWith_type1 (thn (ha.run pos pins s σ H _ I h) fun us s1 ⟨vs, H1, I1, r1, q1⟩ => ?_) hs rfl))⟩
  obtain ⟨a, xs, rfl, q⟩ := q1
  rw [Vals.ref1 r1]
  have up : ∀ b ∈ [s1.heap.objs.size + 1, s1.heap.objs.size], s1.heap.objs.size ≤ b := fun b hb => by
    rcases List.mem_cons.mp hb with z | z
    · rw [z]; exact Nat.le_add_right _ _
    · rw [List.mem_singleton.mp z]; exact Nat.le_refl _
  rcases q with ⟨hq, q⟩ | ⟨hq, q⟩
  · obtain ⟨its, rv, p', hz⟩ := I1.list hq
    refine call_enumerate_list p'.isList fun h' he hit hsz hk => wpAny_pyIter_enum he ?_
    exact ⟨s1.heap.objs.size + 1, [s1.heap.objs.size + 1, s1.heap.objs.size], _, _, H1, rfl, I1.kept (t' := s1.toks) hk, turn_enum a (s1.heap.objs.size + 1) s1.heap.objs.size, ⟨⟨.none, he⟩, hit, Nat.succ_ne_self _⟩, fun b hb => I1.fpOk (up b hb) (I1.hok.fresh (up b hb)), q⟩
  · obtain ⟨its, rv, p', hz⟩ := I1.tuple hq
    refine call_enumT (show s1.heap.IsTuple a its.toArray from p') fun h' he hit hk => wpAny_pyIter_enum he ?_
    exact ⟨s1.heap.objs.size + 1, [s1.heap.objs.size + 1, s1.heap.objs.size], _, _, H1, rfl, I1.kept (t' := s1.toks) hk, turn_enumT a (s1.heap.objs.size + 1) s1.heap.objs.size, ⟨⟨.none, he⟩, hit, Nat.succ_ne_self _⟩, fun b hb => I1.fpOk (up b hb) (I1.hok.fresh (up b hb)), q⟩
end Vw

set_option Elab.async false
set_option linter.all false
set_option maxRecDepth 100000
set_option maxHeartbeats 4000000
namespace Vw
open PySem PySem.Spec PyProof.Rows L2 RT
/-! ### loops -/
def FQ (J : It) (g : TG) (tb : TS) (D : Ends) (σ : L2.St) (H : Hp) : Prop := ∃ W : Nat → Nat → L2.St → Hp → Prop, (∃ m, W 0 m σ H) ∧ ∀ i m σ H, W i m σ H →
  (J.stop i H ∧ D.nx σ H) ∨ (J.go i H ∧ ∃ N : L2.St → Hp → Prop, (∀ σ' H', N σ' H' → ∃ m', m' < m ∧ W (i + 1) m' σ' H') ∧ ∀ x H', J.yld i H x H' → g x σ H' fun σ2 H2 => tb { D with nx := N, ct := N, bk := D.nx } σ2 H2)
def LQ (J : It) (g : TG) (tt : TT) (te : TE) (vs : List Nat) (σ : L2.St) (H1 : Hp) (Q : VK) : Prop := ∀ D, H1 D = none → ∃ W : Nat → Nat → Hp → Prop, (∃ m, W 0 m (upd H1 D (.lst []))) ∧ ∀ i m H, W i m H →
  (J.stop i H ∧ Q (.ref D) H) ∨ (J.go i H ∧ ∃ Nx : Hp → Prop, (∀ H', Nx H' → ∃ m', m' < m ∧ W (i + 1) m' H') ∧ ∀ x H', J.yld i H x H' → g x (wipe σ vs) H' fun σ2 H2 => wipe σ2 vs = wipe σ vs ∧ tt σ2 H2 fun b H3 =>
    if b = true then te σ2 H3 fun y H4 => ∃ acc, H4 D = some (.lst acc) ∧ acc.length < sizeLine ∧ Nx (upd H4 D (.lst (acc ++ [y]))) else Nx H3)
section
variable {K : PySem.W.Frag} {σ : L2.St} {H H1 : Hp} {Q : VK} {D : Ends} {ta tb te : TE} {t u : TS} {wi : TI} {g : TG} {tt : TT} {vs : List Nat} {R : It → Hp → Prop} {j : Nat} {xs : List V} {a : Addr}
theorem s_for (h : wi σ H fun J H1 => FQ J g t D σ H1) : tFor wi g t D σ H := h
theorem e_lc (h : wi σ H fun J H1 => LQ J g tt te vs σ H1 Q) : tLc wi g tt te vs σ H Q := h
def RgQ (R : It → Hp → Prop) (vs : List V) (H1 : Hp) : Prop := ∃ j : Int, vs = [.int j] ∧ -(2 ^ 62) ≤ j ∧ j < 2 ^ 62 ∧ R (Itr 0 j.toNat) H1
theorem i_rng1 {ta : TA} (h : ta σ H fun vs H1 => RgQ R vs H1) : iRng1 ta σ H R := h
theorem i_rng {i : Int} (n : Nat) (e : i.toNat = n) (h1 : -100000 ≤ i) (h2 : i ≤ 100000) (h : R (Itr 0 n) H) : RgQ R [.int i] H := ⟨i, rfl, by omega, by omega, by rw [e]; exact h⟩
def LsQ (K : PySem.W.Frag) (R : It → Hp → Prop) (x : V) (H1 : Hp) : Prop := ∃ a, x = .ref a ∧ (∃ xs, SqL K H1 a xs) ∧ R (Itl K a) H1
theorem i_lst0 {tl : TE} (h : tl σ H fun x H1 => LsQ K R x H1) : iList K tl σ H R := h
theorem i_lst (s : SqL K H a xs) (h : R (Itl K a) H) : LsQ K R (.ref a) H := ⟨a, rfl, ⟨xs, s⟩, h⟩
def TpQ (K : PySem.W.Frag) (R : It → Hp → Prop) (x : V) (H1 : Hp) : Prop := ∃ a, x = .ref a ∧ (∃ xs, SqT K H1 a xs) ∧ R (Itt K a) H1
theorem i_tup0 {tl : TE} (h : tl σ H fun x H1 => TpQ K R x H1) : iTup K tl σ H R := h
theorem i_tup (s : SqT K H a xs) (h : R (Itt K a) H) : TpQ K R (.ref a) H := ⟨a, rfl, ⟨xs, s⟩, h⟩
/-- a loop over anything that is walked -/
theorem l_it {J : It} {n : Nat} {G : Hp → Prop} {Y : Nat → Hp → V → Hp → Prop} (W : Walk J n G Y) (Pv : Nat → L2.St → Hp → Prop) (h0 : Pv 0 σ H) (hG : ∀ i σ H, i ≤ n → Pv i σ H → G H) (hd : ∀ σ H, Pv n σ H → D.nx σ H)
    (hs : ∀ i x σ H H', i < n → Pv i σ H → Y i H x H' → g x σ H' fun σ2 H2 => t { D with nx := Pv (i + 1), ct := Pv (i + 1), bk := D.nx } σ2 H2) : FQ J g t D σ H := for_it W Pv h0 hG hs hd
theorem l_rng {n : Nat} (Pv : Nat → L2.St → Hp → Prop) (h0 : Pv 0 σ H) (hd : ∀ σ H, Pv n σ H → D.nx σ H)
    (hs : ∀ (i : Nat) σ H, i < n → Pv i σ H → t { D with nx := Pv (i + 1), ct := Pv (i + 1), bk := D.nx } (σ.set j (some (.int (i : Int)))) H) : FQ (Itr 0 n) (gName j) t D σ H :=
  l_it walk_range Pv h0 (fun _ _ _ _ _ => trivial) hd fun i x σ H H' hi p y => by
    obtain ⟨rfl, rfl⟩ := y
    have e : (0 : Int) + (i : Int) = (i : Int) := Int.zero_add _
    show t _ (σ.set j (some (.int ((0 : Int) + (i : Int))))) _
    rw [e]; exact hs i σ _ hi p
theorem l_lst (Pv : Nat → L2.St → Hp → Prop) (h0 : Pv 0 σ H) (hl : ∀ i σ H, i ≤ xs.length → Pv i σ H → SqL K H a xs) (hd : ∀ σ H, Pv xs.length σ H → D.nx σ H)
    (hs : ∀ i x σ H, xs[i]? = some x → Pv i σ H → t { D with nx := Pv (i + 1), ct := Pv (i + 1), bk := D.nx } (σ.set j (some x)) H) : FQ (Itl K a) (gName j) t D σ H :=
  l_it walk_list Pv h0 hl hd fun i x σ H H' hi p y => by
    obtain ⟨rfl, e⟩ := y
    exact hs i x σ _ e p
theorem l_tup (Pv : Nat → L2.St → Hp → Prop) (h0 : Pv 0 σ H) (hl : ∀ i σ H, i ≤ xs.length → Pv i σ H → SqT K H a xs) (hd : ∀ σ H, Pv xs.length σ H → D.nx σ H)
    (hs : ∀ i x σ H, xs[i]? = some x → Pv i σ H → t { D with nx := Pv (i + 1), ct := Pv (i + 1), bk := D.nx } (σ.set j (some x)) H) : FQ (Itt K a) (gName j) t D σ H :=
  l_it walk_tup Pv h0 hl hd fun i x σ H H' hi p y => by
    obtain ⟨rfl, e⟩ := y
    exact hs i x σ _ e p
/-- the target (x, y) at a new pair -/
theorem g_pair {i1 i2 : Nat} {T : Addr} {x y : V} {R : L2.St → Hp → Prop} (h : H T = some (.tup [x, y])) (q : R ((σ.set i1 (some x)).set i2 (some y)) H) : gTup K 2 (gCons (gName i1) (gCons (gName i2) gNil)) (.ref T) σ H R :=
  ⟨T, [x, y], rfl, stO h, rfl, x, [y], rfl, y, [], rfl, rfl, q⟩
theorem g_pairS {i1 i2 : Nat} {T : Addr} {x y : V} {R : L2.St → Hp → Prop} (h : SqT K H T [x, y]) (q : R ((σ.set i1 (some x)).set i2 (some y)) H) : gTup K 2 (gCons (gName i1) (gCons (gName i2) gNil)) (.ref T) σ H R :=
  ⟨T, [x, y], rfl, h, rfl, x, [y], rfl, y, [], rfl, rfl, q⟩
theorem putK_le {c : List (Key × V)} {k : Key} {x : V} : (putK c k x).length ≤ c.length + 1 := by
  unfold putK
  split <;> simp
theorem walk_enumT : Walk (ItEt K a) xs.length (fun H => SqT K H a xs) (YPair (fun i => some (.int (i : Nat))) (fun i => xs[i]?)) := by
  refine ⟨fun i _ hi q => ⟨xs, xs[i], q, by simp [hi]⟩, fun _ q => ⟨xs, q, Nat.le_refl _⟩, fun i H v H' _ q y => ?_⟩
  obtain ⟨T, x, h1, h2, h3, h4⟩ := y
  exact ⟨T, .int (i : Nat), x, h1, h2, h3, rfl, h4 xs q⟩
def SqX (K : PySem.W.Frag) (H : Hp) (a : Addr) (xs : List V) : Prop := SqL K H a xs ∨ SqT K H a xs
theorem sx_ {H H' : Hp} {a : Addr} {xs : List V} (s : Same H H') (h : SqX K H a xs) : SqX K H' a xs := h.elim (fun h => .inl (sl_ s h)) fun h => .inr (st_ s h)
def EnQ (K : PySem.W.Frag) (R : It → Hp → Prop) (vs : List V) (H1 : Hp) : Prop := ∃ a xs, vs = [.ref a] ∧ ((SqL K H1 a xs ∧ R (Ite K a) H1) ∨ (SqT K H1 a xs ∧ R (ItEt K a) H1))
theorem i_enum0 {ta : TA} (h : ta σ H fun vs H1 => EnQ K R vs H1) : iEnumT K ta σ H R := h
theorem i_enumX {H0 : Hp} (s : SqX K H0 a xs) (ss : Same H0 H) (h : ∀ J G, (∀ H', Same H0 H' → G H') → Walk J xs.length G (YPair (fun i => some (.int (i : Nat))) (fun i => xs[i]?)) → R J H) : EnQ K R [.ref a] H :=
  ⟨a, xs, rfl, s.elim (fun s => .inl ⟨sl_ ss s, h _ _ (fun H' q => sl_ q s) walk_enum⟩) fun s => .inr ⟨st_ ss s, h _ _ (fun H' q => st_ q s) walk_enumT⟩⟩
def RvQ (K : PySem.W.Frag) (R : It → Hp → Prop) (v : V) (H1 : Hp) : Prop := ∃ (a : Addr) (xs : List V), v = .ref a ∧ ((SqL K H1 a xs ∧ R (Itv K a xs.length) H1) ∨ (SqT K H1 a xs ∧ R (ItvT K a xs.length) H1))
theorem walk_revT : Walk (ItvT K a xs.length) xs.length (fun H => SqT K H a xs) (fun i H x H' => H' = H ∧ xs[xs.length - 1 - i]? = some x) :=
  ⟨fun i _ hi q => ⟨hi, xs, xs[xs.length - 1 - i]'(by omega), q, by simp [show xs.length - 1 - i < xs.length by omega]⟩, fun _ _ => Nat.le_refl _, fun _ _ _ _ _ q y => ⟨y.1, y.2 xs q⟩⟩
theorem i_revX {H0 : Hp} (s : SqX K H0 a xs) (ss : Same H0 H) (h : ∀ J G, (∀ H', Same H0 H' → G H') → Walk J xs.length G (fun i H x H' => H' = H ∧ xs[xs.length - 1 - i]? = some x) → R J H) : RvQ K R (.ref a) H :=
  ⟨a, xs, rfl, s.elim (fun s => .inl ⟨sl_ ss s, h _ _ (fun H' q => sl_ q s) walk_rev⟩) fun s => .inr ⟨st_ ss s, h _ _ (fun H' q => st_ q s) walk_revT⟩⟩
theorem i_rev0 {te : TE} (h : te σ H fun v H1 => RvQ K R v H1) : iRevA K te σ H R := h
/-- a comprehension: Pv tells of the turn, of what is made so far, of the heap, in which the list itself stands at D -/
theorem c_it {J : It} {n : Nat} {G : Hp → Prop} {Y : Nat → Hp → V → Hp → Prop} (W : Walk J n G Y) (Pv : Nat → List V → Hp → Prop) (h0 : ∀ D, H1 D = none → Pv 0 [] (upd H1 D (.lst []))) (hG : ∀ i acc H, i ≤ n → Pv i acc H → G H)
    (hd : ∀ acc D H, H1 D = none → H D = some (.lst acc) → Pv n acc H → Q (.ref D) H)
    (hs : ∀ (i : Nat) x acc H H' D, i < n → H1 D = none → H D = some (.lst acc) → Pv i acc H → Y i H x H' → g x (wipe σ vs) H' fun σ2 H2 => wipe σ2 vs = wipe σ vs ∧ tt σ2 H2 fun b H3 =>
      if b = true then te σ2 H3 fun y H4 => ∃ acc, H4 D = some (.lst acc) ∧ acc.length < sizeLine ∧ ∃ acc2, (upd H4 D (.lst (acc ++ [y]))) D = some (.lst acc2) ∧ Pv (i + 1) acc2 (upd H4 D (.lst (acc ++ [y]))) else ∃ acc2, H3 D = some (.lst acc2) ∧ Pv (i + 1) acc2 H3) : LQ J g tt te vs σ H1 Q := fun D hD =>
  lc_it W (fun i H => ∃ acc, H D = some (.lst acc) ∧ Pv i acc H) ⟨[], upd_same, h0 D hD⟩ (fun i H hi p => hG i _ H hi p.choose_spec.2) (fun i x H H' hi p y => by
    obtain ⟨acc, hp, p⟩ := p
    exact hs i x acc H H' D hi hD hp p y) (fun H p => by
    obtain ⟨acc, hp, p⟩ := p
    exact hd acc D H hD hp p)
theorem got_ {Dl : Addr} {acc : List V} {y : V} {P : List V → Hp → Prop} (h : H Dl = some (.lst acc)) (hl : acc.length < 100000) (p : P (acc ++ [y]) (upd H Dl (.lst (acc ++ [y])))) :
    ∃ acc, H Dl = some (.lst acc) ∧ acc.length < sizeLine ∧ ∃ acc2, (upd H Dl (.lst (acc ++ [y]))) Dl = some (.lst acc2) ∧ P acc2 (upd H Dl (.lst (acc ++ [y]))) :=
  ⟨acc, h, Nat.lt_of_lt_of_le hl (by decide), _, upd_same, p⟩
theorem upd_free {H0 : Hp} {Dl : Addr} {o : HO} (s : Same H0 H) (n : H0 Dl = none) : Same H0 (upd H Dl o) := fun b u e => by rw [upd_ne (ne_of_none e n)]; exact s b u e
theorem c_rng {n : Nat} (Pv : Nat → List V → Hp → Prop) (h0 : ∀ D, H1 D = none → Pv 0 [] (upd H1 D (.lst []))) (hd : ∀ acc D H, H1 D = none → H D = some (.lst acc) → Pv n acc H → Q (.ref D) H) (hw : ∀ x, wipe ((wipe σ vs).set j x) vs = wipe σ vs)
    (hs : ∀ (i : Nat) acc H D, i < n → H1 D = none → H D = some (.lst acc) → Pv i acc H → tt ((wipe σ vs).set j (some (.int (i : Int)))) H fun b H3 =>
      if b = true then te ((wipe σ vs).set j (some (.int (i : Int)))) H3 fun y H4 => ∃ acc, H4 D = some (.lst acc) ∧ acc.length < sizeLine ∧ ∃ acc2, (upd H4 D (.lst (acc ++ [y]))) D = some (.lst acc2) ∧ Pv (i + 1) acc2 (upd H4 D (.lst (acc ++ [y]))) else ∃ acc2, H3 D = some (.lst acc2) ∧ Pv (i + 1) acc2 H3) :
    LQ (Itr 0 n) (gName j) tt te vs σ H1 Q := c_it walk_range Pv h0 (fun _ _ _ _ _ => trivial) hd fun i x acc H H' D hi hD hp p y => by
  obtain ⟨rfl, rfl⟩ := y
  have e : (0 : Int) + (i : Int) = (i : Int) := Int.zero_add _
  refine ⟨hw _, ?_⟩
  dsimp only
  rw [e]; exact hs i acc _ D hi hD hp p
theorem c_lst (Pv : Nat → List V → Hp → Prop) (h0 : ∀ D, H1 D = none → Pv 0 [] (upd H1 D (.lst []))) (hl : ∀ i acc H, i ≤ xs.length → Pv i acc H → SqL K H a xs) (hd : ∀ acc D H, H1 D = none → H D = some (.lst acc) → Pv xs.length acc H → Q (.ref D) H) (hw : ∀ x, wipe ((wipe σ vs).set j x) vs = wipe σ vs)
    (hs : ∀ (i : Nat) x acc H D, xs[i]? = some x → H1 D = none → H D = some (.lst acc) → Pv i acc H → tt ((wipe σ vs).set j (some x)) H fun b H3 =>
      if b = true then te ((wipe σ vs).set j (some x)) H3 fun y H4 => ∃ acc, H4 D = some (.lst acc) ∧ acc.length < sizeLine ∧ ∃ acc2, (upd H4 D (.lst (acc ++ [y]))) D = some (.lst acc2) ∧ Pv (i + 1) acc2 (upd H4 D (.lst (acc ++ [y]))) else ∃ acc2, H3 D = some (.lst acc2) ∧ Pv (i + 1) acc2 H3) :
    LQ (Itl K a) (gName j) tt te vs σ H1 Q := c_it walk_list Pv h0 hl hd fun i x acc H H' D hi hD hp p y => by
  obtain ⟨rfl, e⟩ := y
  exact ⟨hw _, hs i x acc _ D e hD hp p⟩
theorem c_tup (Pv : Nat → List V → Hp → Prop) (h0 : ∀ D, H1 D = none → Pv 0 [] (upd H1 D (.lst []))) (hl : ∀ i acc H, i ≤ xs.length → Pv i acc H → SqT K H a xs) (hd : ∀ acc D H, H1 D = none → H D = some (.lst acc) → Pv xs.length acc H → Q (.ref D) H) (hw : ∀ x, wipe ((wipe σ vs).set j x) vs = wipe σ vs)
    (hs : ∀ (i : Nat) x acc H D, xs[i]? = some x → H1 D = none → H D = some (.lst acc) → Pv i acc H → tt ((wipe σ vs).set j (some x)) H fun b H3 =>
      if b = true then te ((wipe σ vs).set j (some x)) H3 fun y H4 => ∃ acc, H4 D = some (.lst acc) ∧ acc.length < sizeLine ∧ ∃ acc2, (upd H4 D (.lst (acc ++ [y]))) D = some (.lst acc2) ∧ Pv (i + 1) acc2 (upd H4 D (.lst (acc ++ [y]))) else ∃ acc2, H3 D = some (.lst acc2) ∧ Pv (i + 1) acc2 H3) :
    LQ (Itt K a) (gName j) tt te vs σ H1 Q := c_it walk_tup Pv h0 hl hd fun i x acc H H' D hi hD hp p y => by
  obtain ⟨rfl, e⟩ := y
  exact ⟨hw _, hs i x acc _ D e hD hp p⟩
theorem e_yes {R : Bool → Hp → Prop} (q : R true H) : tYes σ H R := q
/-- a dict comprehension over a list -/
def DQ (J : It) (g : TG) (tt : TT) (tk tv : TE) (vs : List Nat) (σ : L2.St) (H1 : Hp) (Q : VK) : Prop := ∀ D, H1 D = none → ∃ W : Nat → Nat → Hp → Prop, (∃ m, W 0 m (upd H1 D (.dK []))) ∧ ∀ i m H, W i m H →
  (J.stop i H ∧ Q (.ref D) H) ∨ (J.go i H ∧ ∃ Nx : Hp → Prop, (∀ H', Nx H' → ∃ m', m' < m ∧ W (i + 1) m' H') ∧ ∀ x H', J.yld i H x H' → g x (wipe σ vs) H' fun σ2 H2 => wipe σ2 vs = wipe σ vs ∧ tt σ2 H2 fun b H3 =>
    if b = true then tk σ2 H3 fun y H4 => tv σ2 H4 fun z H5 => ∃ kvs k, y = kV k ∧ H5 D = some (.dK kvs) ∧ kvs.length < sizeLine ∧ Nx (upd H5 D (.dK (putK kvs k z))) else Nx H3)
theorem e_dc {tk tv : TE} (h : wi σ H fun J H1 => DQ J g tt tk tv vs σ H1 Q) : tDc wi g tt tk tv vs σ H Q := h
theorem d_it {J : It} {n : Nat} {G : Hp → Prop} {Y : Nat → Hp → V → Hp → Prop} {tk tv : TE} (W : Walk J n G Y) (Pv : Nat → List (Key × V) → Hp → Prop) (h0 : ∀ D, H1 D = none → Pv 0 [] (upd H1 D (.dK []))) (hG : ∀ i acc H, i ≤ n → Pv i acc H → G H)
    (hd : ∀ acc D H, H1 D = none → H D = some (.dK acc) → Pv n acc H → Q (.ref D) H)
    (hs : ∀ (i : Nat) x acc H H' D, i < n → H1 D = none → H D = some (.dK acc) → Pv i acc H → Y i H x H' → g x (wipe σ vs) H' fun σ2 H2 => wipe σ2 vs = wipe σ vs ∧ tt σ2 H2 fun b H3 =>
      if b = true then tk σ2 H3 fun y H4 => tv σ2 H4 fun z H5 => ∃ kvs k, y = kV k ∧ H5 D = some (.dK kvs) ∧ kvs.length < sizeLine ∧ ∃ acc2, (upd H5 D (.dK (putK kvs k z))) D = some (.dK acc2) ∧ Pv (i + 1) acc2 (upd H5 D (.dK (putK kvs k z))) else ∃ acc2, H3 D = some (.dK acc2) ∧ Pv (i + 1) acc2 H3) : DQ J g tt tk tv vs σ H1 Q := fun D hD => by
  refine ⟨fun i m H => m = n - i ∧ i ≤ n ∧ ∃ acc, H D = some (.dK acc) ∧ Pv i acc H, ⟨n, rfl, Nat.zero_le _, [], upd_same, h0 D hD⟩, ?_⟩
  rintro i m H ⟨rfl, hi, acc, hp, p⟩
  have q := hG i acc H hi p
  by_cases hlt : i < n
  · exact .inr ⟨W.goes i H hlt q, fun H => ∃ acc, H D = some (.dK acc) ∧ Pv (i + 1) acc H, fun H' p' => ⟨n - (i + 1), by omega, rfl, hlt, p'⟩, fun x H' y => hs i x acc H H' D hlt hD hp p (W.yields i H x H' hlt q y)⟩
  · have e : i = n := by omega
    subst e
    exact .inl ⟨W.stops H q, hd acc D H hD hp p⟩
theorem dgot_ {Dl : Addr} {acc : List (Key × V)} {z : V} {k : Key} {P : List (Key × V) → Hp → Prop} (h : H Dl = some (.dK acc)) (hl : acc.length < 100000) (p : P (putK acc k z) (upd H Dl (.dK (putK acc k z)))) :
    ∃ kvs k', kV k = kV k' ∧ H Dl = some (.dK kvs) ∧ kvs.length < sizeLine ∧ ∃ acc2, (upd H Dl (.dK (putK kvs k' z))) Dl = some (.dK acc2) ∧ P acc2 (upd H Dl (.dK (putK kvs k' z))) :=
  ⟨acc, k, rfl, h, Nat.lt_of_lt_of_le hl (by decide), _, upd_same, p⟩
theorem atI_map {ns : List Int} {z : Int} (i : Nat) (e : z = (i : Nat)) (h : i < ns.length) : atI (ns.map V.int) z = some (.int (ns.getD i 0)) := atI_in e (by
  rw [List.getElem?_map, List.getElem?_eq_getElem h, List.getD_eq_getElem?_getD, List.getElem?_eq_getElem h]; rfl)
theorem atI_neg {α : Type} {xs : List α} {x : α} (h0 : 0 < xs.length) (h : xs[xs.length - 1]? = some x) : atI xs (-1) = some x := by
  have e : ixN xs.length (-1) = some (xs.length - 1) := by
    unfold ixN
    rw [if_neg (by omega), if_pos (by omega)]
    congr 1; omega
  unfold atI
  rw [e]; exact h
theorem atI_negI {ns : List Int} (h0 : 0 < ns.length) : atI (ns.map V.int) (-1) = some (.int (ns.getD (ns.length - 1) 0)) := atI_neg (by simpa using h0) (by
  rw [List.length_map, List.getElem?_map, List.getD_eq_getElem?_getD, List.getElem?_eq_getElem (by omega)]; rfl)
theorem getD_mem {ns : List Int} {i : Nat} (h : i < ns.length) : ns.getD i 0 ∈ ns := by
  rw [List.getD_eq_getElem?_getD, List.getElem?_eq_getElem h]; exact List.getElem_mem h
theorem while_ {c : TT} {μ : L2.St → Hp → Nat} (Pv : L2.St → Hp → Prop) (h0 : Pv σ H)
    (hs : ∀ σ H, Pv σ H → c σ H fun b H1 => if b = true then t { D with nx := fun σ' H' => Pv σ' H' ∧ μ σ' H' < μ σ H, ct := fun σ' H' => Pv σ' H' ∧ μ σ' H' < μ σ H, bk := D.nx } σ H1 else D.nx σ H1)
    (mono : ∀ σ H Q Q', (∀ b H1, Q b H1 → Q' b H1) → c σ H Q → c σ H Q') : tWhile c t D σ H := while_by Pv μ h0 hs mono
theorem same_oth {f : Addr} {H0 H2 : Hp} (n : H0 f = none) (s : Same H0 H) (o : Oth f H H2) : Same H0 H2 := fun b u e => o b u (ne_of_none e n) (s b u e)
theorem e_bm {T : String} {r : V → List V → Hp → VK → Prop} {to : TE} {ts : TA} (h : to σ H fun x H1 => tyV K T x H1 ∧ ts σ H1 fun xs H2 => r x xs H2 Q) : tBM K T r to ts σ H Q := h
theorem ty_lst {f : Addr} {R : Prop} (h : H f = some (.lst xs)) (q : R) : tyV K "list" (.ref f) H ∧ R := ⟨.inl ⟨rfl, xs, slO h⟩, q⟩
theorem r_app {f : Addr} {y : V} (h : H f = some (.lst xs)) (hl : xs.length < 100000) (q : ∀ H2, Oth f H H2 → H2 f = some (.lst (xs ++ [y])) → Q .non H2) : rAppend (.ref f) [y] H Q :=
  ⟨f, xs, y, rfl, rfl, h, lt_size hl, q _ (fun b o n z => by rw [upd_ne n]; exact z) upd_same⟩
theorem o_cat {r' : R2} {l b : Addr} {ys : List V} (h1 : H l = some (.lst xs)) (h2 : H b = some (.lst ys)) (hl : xs.length + ys.length < 100000) (q : NewQ (.lst (xs ++ ys)) H Q) : rOr rIAdd (rOr rCat r') (.ref l) (.ref b) H Q := .inr (.inl ⟨l, b, xs, ys, rfl, rfl, h1, h2, le_size hl, q⟩)
theorem e_din {ty td : TE} (h : ty σ H fun y H1 => td σ H1 fun x H2 => ∃ a o, x = .ref a ∧ DGet H2 a y o ∧ Q (.bl o.isSome) H2) : tDIn ty td σ H Q := h
theorem g_din {PO : Option V → Prop} {d : Addr} {kvs : List (Key × V)} {k : Key} (h : H d = some (.dK kvs)) (q : PO (valV kvs k)) : ∃ a o, V.ref d = .ref a ∧ DGet H a (kV k) o ∧ PO o := ⟨d, _, rfl, DGet.k h, q⟩
theorem e_sl {r : V → Option Int → Option Int → Hp → VK → Prop} {tl th : TO} (h : te σ H fun x H1 => tl σ H1 fun l H2 => th σ H2 fun u H3 => r x l u H3 Q) : tSl r te tl th σ H Q := h
theorem e_np {R : Option Int → Hp → Prop} (h : R none H) : tNoPart σ H R := h
theorem e_pt {R : Option Int → Hp → Prop} (h : te σ H fun x H1 => ∃ i, x = .int i ∧ R (some i) H1) : tPart te σ H R := h
theorem e_ptI {PI : Int → Prop} {i : Int} (h : PI i) : ∃ j, V.int i = .int j ∧ PI j := ⟨i, rfl, h⟩
theorem r_sl {lo hi : Option Int} (s : SqL K H a xs) (q : NewQ (.lst (cutV xs lo hi)) H Q) : rSlL K (.ref a) lo hi H Q := ⟨a, xs, rfl, s, q⟩
theorem cut_map {f : Int → V} (ns : List Int) (lo hi : Option Int) : ∃ ms : List Int, cutV (ns.map f) lo hi = ms.map f ∧ ms.length ≤ ns.length ∧ ∀ z ∈ ms, z ∈ ns := by
  have key : ∀ a b : Nat, ∃ ms : List Int, ((ns.map f).drop a).take b = ms.map f ∧ ms.length ≤ ns.length ∧ ∀ z ∈ ms, z ∈ ns := fun a b =>
    ⟨(ns.drop a).take b, by rw [List.map_take, List.map_drop], by rw [List.length_take, List.length_drop]; omega, fun z hz => List.mem_of_mem_drop (List.mem_of_mem_take hz)⟩
  exact key _ _
theorem eqV_int {a b : Int} : eqV (.int a) (.int b) = decide (a = b) := by
  show (a == b) = _
  by_cases h : a = b
  · rw [h]; simp
  · simp [h]
theorem inV_int {z : Int} {ns : List Int} : inV (.int z) (ns.map V.int) = decide (z ∈ ns) := by
  unfold inV
  rw [List.any_map, Bool.eq_iff_iff, List.any_eq_true, decide_eq_true_eq]
  constructor
  · rintro ⟨y, hy, e⟩
    have := eqV_int (a := y) (b := z)
    have e : eqV (.int y) (.int z) = true := e
    rw [this, decide_eq_true_eq] at e
    rw [← e]; exact hy
  · intro h
    refine ⟨z, h, ?_⟩
    show eqV (.int z) (.int z) = true
    rw [eqV_int]; simp
theorem flat_ints {ns : List Int} : (ns.map V.int).all flatV = true := by
  rw [List.all_map, List.all_eq_true]; exact fun _ _ => rfl
theorem o_inL {p : Addr} {z : Int} {ns : List Int} (s : SqL K H p (ns.map V.int)) (q : Q (.bl (decide (z ∈ ns))) H) : rIn K false (.int z) (.ref p) H Q := ⟨p, _, rfl, .inl s, rfl, flat_ints, by rw [inV_int]; exact q⟩
theorem o_inT {p : Addr} {z : Int} {ns : List Int} (s : SqT K H p (ns.map V.int)) (q : Q (.bl (decide (z ∈ ns))) H) : rIn K false (.int z) (.ref p) H Q := ⟨p, _, rfl, .inr s, rfl, flat_ints, by rw [inV_int]; exact q⟩
theorem o_niL {p : Addr} {z : Int} {ns : List Int} (s : SqL K H p (ns.map V.int)) (q : Q (.bl (decide (z ∉ ns))) H) : rIn K true (.int z) (.ref p) H Q := ⟨p, _, rfl, .inl s, rfl, flat_ints, by
  have e : (!decide (z ∈ ns)) = decide (z ∉ ns) := by simp
  rw [inV_int]; show Q (.bl (!decide (z ∈ ns))) H; rw [e]; exact q⟩
theorem o_niT {p : Addr} {z : Int} {ns : List Int} (s : SqT K H p (ns.map V.int)) (q : Q (.bl (decide (z ∉ ns))) H) : rIn K true (.int z) (.ref p) H Q := ⟨p, _, rfl, .inr s, rfl, flat_ints, by
  have e : (!decide (z ∈ ns)) = decide (z ∉ ns) := by simp
  rw [inV_int]; show Q (.bl (!decide (z ∈ ns))) H; rw [e]; exact q⟩
def SortQ (ns : List Int) (H : Hp) (Q : VK) : Prop := ∀ (ns' : List Int) p H2, ns'.Perm ns → ns'.Pairwise (· ≤ ·) → H p = none → Same H H2 → H2 p = some (.lst (ns'.map V.int)) → Q (.ref p) H2
theorem c_sortI {p : Addr} {ns : List Int} (s : SqL K H p (ns.map V.int)) (q : SortQ ns H Q) : rSortedI K [.ref p] H Q := ⟨p, ns, rfl, s, fun ns' r h1 h2 n => q ns' r _ h1 h2 n (Same.new n) upd_same⟩
theorem s_while (h : tWhile tt t D σ H) : tWhile tt t D σ H := h
end
/-! ### what a reading asks is monotone (for the parts of a comprehension): by the shape -/
section
variable {ta tb te : TE} {c d : TT}
abbrev MoE (te : TE) : Prop := ∀ σ H (R R' : VK), (∀ v H1, R v H1 → R' v H1) → te σ H R → te σ H R'
abbrev MoT (c : TT) : Prop := ∀ σ H (R R' : Bool → Hp → Prop), (∀ b H1, R b H1 → R' b H1) → c σ H R → c σ H R'
abbrev MoA (t : TA) : Prop := ∀ σ H (R R' : List V → Hp → Prop), (∀ v H1, R v H1 → R' v H1) → t σ H R → t σ H R'
abbrev Mo2 (r : R2) : Prop := ∀ x y H (R R' : VK), (∀ v H1, R v H1 → R' v H1) → r x y H R → r x y H R'
abbrev MoC (r : List V → Hp → VK → Prop) : Prop := ∀ x H (R R' : VK), (∀ v H1, R v H1 → R' v H1) → r x H R → r x H R'
abbrev MoSp (r : Sp) : Prop := ∀ x H (R R' : VK) E, (∀ v H1, R v H1 → R' v H1) → r x H R E → r x H R' E
theorem m_yes : MoT tYes := fun _ H _ _ h q => h _ _ q
theorem m_var {i : Nat} : MoE (tVar i) := fun _ H _ _ h q => q.elim fun v q => ⟨v, q.1, h _ _ q.2⟩
theorem m_c {v : V} : MoE (tC v) := fun _ H _ _ h q => h _ _ q
theorem m_op {r : R2} (hr : Mo2 r) (ha : MoE ta) (hb : MoE tb) : MoE (tOp r ta tb) := fun σ H _ _ h q => ha σ H _ _ (fun x H1 => hb σ H1 _ _ fun y H2 => hr x y H2 _ _ h) q
theorem m_test (h : MoE te) : MoT (tTest te) := fun σ H _ _ k q => h σ H _ _ (fun x H1 ⟨b, e, z⟩ => ⟨b, e, k b H1 z⟩) q
theorem m_tB (h : MoE te) : MoT (tB te) := fun σ H _ _ k q => h σ H _ _ (fun x H1 ⟨b, e, z⟩ => ⟨b, e, k b H1 z⟩) q
theorem m_nil : MoA tNil := fun _ H _ _ h q => h _ _ q
theorem m_cons {tr : TA} (ha : MoE ta) (hr : MoA tr) : MoA (tCons ta tr) := fun σ H _ _ h q => ha σ H _ _ (fun x H1 => hr σ H1 _ _ fun xs H2 => h (x :: xs) H2) q
theorem m_cb {r : List V → Hp → VK → Prop} {tt : TA} (hr : MoC r) (ht : MoA tt) : MoE (tCB r tt) := fun σ H _ _ h q => ht σ H _ _ (fun x H1 => hr x H1 _ _ h) q
theorem m_call {sp : Sp} {dvs : List V} {E : XK} {tt : TA} (hr : MoSp sp) (ht : MoA tt) : MoE (tCall sp dvs E tt) := fun σ H _ _ h q => ht σ H _ _ (fun x H1 => hr _ H1 _ _ E h) q
theorem m_or {r r' : R2} (a : Mo2 r) (b : Mo2 r') : Mo2 (rOr r r') := fun x y H _ _ h q => q.elim (fun q => .inl (a x y H _ _ h q)) fun q => .inr (b x y H _ _ h q)
theorem m_I0 {f : Int → Int → V} : Mo2 (rI0 f) := fun x y H _ _ h ⟨i, j, e1, e2, q⟩ => ⟨i, j, e1, e2, h _ _ q⟩
theorem m_I {C : Int → Int → Prop} {f : Int → Int → V} : Mo2 (rI C f) := fun x y H _ _ h ⟨i, j, e1, e2, c, q⟩ => ⟨i, j, e1, e2, c, h _ _ q⟩
theorem m_ix {K : PySem.W.Frag} : Mo2 (rIxLT K) := fun x y H _ _ h q => q.elim (fun ⟨p, xs, i, v, e1, e2, s, e, q⟩ => .inl ⟨p, xs, i, v, e1, e2, s, e, h _ _ q⟩) fun ⟨p, xs, i, v, e1, e2, s, e, q⟩ => .inr ⟨p, xs, i, v, e1, e2, s, e, h _ _ q⟩
theorem m_in {K : PySem.W.Frag} {n : Bool} : Mo2 (rIn K n) := fun x y H _ _ h ⟨p, xs, e1, s, f1, f2, q⟩ => ⟨p, xs, e1, s, f1, f2, h _ _ q⟩
theorem m_cat : Mo2 rCat := fun x y H _ _ h ⟨l, b, xs, zs, e1, e2, h1, h2, h3, q⟩ => ⟨l, b, xs, zs, e1, e2, h1, h2, h3, fun p hp => h _ _ (q p hp)⟩
theorem m_sadd : Mo2 rSAdd' := fun x y H _ _ h ⟨i, j, e1, e2, h1, q⟩ => ⟨i, j, e1, e2, h1, h _ _ q⟩
theorem m_add : Mo2 (rOr rIAdd (rOr rCat rSAdd')) := m_or m_I0 (m_or m_cat m_sadd)
theorem m_and (h1 : MoT c) (h2 : MoT d) : MoT (tAnd c d) := fun σ H _ _ k q => h1 σ H _ _ (fun b H1 z => by cases b with
  | true => rw [if_pos rfl] at z ⊢; exact h2 σ H1 _ _ k z
  | false => rw [if_neg Bool.false_ne_true] at z ⊢; exact k _ _ z) q
theorem m_int1 : MoC rInt1 := fun x H _ _ h q => q.elim (fun ⟨i, e, q⟩ => .inl ⟨i, e, h _ _ q⟩) fun ⟨i, e, q⟩ => .inr ⟨i, e, h _ _ q⟩
theorem m_abs : MoC rAbs := fun x H _ _ h ⟨i, e, q⟩ => ⟨i, e, h _ _ q⟩
end
end Vw

set_option Elab.async false
set_option linter.all false
set_option maxRecDepth 100000
set_option maxHeartbeats 4000000
namespace Vw
open PySem PySem.Spec PyProof.Rows L2
/-- a set as it is made -/
abbrev so0 (w : World) : Obj := { cls := .type "set", dict := none, data := .set #[] 0 (.fresh 0 0 (!w.params.followText "set-order")) }
abbrev li0 (l : Addr) : Obj := { cls := .type "list_iterator", data := .fields #[.ref l, .int 0 0] }
section
variable {P : Program} {w : World} {A : Around} {E : Value → Shared → Prop} {s : Shared}
/-- what the filling of a new set by a list of ints leaves -/
def Filled (w : World) (s : Shared) (ns : List Int) (s2 : Shared) : Prop := ∃ h' tk c, s2 = { s with heap := h', toks := tk } ∧ SetR w h' s.heap.objs.size (fun j => decide (j ∈ ns)) c ∧ c ≤ ns.length ∧ ∀ b o, s.heap.get? b = some o → h'.get? b = some o
abbrev fillQ (P : Program) (w : World) (A0 : Around) (E : Value → Shared → Prop) (s : Shared) (ns : List Int) : Result → Shared → Prop := wants (fun r s2 => r = Value.none ∧ Filled w s ns s2) E
theorem fill_list {A0 : Around} {l : Addr} {items : Array Value} (ns : List Int) (hh : A.handled = none) (hl : s.heap.IsList l items) (hit : IntsAre items.toList ns) (hb : ns.length + 1 < scanBound) :
    wpAny (model P w) A (Builtin.«set.__init__» ⟨[.ref s.heap.objs.size, .ref l], []⟩) (fun fin s' => match fin with | .done f => fillQ P w A0 E s ns (.ok f) s' | .again c' => c'.quiet = true ∧ codeAny (model P w) A0 c' (fillQ P w A0 E s ns) s') (fun e s' => fillQ P w A0 E s ns (.error e) s') { s with heap := s.heap.push (so0 w) } := by
  have hz : items.size = ns.length := by have q := IntsAre.length hit; rw [Array.length_toList] at q; exact q
  have hS : (s.heap.push (so0 w)).get? s.heap.objs.size = some (so0 w) := Heap.get?_push_size _ rfl
  obtain ⟨ol, hol, hcl, nl, hdl⟩ := hl
  obtain ⟨ocls, odict, odata, oslots⟩ := ol
  simp only at hcl hdl
  subst hcl hdl
  have hol' : (s.heap.push (so0 w)).get? l = some { cls := .type "list", dict := odict, data := .seq items nl, slots := oslots } := Heap.get?_push_of_some _ hol
  have ha := F.sub_list_set; have hf := F.sub_list_frozenset
  have hd : (Value.type "list" == Value.type "dict") = false := by decide
  have hl1 : (s.heap.push (so0 w)).IsList l items := ⟨_, hol', rfl, nl, rfl⟩
  unfold Builtin.«set.__init__» noKeywords Builtin.Frozenset.updateFrom
  generalize hPI : pyIter = PI
  wp_walk
  subst hPI
  refine wpAny_pyIter_list hl1 ?_
  refine (wpAny_bind (wpAny_runValue ?_))
  have hls : l < s.heap.objs.size := Heap.lt_size hol
  have hi0 : A.in1.in1.handled = none := by simp [hh]
  have hsz : (s.heap.push (so0 w)).objs.size = s.heap.objs.size + 1 := Heap.size_push ..
  have hI : l ≠ (s.heap.push (so0 w)).objs.size := by rw [hsz]; exact Nat.ne_of_lt (Nat.lt_succ_of_lt hls)
  have hSf : s.heap.objs.size ∉ [(s.heap.push (so0 w)).objs.size, l] := by
    rw [hsz]; simp only [List.mem_cons, List.not_mem_nil, or_false, not_or]
    exact ⟨Nat.ne_of_lt (Nat.lt_succ_self _), Nat.ne_of_gt hls⟩
  have hval : ∀ (i : Nat) (v : Value), items[i]? = some v → ∃ k t, ns[i]? = some k ∧ v = .int k t := fun i v hv => by
    have hi : i < ns.length := by rw [← hz]; exact (Array.getElem?_eq_some_iff.mp hv).1
    obtain ⟨t, e⟩ := PyProof.Rows.IntsAre.int_at hit i v (by rw [Array.getElem?_toList]; exact hv)
    exact ⟨ns[i], t, List.getElem?_eq_getElem hi, by rw [e, List.getD_eq_getElem?_getD, List.getElem?_eq_getElem hi] <;> rfl⟩
  refine set_update_ints ((Walks.list (by simp [hh]) _ l hI items).toS) s.heap.objs.size hSf ns hz hb hval (items.size - 0) 0 _ (by omega) (Nat.zero_le _) ⟨⟨_, Heap.get?_push_size _ rfl, rfl, rfl⟩, (hl1.push _)⟩ ?h0 ?h1
  case h0 =>
    have hg : ((s.heap.push (so0 w)).push (li0 l)).get? s.heap.objs.size = some (so0 w) := Heap.get?_push_of_some _ hS
    exact ⟨0, Nat.le_refl 0, setR_new_at hg⟩
  case h1 =>
    intro s' c' hm hc' hS'
    obtain ⟨h', g2, d', tk', os'⟩ := s'
    have eg : g2 = s.gens := hm.gens
    have ed : d' = s.drawn := hm.drawn
    have eo : os' = s.os := hm.os
    subst eg ed eo
    show wpAny _ _ _ _ _ _
    refine wpAny_pure ?_
    show wpAny _ _ (ret Value.none) _ _ _
    refine wpAny_pure ⟨rfl, h', tk', c', rfl, hS', by omega, fun b o e => ?_⟩
    have hb0 : b < s.heap.objs.size := Heap.lt_size e
    refine hm.heap b o ?_ (Heap.get?_push_of_some _ (Heap.get?_push_of_some _ e))
    simp only [List.mem_cons, List.not_mem_nil, or_false, not_or]
    exact ⟨Nat.ne_of_lt hb0, by rw [hsz]; exact Nat.ne_of_lt (Nat.lt_succ_of_lt hb0)⟩
theorem set_of_list {l : Addr} {items : Array Value} (ns : List Int) {Q : Value → Shared → Prop} (hh : A.handled = none) (hl : s.heap.IsList l items) (hit : IntsAre items.toList ns) (hb : ns.length + 1 < scanBound)
    (h : ∀ s2, Filled w s ns s2 → Q (.ref s.heap.objs.size) s2) : wpAny (model P w) A (call (.type "set") [.ref l]) Q E s := by
  obtain ⟨c, tl, hmro⟩ := F.called_set.mro
  have hmade := F.called_set.made; have hsub := F.called_set.sub
  refine wpAny_call (codeAny_of_tree (show wpAny _ _ (callAny (.type "set") _) _ _ _ from wpAny_pure ⟨Code.quiet_builtin _ (by decide +kernel), codeAny_builtin F.entry_type_call ?_⟩))
  rw [Around.under_plain (weight_type_call_type "set" [.ref l] []) rfl]
  have h1 := F.called_set.notType; have h2 := F.called_set.canCreate; have h3 := F.typeCall_set_1 (.ref l)
  repeat (any_goals (first | assumption | wp_step))
  refine codeAny_mono (code_set_led1 (.ref l) (E := E) (Q₁ := fun obj s₁ => obj = .ref s.heap.objs.size ∧ s₁ = { s with heap := s.heap.push (so0 w) }) ⟨rfl, rfl⟩) fun r s₁ hr => ?_
  rcases r with e | fl
  · exact hr
  cases fl with
  | ret obj =>
    obtain ⟨rfl, rfl⟩ := hr
    have hS : (s.heap.push (so0 w)).get? s.heap.objs.size = some (so0 w) := Heap.get?_push_size _ rfl
    have hT : Shared.TypeIs { s with heap := s.heap.push (so0 w) } (.ref s.heap.objs.size) "set" := ⟨_, hS, rfl⟩
    have hi1 := F.called_set.init.lookup; have hi2 := F.called_set.init.bind (.ref s.heap.objs.size)
    repeat (any_goals (first | assumption | wp_step))
    refine codeAny_mono (codeAny_call_builtin (R := wants (fun r s2 => r = Value.none ∧ Filled w s ns s2) E) F.called_set.init.plain F.entry_set_init (check_set_init_1 hT (fill_list ns (by first | exact hh | simp [hh]) hl hit hb))) fun r₂ s₂ hr₂ => ?_
    rcases r₂ with e | fl₂
    · exact hr₂
    cases fl₂ with
    | ret r =>
      obtain ⟨rfl, hF⟩ := hr₂
      have hF' := hF
      obtain ⟨h', tk, c, rfl, _⟩ := hF'
      repeat (any_goals (first | assumption | wp_step))
      exact h _ hF
    | _ => exact hr₂.elim
  | _ => exact hr.elim
end
/-- set(xs) of a list of ints -/
def rSetL1 (K : PySem.W.Frag) (w : World) : List V → Hp → VK → Prop := fun xs H Q => ∃ (a : Addr) (ns : List Int), xs = [.ref a] ∧ SqL K H a (ns.map V.int) ∧ ns.length < 4000 ∧
  ∀ (p : Addr) (c : Nat), c ≤ ns.length → H p = none → Q (.ref p) (upd H p (SetO w p (fun j => decide (j ∈ ns)) c))
theorem cSetL {X : Cx} {K : PySem.W.Frag} {w : World} (hc : X.calm = true) (e : X.K = K := by rfl) (ew : X.w = w := by rfl) : CallR X (.type "set") (rSetL1 K w) := by
  cases e; cases ew
  intro pins s σ H xs us Q I r h
  obtain ⟨a, ns, rfl, hq, hl, q⟩ := h
  rw [Vals.ref1 r]
  obtain ⟨its, rv, p, hz⟩ := I.list hq
  refine set_of_list ns (I.ok.hd hc) p.isList (ints_of_vals rv) (by unfold scanBound; omega) fun s2 hF => ?_
  obtain ⟨h', tk, c, rfl, R, hcn, kp⟩ := hF
  exact ⟨.ref _, upd H s.heap.objs.size (SetO X.w s.heap.objs.size (fun j => decide (j ∈ ns)) c), I.laid (t' := tk) kp (Nat.le_refl _) (setO_new R), rfl, q _ c hcn (I.hok.fresh (Nat.le_refl _))⟩
def rSortSet (w : World) : List V → Hp → VK → Prop := fun vs H Q => ∃ (a : Addr) (S : Int → Bool) (n : Nat), vs = [V.ref a] ∧ H a = some (SetO w a S n) ∧ n < 64 ∧
  ∀ (ns : List Int) (p : Addr), ns.Pairwise (· < ·) → (∀ k : Int, k ∈ ns ↔ S k = true) → ns.length = n → H p = none → Q (.ref p) (upd H p (.lst (ns.map V.int)))
theorem cSortSet {X : Cx} {w : World} (hc : X.calm = true) (ew : X.w = w := by rfl) : CallR X (.builtin "sorted") (rSortSet w) := by cases ew; exact cr_sortedSet hc
theorem c_setL {K : PySem.W.Frag} {w : World} {H : Hp} {Q : VK} {a : Addr} {ns : List Int} (s : SqL K H a (ns.map V.int)) (hl : ns.length < 4000) (q : ∀ p c H2, c ≤ ns.length → H p = none → Same H H2 → H2 p = some (SetO w p (fun j => decide (j ∈ ns)) c) → Q (.ref p) H2) : rSetL1 K w [.ref a] H Q :=
  ⟨a, ns, rfl, s, hl, fun p c hc hp => q p c _ hc hp (Same.new hp) upd_same⟩
theorem c_sortS {w : World} {H : Hp} {Q : VK} {a : Addr} {S : Int → Bool} {n : Nat} (h : H a = some (SetO w a S n)) (hn : n < 64) (q : ∀ (ns : List Int) p H2, ns.Pairwise (· < ·) → (∀ k : Int, k ∈ ns ↔ S k = true) → ns.length = n → H p = none → Same H H2 → H2 p = some (.lst (ns.map V.int)) → Q (.ref p) H2) : rSortSet w [.ref a] H Q :=
  ⟨a, S, n, rfl, h, hn, fun ns p h1 h2 h3 hp => q ns p _ h1 h2 h3 hp (Same.new hp) upd_same⟩
end Vw

set_option Elab.async false
set_option linter.all false
set_option maxRecDepth 100000
set_option maxHeartbeats 4000000
namespace Vw
open PySem PySem.Spec PyProof.Rows L2
/-! ### a name gets a dict comprehension -/
section
variable {X : Cx}
abbrev BlkAll (X : Cx) (scope : Scope) (F : Cx → Prop) : Prop := ∀ (s : Shared) (H : Hp) (C : Addr) (cl : List (Str × Addr)) (fp : List Addr), F (X.blk s H scope (compEnvC scope cl C X.env) fp)
theorem swD_true {kx vx : Expr} {gs : List Comprehension} {scope : Scope} {pos py : Pos} {y : Str} {l : Nat} {env : Env} (h1 : env.scope.kind = .function) (h2 : env.scope.names.lookup y = some .local) (h3 : (py.line == pos.line) = true)
    (h4 : (scope.names.any fun (n, k) => n == y && (k == .local || k == .cell)) = false) : swapsWith (.DictComp kx vx gs scope pos) (some (.Name y py)) l env = pure true := by
  have e1 : env.kindOf y = some .local := h2
  have e2 : env.blockKind = .function := by unfold Env.blockKind; rw [h1]; rfl
  unfold swapsWith
  simp only [e2, e1, h4, Expr.pos, h3]; rfl
theorem ps_setDc {i : Nat} {y : Str} {py : Pos} {kx vx tg iter : Expr} {ifs : List Expr} {scope : Scope} {own : List (Str × Nat)} {pos spos : Pos} {wi : TI} {g : TG} {tt : TT} {tk tv : TE} (hc : X.calm = true) (hN : X.N.Nodup) (hy : X.N[i]? = some y) (hyl : X.env.scope.names.lookup y = some .local)
    (hsw : swapsWith (.DictComp kx vx [⟨tg, iter, ifs, 0⟩] scope pos) (some (.Name y py)) spos.line X.env = pure true) (hi : PI X tg iter wi) (ok : BlkOk X.N X.env.scope scope own) (hg : BlkAll X scope fun Y => PG Y tg g) (ht : BlkAll X scope fun Y => PTs Y ifs tt)
    (hk : BlkAll X scope fun Y => PE Y kx tk) (he : BlkAll X scope fun Y => PE Y vx tv) (hs : ∀ x, foldedSetIterable iter X.env x = pure x := by intro _; rfl) : PS X (.Assign [.Name y py] (.DictComp kx vx [⟨tg, iter, ifs, 0⟩] scope pos) spos) (tAsg (tDc wi g tt tk tv (own.map (·.2))) (gName i)) := by
  refine ⟨fun pins s σ H D I h => ?_⟩
  rw [exec_Assign_Name_used _ _ _ _ hsw]
  refine wpAny_bind (wpAny_standAt (wpAny_bind ?_))
  show wpAny _ X.A (do let _ ← comprehension (.DictComp kx vx [⟨tg, iter, ifs, 0⟩] scope pos) scope X.env (firstIterPos [⟨tg, iter, ifs, 0⟩] pos) newDict false (eval iter X.env) (some (assign (.Name y py) X.env))) _ _ s
  have h2 : tDc wi g tt tk tv (own.map (·.2)) σ H (fun x H1 => gName i x σ H1 D.nx) := h
  refine wpAny_bind (thn (dc_core (Qf := fun _ s' => SP X pins D .next s') hc hN I hi ok hg ht hk he hs h2 fun L C s' m H' I' q hn f => ?_) fun _ s' hq => wpAny_pure (wpAny_pure hq))
  show wpAny _ _ (assign (.Name y py) X.env (.ref L)) _ _ _
  refine wpAny_assign_Name (store_ok2 (v := V.ref L) I' hN hy (.inl hyl) rfl (fun s2 I2 ⟨a, sb, ha⟩ => ?_) (.inr hyl))
  obtain ⟨f0, f1, f2, f3, f4, f5⟩ := f
  have hne : C ≠ a := ha.elim (fun z => z ▸ f1) fun z e => f4 y a z e.symm
  exact ⟨m, hn.sameBut sb hne, fun h3 sb3 => ⟨_, H', I2.turned (t' := s2.toks) (fun b o hb e => (sb3.2 b hb).trans e) f0 f1 f3 f4 f5, q⟩⟩
end
end Vw

set_option Elab.async false
set_option linter.all false
set_option maxRecDepth 100000
set_option maxHeartbeats 4000000
namespace Vw
open PySem PySem.Spec PyProof.Rows L2 HT
/-! ### t[::-1] of a tuple -/
section
variable {prog : Program} {w : World} {A : Around} {E : Value → Shared → Prop} {s : Shared}
theorem backAdjust (n : Nat) : Builtin.Slice.sliceAdjust none none (-1) (n : Int) = ((n : Int) - 1, -1) := by
  unfold Builtin.Slice.sliceAdjust
  rfl
theorem backPlaces (n : Nat) : Builtin.Slice.slicePlaces ((n : Int) - 1) (-1) (-1) = n := by
  unfold Builtin.Slice.slicePlaces
  have h1 : ¬ ((-1 : Int) > 0) := by decide
  simp only [h1, if_false]
  have e : ((n : Int) - 1 - -1 - 1) / (- -1) = (n : Int) - 1 := by
    rw [show (- -1 : Int) = 1 by decide, Int.ediv_one]
    omega
  split
  · rw [e]; omega
  · omega
theorem sliceApplied_back {sl : Addr} {vs : Value} {n : Nat} {Q : Int × Int × Nat → Shared → Prop} (hs : s.heap.IsSliceOf sl .none .none vs) (ps : IsPart vs (some (-1)))
    (h : Q (((n : Int) - 1), -1, n) s) : wpAny (model prog w) A (Builtin.Slice.sliceApplied (.ref sl) (pure (n : Int))) Q E s := by
  obtain ⟨os, hos, hcs, hds⟩ := id hs
  unfold Builtin.Slice.sliceApplied Builtin.Slice.sliceFields
  refine wpAny_bind (wpAny_bind (wpAny_field hos hds (x := .none) rfl (wpAny_bind (wpAny_field hos hds (x := .none) rfl (wpAny_bind (wpAny_field hos hds (x := vs) rfl (wpAny_pure ?_)))))))
  refine wpAny_bind (slicePart_ ps ?_)
  show wpAny _ _ (if ((-1 : Int) == 0) = true then _ else _) _ _ s
  rw [if_neg (by decide)]
  refine wpAny_bind (slicePart_none (wpAny_bind (slicePart_none (wpAny_bind (wpAny_pure ?_)))))
  show wpAny _ _ (match Builtin.Slice.sliceAdjust none none (-1) (n : Int) with | (lo, hi) => pure (lo, (-1 : Int), Builtin.Slice.slicePlaces lo hi (-1))) _ _ s
  rw [backAdjust n]
  show wpAny _ _ (pure (((n : Int) - 1), (-1 : Int), Builtin.Slice.slicePlaces ((n : Int) - 1) (-1) (-1))) _ _ s
  rw [backPlaces]
  exact wpAny_pure h
theorem pick_back (xs : Array Value) : ((List.range xs.size).filterMap fun (m : Nat) => xs[((xs.size : Int) - 1 + (m : Int) * (-1)).toNat]?).toArray = xs.toList.reverse.toArray := by
  have e : (List.range xs.size).filterMap (fun (m : Nat) => xs[((xs.size : Int) - 1 + (m : Int) * (-1)).toNat]?) = ((List.range xs.size).map fun k => xs.size - 1 - k).filterMap (xs[·]?) := by
    have e2 : (List.range xs.size).map (fun k => xs.size - 1 - k) = (List.range xs.size).map fun (m : Nat) => ((xs.size : Int) - 1 + (m : Int) * (-1)).toNat := by
      apply List.map_congr_left
      intro m hm
      have := List.mem_range.mp hm
      omega
    rw [e2, List.filterMap_map]
    rfl
  rw [e, PySem.W.krv_range, List.filterMap_reverse, PySem.W.krv_all]
theorem getItem_tuple_back {t sl : Addr} {items : Array Value} {vs : Value} {Q : Value → Shared → Prop} (ht : IsTup s.heap t items) (hs : s.heap.IsSliceOf sl .none .none vs) (ps : IsPart vs (some (-1)))
    (h : Q (.ref s.heap.objs.size) { s with heap := s.heap.push { cls := .type "tuple", data := .seq items.toList.reverse.toArray } })
    (hsz : items.size ≤ sizeLine) : wpAny (model prog w) A (getItem (.ref t) (.ref sl)) Q E s := by
  have htake : sizeOk (.seq items.toList.reverse.toArray) := by
    show items.toList.reverse.toArray.size ≤ sizeLine
    rw [List.size_toArray, List.length_reverse, Array.length_toList]
    exact hsz
  obtain ⟨os, hos, hcs, hds⟩ := id hs
  have hTs : s.TypeIs (.ref sl) "slice" := ⟨os, hos, hcs⟩
  unfold getItem
  try with_reducible refine wpAny_holding ?_
  first | refine wpAny_bind (wpAny_pure ?_) | skip
  refine wpAny_bind (wpAny_sequenceKey ht.typeIs (by decide) ?_)
  refine wpAny_bind (wpAny_callSpecial?_slot (name := Str.ofString "__getitem__") ht.typeIs PyProof.Rows.slot_tuple_getitem
    (wpAny_call_entry PyProof.Rows.slot_tuple_getitem ht.typeIs entry_tuple_getitem ?_ (args_tuple_getitem _ _)))
  show wpAny _ _ (Builtin.Tuple.tupleItemsOf (.ref t) >>= _) _ _ s
  refine wpAny_bind (tupleItemsOf_ ht ?_)
  refine wpAny_bind (wpAny_typeOf hTs ?_)
  rw [if_pos (by decide)]
  refine wpAny_bind (sliceApplied_back hs ps ?_)
  have hno : ¬ ((((items.size : Int) - 1) == 0 && (-1 : Int) == 1 && items.size == items.size) = true) := by
    intro q
    rw [Bool.and_eq_true, Bool.and_eq_true] at q
    exact absurd q.1.2 (by decide)
  show wpAny _ _ (if (((items.size : Int) - 1) == 0 && (-1 : Int) == 1 && items.size == items.size) = true then _ else _) _ _ s
  rw [if_neg hno, pick_back]
  first
    | exact wpAny_bind (m := Builtin.Tuple.tupleExact _) (wpAny_newObj_type (wpAny_pure ⟨_, rfl, wpAny_pure h⟩) htake)
    | exact wpAny_bind (m := Builtin.Tuple.tupleExact _) (wpAny_newObj_type (wpAny_bind (wpAny_pure (wpAny_pure ⟨_, rfl, wpAny_pure h⟩))) htake)
    | exact wpAny_bind (wpAny_bind (m := Builtin.Tuple.tupleExact _) (wpAny_newObj_type (wpAny_pure (wpAny_pure ⟨_, rfl, wpAny_pure h⟩)) htake))
    | exact wpAny_bind (wpAny_bind (m := Builtin.Tuple.tupleExact _) (wpAny_newObj_type (wpAny_pure ⟨_, rfl, wpAny_pure h⟩) htake))
end
section
variable {X : Cx}
def tRevT (K : PySem.W.Frag) (te : TE) : TE := fun σ H Q => te σ H fun x H1 => ∃ a xs, x = .ref a ∧ SqT K H1 a xs ∧ ∀ p, H1 p = none → Q (.ref p) (upd H1 p (.tup xs.reverse))
theorem pe_revT {K : PySem.W.Frag} {e : Expr} {te : TE} {k : Nat} {p1 p2 p3 pos : Pos} (he : PE X e te) (eK : X.K = K := by rfl) : PE X (.Subscript e (.Slice none none (some (.UnaryOp .USub (.Constant (.int 1) k p1) p2)) p3) pos) (tRevT K te) := by
  cases eK
  refine ⟨fun pins s σ H Q I h => ?_⟩
  refine Subscript_ (thn (he.run pins s σ H _ I h) fun v s1 ⟨x, H1, I1, r1, q1⟩ => ?_)
  obtain ⟨a, xs, ex, hx, q⟩ := q1
  subst ex
  cases r1
  have hst : PO X (some (.UnaryOp .USub (.Constant (.int 1) k p1) p2)) (tPart (tUn (rU fun i => .int (-i)) (tC (.int 1)))) := po_some (pe_un un_neg pe_int)
  refine wpAny_Slice (thn (po_none.run pins s1 σ H1 (fun o H2 => o = none ∧ H2 = H1) I1 ⟨rfl, rfl⟩) fun vl s2 ⟨l, H2, I2, pl, el, e2⟩ => ?_)
  subst el e2
  cases pl
  refine thn (po_none.run pins s2 σ H2 (fun o H3 => o = none ∧ H3 = H2) I2 ⟨rfl, rfl⟩) fun vu s3 ⟨u, H3, I3, pu, eu, e3⟩ => ?_
  subst eu e3
  cases pu
  refine thn (hst.run pins s3 σ H3 (fun o H4 => o = some (-1) ∧ H4 = H3) I3 ⟨1, rfl, -1, rfl, rfl, rfl⟩) fun vs s4 ⟨o, H4, I4, ps, eo, e4⟩ => ?_
  subst eo e4
  have I5 : Inv X pins σ H4 { s4 with heap := s4.heap.push { cls := .type "slice", data := .fields #[.none, .none, vs] } } := I4.kept (t' := s4.toks) fun b ob q => Heap.get?_push_of_some _ q
  obtain ⟨its, r, ht, hz⟩ := I5.tuple hx
  have hlen := r.length
  show wpAny (model X.prog X.w) X.A (subscriptTail e (.Slice none none (some (.UnaryOp .USub (.Constant (.int 1) k p1) p2)) p3) (.ref a) (.ref s4.heap.objs.size)) (EP X pins σ Q) X.xe { s4 with heap := s4.heap.push { cls := .type "slice", data := .fields #[.none, .none, vs] } }
  refine tail_any (ops := [.ref a, .ref s4.heap.objs.size]) ht.typeIs (PyProof.Rows.slot_tuple_getitem.lookup) ?_ (by with_unfolding_all rfl)
  refine getItem_tuple_back ht (Heap.IsSliceOf.new _ .none .none vs) ps ?_ (by rw [List.size_toArray]; omega)
  refine ⟨.ref _, _, I5.laid (t' := s4.toks) (o := .tup xs.reverse) (fun b ob q => Heap.get?_push_of_some _ q) (Nat.le_refl _) ?_, rfl, q _ (I5.hok.fresh (Nat.le_refl _))⟩
  exact ⟨by rw [List.length_reverse]; exact hz, _, r.reverse, IsTup.new _ _⟩
end
end Vw

set_option Elab.async false
set_option linter.all false
set_option maxRecDepth 100000
set_option maxHeartbeats 4000000
namespace Vw
open PySem PySem.Spec PyProof.Rows L2 RT
/-! ### more rules under one name -/
section
variable {X : Cx} {K : PySem.W.Frag}
theorem oAddT (e : X.K = K := by rfl) : OpR X (binaryOp .Add) (rOr rIAdd (rOr rCat (rCatA K))) := by cases e; exact oOr op_add (oOr op_cat op_catA)
theorem slA (e : X.K = K := by rfl) : SlR X (rSlA K) := by cases e; exact sl_tupA
def rLenD : List V → Hp → VK → Prop := fun xs H Q => ∃ a kvs, xs = [V.ref a] ∧ H a = some (.dK kvs) ∧ Q (.int kvs.length) H
theorem cLenD : CallR X (.builtin "len") rLenD := call_lenD
theorem piZip {e e2 : Expr} {ta : TA} {p pos tpos : Pos} {elts : List Expr} {kk : Nat} (hg : Gl X "zip") (hm : X.mg "zip" = none) (ha : PA X [e, e2] ta) (eK : X.K = K := by rfl)
    (hs : starEach [e, e2] X.env = (false, eval e X.env) :: starEach [e2] X.env := by rfl) (hb : ((backTo pos (starEach [e2] X.env)).any fun x => x.fst) = false := by rfl) :
    PI X (.Tuple elts kk tpos) (.Call (.Name "zip" p) [e, e2] [] pos) (iZip K ta) := by cases eK; exact pi_zip hg hm ha hs hb
/-- over a list or a tuple -/
def iOr (w1 w2 : TI) : TI := fun σ H R => w1 σ H R ∨ w2 σ H R
theorem piOr {tg l : Expr} {w1 w2 : TI} (h1 : PI X tg l w1) (h2 : PI X tg l w2) : PI X tg l (iOr w1 w2) := ⟨fun pins s σ H R I h => h.elim (h1.run pins s σ H R I) (h2.run pins s σ H R I)⟩
theorem piX {tg l : Expr} {tl : TE} (hl : PE X l tl) (e : X.K = K := by rfl) : PI X tg l (iOr (iList K tl) (iTup K tl)) := piOr (piL (K := K) hl e) (piT (K := K) hl e)
end
section
variable {K : PySem.W.Frag} {σ : L2.St} {H H1 : Hp} {Q : VK} {R : It → Hp → Prop} {i : Nat} {a : Addr} {xs : List V}
theorem i_orX {H0 : Hp} (hv : σ[i]? = some (some (.ref a))) (s : SqX K H0 a xs) (ss : Same H0 H) (h : ∀ J G, (∀ H', Same H0 H' → G H') → Walk J xs.length G (fun i H x H' => H' = H ∧ xs[i]? = some x) → R J H) : iOr (iList K (tVar i)) (iTup K (tVar i)) σ H R :=
  s.elim (fun s => .inl ⟨.ref a, hv, a, rfl, ⟨xs, sl_ ss s⟩, h _ _ (fun H' q => sl_ q s) walk_list⟩) fun s => .inr ⟨.ref a, hv, a, rfl, ⟨xs, st_ ss s⟩, h _ _ (fun H' q => st_ q s) walk_tup⟩
def ZpQ (K : PySem.W.Frag) (R : It → Hp → Prop) (vs : List V) (H1 : Hp) : Prop := ∃ a b xs ys, vs = [V.ref a, V.ref b] ∧ SqL K H1 a xs ∧ SqL K H1 b ys ∧ R (Itz K a b) H1
theorem i_zip0 {ta : TA} (h : ta σ H fun vs H1 => ZpQ K R vs H1) : iZip K ta σ H R := h
theorem i_zip {b : Addr} {ys : List V} (h1 : SqL K H a xs) (h2 : SqL K H b ys) (q : R (Itz K a b) H) : ZpQ K R [.ref a, .ref b] H := ⟨a, b, xs, ys, rfl, h1, h2, q⟩
theorem e_lenD {kvs : List (Key × V)} (h : H a = some (.dK kvs)) (q : Q (.int (kvs.length : Nat)) H) : rLenD [.ref a] H Q := ⟨a, kvs, rfl, h, q⟩
theorem o_catA {r r' : R2} {b : Addr} {ys : List V} (h1 : SqT K H a xs) (h2 : SqT K H b ys) (hl : xs.length + ys.length ≤ 100000) (q : ∀ p H2, Same H H2 → SqT K H2 p (xs ++ ys) → Q (.ref p) H2) : rOr r (rOr r' (rCatA K)) (.ref a) (.ref b) H Q := by
  refine .inr (.inr ⟨a, b, xs, ys, rfl, rfl, h1, h2, Nat.le_trans hl (by decide), fun e => ?_, fun _ e => ?_, fun _ _ p n => ?_⟩)
  · subst e; exact q b H (Same.refl _) h2
  · subst e; exact q a H (Same.refl _) (by rw [List.append_nil]; exact h1)
  · exact q p _ (Same.new n) (stO upd_same)
theorem r_slA {lo hi : Option Int} (h1 : SqT K H a xs) (q : ∀ p H2 ys, Same H H2 → SqT K H2 p ys → ys.length ≤ xs.length → (∀ y ∈ ys, y ∈ xs) → Q (.ref p) H2) : rSlA K (.ref a) lo hi H Q := by
  refine ⟨a, xs, rfl, h1, fun _ => q a H xs (Same.refl _) h1 (Nat.le_refl _) fun _ h => h, fun _ p n => q p _ _ (Same.new n) (stO upd_same) ?_ ?_⟩
  · exact cutV_length xs lo hi
  · have key : ∀ a b : Nat, ∀ y ∈ (xs.drop a).take b, y ∈ xs := fun a b y hy => List.mem_of_mem_drop (List.mem_of_mem_take hy)
    exact key _ _
theorem e_revT {te : TE} (h : te σ H fun x H1 => ∃ a xs, x = .ref a ∧ SqT K H1 a xs ∧ NewQ (.tup xs.reverse) H1 Q) : tRevT K te σ H Q := h
theorem r_revT {Q : VK} (s : SqT K H a xs) (q : NewQ (.tup xs.reverse) H Q) : ∃ a' xs, V.ref a = .ref a' ∧ SqT K H a' xs ∧ NewQ (.tup xs.reverse) H Q := ⟨a, xs, rfl, s, q⟩
theorem isB_bl {x y : Bool} (q : Q (.bl (decide (x = y))) H) : rIsB (.bl x) (.bl y) H Q := ⟨x, y, rfl, rfl, q⟩
theorem notB_bl {x y : Bool} (q : Q (.bl (!decide (x = y))) H) : rNotB (.bl x) (.bl y) H Q := ⟨x, y, rfl, rfl, q⟩
theorem o_neB {r' : R2} {x y : Bool} (q : Q (.bl (!decide (x = y))) H) : rOr rNe r' (.bl x) (.bl y) H Q := .inl ⟨rfl, by
  have e : (!decide (V.bl x = V.bl y)) = !decide (x = y) := by
    cases x <;> cases y <;> rfl
  rw [e]; exact q⟩
theorem isi_dk {kvs : List (Key × V)} {n : String} (b : Bool) (h : H a = some (.dK kvs)) (e : kitB "dict" n = some b) (q : Q (.bl b) H) : rIsi K [.ref a, .ty n] H Q := isi_ (.base (.dK h)) e q
theorem e_dnew (q : ∀ p H2, H p = none → Same H H2 → H2 p = some (.dK []) → Q (.ref p) H2) : tDNewK σ H Q := fun p n => q p _ n (Same.new n) upd_same
theorem e_disp1 {i j : Int} (q : ∀ p H2, H p = none → Same H H2 → H2 p = some (.dK [(Sum.inl i, .int j)]) → Q (.ref p) H2) : tDisp [(tC (.int i), tC (.int j))] σ H Q := fun p n =>
  ⟨upd_same, [(Sum.inl i, .int j)], rfl, by show 1 ≤ 15; decide, q p _ n (upd_free (Same.new n) n) upd_same⟩
theorem i_nrr {r : Bool} {A B : Prop} (q : B) : if (!decide (r = r)) = true then A else B := by
  rw [show (!decide (r = r)) = false by simp]
  exact iteF q
end
end Vw

set_option Elab.async false
set_option linter.all false
set_option maxRecDepth 100000
set_option maxHeartbeats 4000000
namespace Vw
open PySem PySem.Spec PyProof.Rows L2 RT
local macro_rules | `(tactic| walk_at "s") => `(tactic| with_reducible first
  | refine' s_seq ?_ | refine' s_next ?_ | refine' s_set ?_ | refine' s_ret ?_ | refine' s_retN ?_ | refine' s_drop ?_ | refine' s_if ?_ | refine' s_ipI ?_
  | refine' e_c ?_ | refine' e_op ?_ | refine' e_un ?_ | refine' e_neg ?_ | refine' e_test ?_ | refine' e_tB ?_ | refine' e_bl ?_ | refine' e_and ?_ | refine' e_or ?_ | refine' e_not ?_
  | refine' e_andV ?_ | refine' e_orV ?_ | refine' e_notV ?_ | refine' e_kV ?_ | refine' e_ife ?_ | refine' e_nil ?_ | refine' e_cons ?_ | refine' e_cb ?_ | refine' e_call ?_ | refine' e_chain ?_
  | refine' o_addI ?_ | refine' o_eqI ?_ | refine' o_neI ?_ | refine' o_I0 ?_ | refine' o_pow16 ?_ | refine' o_pow17 ?_ | refine' o_pow18 ?_ | refine' o_pow19 ?_ | refine' o_pow30 ?_ | refine' o_pow31 ?_ | refine' o_pow1 ?_ | refine' o_pow2 ?_ | refine' o_pow3 ?_ | refine' o_pow4 ?_ | refine' o_pow5 ?_ | refine' o_pow6 ?_ | refine' o_pow9 ?_ | refine' o_pow10 ?_ | refine' o_pow12 ?_ | refine' o_pow15 ?_ | refine' o_pow20 ?_ | refine' e_lst ?_ | refine' e_tup ?_ | refine' iteT ?_ | refine' i_nt ?_ | refine' i_nf ?_ | refine' iteF ?_ | refine' c_int ?_ | refine' c_abs ?_ | refine' c_min2 ?_ | refine' c_max2 ?_ | refine' e_tru ?_ | refine' t_bl ?_ | refine' t_non ?_ | refine' t_int ?_ | refine' isN_non ?_ | refine' isN_int ?_ | refine' isN_ref ?_ | refine' isN_str ?_ | refine' isN_bl ?_ | refine' noN_non ?_ | refine' noN_int ?_ | refine' noN_ref ?_ | refine' noN_str ?_ | refine' noN_bl ?_
  | refine' s_brk ?_ | refine' s_cont ?_ | refine' s_for ?_ | refine' e_lc ?_ | refine' e_dc ?_ | refine' e_yes ?_ | refine' i_rng1 ?_ | refine' i_lst0 ?_ | refine' i_tup0 ?_ | refine' e_bm ?_ | refine' e_sl ?_ | refine' e_np ?_ | refine' e_pt ?_ | refine' e_ptI ?_ | refine' e_din ?_ | refine' i_enum0 ?_ | refine' i_rev0 ?_ | refine' g_sub ?_ | refine' s_asg ?_)
local macro_rules | `(tactic| walk_at "v") => `(tactic| ((with_reducible refine' e_var ?hv ?_); (case hv => exact rfl)))
local macro_rules | `(tactic| walk_at "a") => `(tactic| ((with_reducible refine' s_aug ?hv ?_); (case hv => exact rfl)))
local macro_rules | `(tactic| walk_at "m") => `(tactic| first
  | ((with_reducible refine' o_mod ?hv ?_); (case hv => first | decide | omega))
  | ((with_reducible refine' o_mulR ?hv ?_); (case hv => omega))
  | ((with_reducible refine' o_mulL ?hv ?_); (case hv => omega))
  | ((with_reducible refine' o_div ?hv ?hw ?_); (case hv => omega); (case hw => omega))
  | ((with_reducible refine' o_pow _ ?hv ?hw ?hx ?_); (case hv => exact rfl); (case hw => decide); (case hx => decide)))
local macro_rules | `(tactic| walk_at "i") => `(tactic| (first
  | ((with_reducible refine' isi_int true ?hv ?_); (case hv => exact (by decide +kernel)))
  | ((with_reducible refine' isi_int false ?hv ?_); (case hv => exact (by decide +kernel)))
  | ((with_reducible refine' isi_non true ?hv ?_); (case hv => exact (by decide +kernel)))
  | ((with_reducible refine' isi_non false ?hv ?_); (case hv => exact (by decide +kernel)))
  | ((with_reducible refine' isi_str true ?hv ?_); (case hv => exact (by decide +kernel)))
  | ((with_reducible refine' isi_str false ?hv ?_); (case hv => exact (by decide +kernel)))
  | ((with_reducible refine' isi_bl true ?hv ?_); (case hv => exact (by decide +kernel)))
  | ((with_reducible refine' isi_bl false ?hv ?_); (case hv => exact (by decide +kernel)))
  | ((with_reducible refine' isi_t true ?hw ?hv ?_); (case hw => assumption); (case hv => exact (by decide +kernel)))
  | ((with_reducible refine' isi_t false ?hw ?hv ?_); (case hw => assumption); (case hv => exact (by decide +kernel)))
  | ((with_reducible refine' isi_l true ?hw ?hv ?_); (case hw => assumption); (case hv => exact (by decide +kernel)))
  | ((with_reducible refine' isi_l false ?hw ?hv ?_); (case hw => assumption); (case hv => exact (by decide +kernel)))
  | ((with_reducible refine' isi_tup true ?hw ?hv ?_); (case hw => assumption); (case hv => exact (by decide +kernel)))
  | ((with_reducible refine' isi_tup false ?hw ?hv ?_); (case hw => assumption); (case hv => exact (by decide +kernel)))
  | ((with_reducible refine' isi_lst true ?hw ?hv ?_); (case hw => assumption); (case hv => exact (by decide +kernel)))
  | ((with_reducible refine' isi_lst false ?hw ?hv ?_); (case hw => assumption); (case hv => exact (by decide +kernel)))))
local macro_rules | `(tactic| walk_at "om") => `(tactic| first | omega | (simp only [List.length_cons, List.length_nil, List.length_map, List.length_append, List.length_range]; omega))
local macro_rules | `(tactic| walk_at "d") => `(tactic| (first
  | ((with_reducible refine' i_dt ?hv ?_); (case hv => walk_at "om"))
  | ((with_reducible refine' i_df ?hv ?_); (case hv => walk_at "om"))
  | ((with_reducible refine' i_ndt ?hv ?_); (case hv => walk_at "om"))
  | ((with_reducible refine' i_ndf ?hv ?_); (case hv => walk_at "om"))))
local macro_rules | `(tactic| walk_at "x") => `(tactic| first
  | ((with_reducible refine' o_ixA ?hv ?hw ?_); (case hv => assumption); (case hw => exact rfl))
  | ((with_reducible refine' o_ixU ?hv ?hw ?_); (case hv => assumption); (case hw => exact rfl))
  | ((with_reducible refine' o_ixL ?hv ?hw ?_); (case hv => assumption); (case hw => exact rfl))
  | ((with_reducible refine' o_ixT ?hv ?hw ?_); (case hv => assumption); (case hw => exact rfl))
  | ((with_reducible refine' set_ ?hv ?hw ?_); (case hv => assumption); (case hw => exact rfl))
  | ((with_reducible refine' e_lenM ?hv ?_); (case hv => first | assumption | exact slO (by assumption)))
  | ((with_reducible refine' e_lenN ?hv ?_); (case hv => first | assumption | exact stO (by assumption)))
  | ((with_reducible refine' e_lenL ?hv ?_); (case hv => first | assumption | exact slO (by assumption)))
  | ((with_reducible refine' e_lenT ?hv ?_); (case hv => first | assumption | exact stO (by assumption))))
local macro_rules | `(tactic| walk_at "c") => `(tactic| first
  | ((with_reducible refine' c_listL ?hv ?_); (case hv => assumption))
  | ((with_reducible refine' c_listT ?hv ?_); (case hv => assumption))
  | ((with_reducible refine' c_tupL ?hv ?_); (case hv => first | assumption | exact slO (by assumption)))
  | ((with_reducible refine' c_tupT ?hv ?_); (case hv => assumption))
  | ((with_reducible refine' t_lst ?hv ?_); (case hv => first | assumption | exact slO (by assumption)))
  | ((with_reducible refine' t_tup ?hv ?_); (case hv => assumption))
  | ((with_reducible refine' r_sl ?hv ?_); (case hv => first | assumption | exact slO (by assumption)))
  | ((with_reducible refine' o_inL ?hv ?_); (case hv => first | assumption | exact slO (by assumption)))
  | ((with_reducible refine' o_inT ?hv ?_); (case hv => first | assumption | exact stO (by assumption)))
  | ((with_reducible refine' o_niL ?hv ?_); (case hv => first | assumption | exact slO (by assumption)))
  | ((with_reducible refine' o_niT ?hv ?_); (case hv => first | assumption | exact stO (by assumption)))
  | ((with_reducible refine' ty_lst ?hv ?_); (case hv => assumption)))
local macro_rules | `(tactic| walk_at "mo") => `(tactic| repeat' (first | exact m_yes | exact m_var | exact m_c | exact m_I0 | exact m_I | exact m_ix | exact m_add | exact m_in | exact m_int1 | exact m_abs | exact m_nil | refine' m_and ?_ ?_ | refine' m_test ?_ | refine' m_tB ?_ | refine' m_op ?_ ?_ ?_ | refine' m_cons ?_ ?_ | refine' m_cb ?_ ?_))
local macro_rules | `(tactic| walk_at "go") => `(tactic| repeat' (first | walk_at "s" | walk_at "v" | walk_at "a" | walk_at "x" | walk_at "m" | walk_at "c" | walk_at "i" | walk_at "d"))

def topS (i : Nat) : Stmt := PySem.Challenge.pw_wholeways_k42_whole_lots_that_are_enough.main.body.getD i (.Pass ⟨0, 0, 0, 0⟩)
abbrev s_StoreError_init : Stmt := (inClass (topS 1) 0)
abbrev n_StoreError_init : List Str := ["self"]
theorem sc_StoreError_init : FnScope n_StoreError_init ["self"] (defScope s_StoreError_init) := ⟨rfl, rfl, rfl, by decide +kernel, rfl, by decide +kernel, by decide +kernel⟩
abbrev s_NoVersions_init : Stmt := (inClass (topS 4) 0)
abbrev n_NoVersions_init : List Str := ["self", "index"]
theorem sc_NoVersions_init : FnScope n_NoVersions_init ["self", "index"] (defScope s_NoVersions_init) := ⟨rfl, rfl, rfl, by decide +kernel, rfl, by decide +kernel, by decide +kernel⟩
abbrev s_is_integer : Stmt := (topS 8)
abbrev n_is_integer : List Str := ["thing"]
theorem sc_is_integer : FnScope n_is_integer ["thing"] (defScope s_is_integer) := ⟨rfl, rfl, rfl, by decide +kernel, rfl, by decide +kernel, by decide +kernel⟩
abbrev s_is_within : Stmt := (topS 9)
abbrev n_is_within : List Str := ["thing", "low", "high"]
theorem sc_is_within : FnScope n_is_within ["thing", "low", "high"] (defScope s_is_within) := ⟨rfl, rfl, rfl, by decide +kernel, rfl, by decide +kernel, by decide +kernel⟩
abbrev s_is_number : Stmt := (topS 10)
abbrev n_is_number : List Str := ["thing"]
theorem sc_is_number : FnScope n_is_number ["thing"] (defScope s_is_number) := ⟨rfl, rfl, rfl, by decide +kernel, rfl, by decide +kernel, by decide +kernel⟩
abbrev s_is_worth : Stmt := (topS 11)
abbrev n_is_worth : List Str := ["thing"]
theorem sc_is_worth : FnScope n_is_worth ["thing"] (defScope s_is_worth) := ⟨rfl, rfl, rfl, by decide +kernel, rfl, by decide +kernel, by decide +kernel⟩
abbrev s_is_mark : Stmt := (topS 12)
abbrev n_is_mark : List Str := ["thing"]
theorem sc_is_mark : FnScope n_is_mark ["thing"] (defScope s_is_mark) := ⟨rfl, rfl, rfl, by decide +kernel, rfl, by decide +kernel, by decide +kernel⟩
abbrev s_is_ascending : Stmt := (topS 13)
abbrev n_is_ascending : List Str := ["row", "k"]
theorem sc_is_ascending : FnScope n_is_ascending ["row"] (defScope s_is_ascending) := ⟨rfl, rfl, rfl, by decide +kernel, rfl, by decide +kernel, by decide +kernel⟩
abbrev s_is_lot : Stmt := (topS 14)
abbrev n_is_lot : List Str := ["thing", "item"]
theorem sc_is_lot : FnScope n_is_lot ["thing"] (defScope s_is_lot) := ⟨rfl, rfl, rfl, by decide +kernel, rfl, by decide +kernel, by decide +kernel⟩
abbrev s_is_version : Stmt := (topS 16)
abbrev n_is_version : List Str := ["thing"]
theorem sc_is_version : FnScope n_is_version ["thing"] (defScope s_is_version) := ⟨rfl, rfl, rfl, by decide +kernel, rfl, by decide +kernel, by decide +kernel⟩
abbrev s_need_versions : Stmt := (topS 17)
abbrev n_need_versions : List Str := ["versions", "index", "version"]
theorem sc_need_versions : FnScope n_need_versions ["versions"] (defScope s_need_versions) := ⟨rfl, rfl, rfl, by decide +kernel, rfl, by decide +kernel, by decide +kernel⟩
abbrev s_need_last : Stmt := (topS 18)
abbrev n_need_last : List Str := ["last", "least"]
theorem sc_need_last : FnScope n_need_last ["last", "least"] (defScope s_need_last) := ⟨rfl, rfl, rfl, by decide +kernel, rfl, by decide +kernel, by decide +kernel⟩
abbrev s_need_snapshots : Stmt := (topS 19)
abbrev n_need_snapshots : List Str := ["open_lot", "last"]
theorem sc_need_snapshots : FnScope n_need_snapshots ["open_lot", "last"] (defScope s_need_snapshots) := ⟨rfl, rfl, rfl, by decide +kernel, rfl, by decide +kernel, by decide +kernel⟩
abbrev s_need_all : Stmt := (topS 20)
abbrev n_need_all : List Str := ["versions", "open_lot", "last"]
theorem sc_need_all : FnScope n_need_all ["versions", "open_lot", "last"] (defScope s_need_all) := ⟨rfl, rfl, rfl, by decide +kernel, rfl, by decide +kernel, by decide +kernel⟩
abbrev s_asked_of : Stmt := (topS 21)
abbrev n_asked_of : List Str := ["open_lot", "last"]
theorem sc_asked_of : FnScope n_asked_of ["open_lot", "last"] (defScope s_asked_of) := ⟨rfl, rfl, rfl, by decide +kernel, rfl, by decide +kernel, by decide +kernel⟩
abbrev s_seen_each : Stmt := (topS 22)
abbrev n_seen_each : List Str := ["versions", "snapshots", "found", "place", "snapshot"]
theorem sc_seen_each : FnScope n_seen_each ["versions", "snapshots"] (defScope s_seen_each) := ⟨rfl, rfl, rfl, by decide +kernel, rfl, by decide +kernel, by decide +kernel⟩
abbrev s_needed : Stmt := (topS 23)
abbrev n_needed : List Str := ["versions", "open_lot", "last"]
theorem sc_needed : FnScope n_needed ["versions", "open_lot", "last"] (defScope s_needed) := ⟨rfl, rfl, rfl, by decide +kernel, rfl, by decide +kernel, by decide +kernel⟩
abbrev s_needed_commits : Stmt := (topS 24)
abbrev n_needed_commits : List Str := ["versions", "open_lot", "last", "seen", "found", "commit", "mark", "version"]
theorem sc_needed_commits : FnScope n_needed_commits ["versions", "open_lot", "last"] (defScope s_needed_commits) := ⟨rfl, rfl, rfl, by decide +kernel, rfl, by decide +kernel, by decide +kernel⟩
abbrev s_is_kept_right : Stmt := (topS 25)
abbrev n_is_kept_right : List Str := ["versions", "open_lot", "last", "thing", "chosen", "kept", "asked", "commit", "version", "whole", "alone"]
theorem sc_is_kept_right : FnScope n_is_kept_right ["versions", "open_lot", "last", "thing"] (defScope s_is_kept_right) := ⟨rfl, rfl, rfl, by decide +kernel, rfl, by decide +kernel, by decide +kernel⟩
abbrev s_is_same : Stmt := (topS 26)
abbrev n_is_same : List Str := ["whole", "alone"]
theorem sc_is_same : FnScope n_is_same ["whole", "alone"] (defScope s_is_same) := ⟨rfl, rfl, rfl, by decide +kernel, rfl, by decide +kernel, by decide +kernel⟩
abbrev s_law_mixed : Stmt := (topS 28)
abbrev n_law_mixed : List Str := ["cell", "turn", "number"]
theorem sc_law_mixed : FnScope n_law_mixed ["cell", "turn"] (defScope s_law_mixed) := ⟨rfl, rfl, rfl, by decide +kernel, rfl, by decide +kernel, by decide +kernel⟩
abbrev s_law_bag : Stmt := (topS 29)
abbrev n_law_bag : List Str := ["script", "cell"]
theorem sc_law_bag : FnScope n_law_bag ["script"] (defScope s_law_bag) := ⟨rfl, rfl, rfl, by decide +kernel, rfl, by decide +kernel, by decide +kernel⟩
abbrev s_law_draw : Stmt := (topS 30)
abbrev n_law_draw : List Str := ["bag", "many", "found", "cells", "at", "cell"]
theorem sc_law_draw : FnScope n_law_draw ["bag", "many"] (defScope s_law_draw) := ⟨rfl, rfl, rfl, by decide +kernel, rfl, by decide +kernel, by decide +kernel⟩
abbrev s_law_versions : Stmt := (topS 31)
abbrev n_law_versions : List Str := ["bag", "found", "commit", "k", "worth"]
theorem sc_law_versions : FnScope n_law_versions ["bag"] (defScope s_law_versions) := ⟨rfl, rfl, rfl, by decide +kernel, rfl, by decide +kernel, by decide +kernel⟩
abbrev s_law_open : Stmt := (topS 32)
abbrev n_law_open : List Str := ["bag", "versions", "last", "found", "k", "number"]
theorem sc_law_open : FnScope n_law_open ["bag", "versions", "last"] (defScope s_law_open) := ⟨rfl, rfl, rfl, by decide +kernel, rfl, by decide +kernel, by decide +kernel⟩
abbrev s_law_needed : Stmt := (topS 33)
abbrev n_law_needed : List Str := ["versions", "open_lot", "found", "back", "at", "is_seen", "snapshot"]
theorem sc_law_needed : FnScope n_law_needed ["versions", "open_lot"] (defScope s_law_needed) := ⟨rfl, rfl, rfl, by decide +kernel, rfl, by decide +kernel, by decide +kernel⟩
abbrev s_law_some : Stmt := (topS 34)
abbrev n_law_some : List Str := ["bag", "row", "share", "found", "one"]
theorem sc_law_some : FnScope n_law_some ["bag", "row", "share"] (defScope s_law_some) := ⟨rfl, rfl, rfl, by decide +kernel, rfl, by decide +kernel, by decide +kernel⟩
abbrev s_law_lot : Stmt := (topS 35)
abbrev n_law_lot : List Str := ["bag", "versions", "due", "kind", "commits", "one", "gone", "pair", "commit"]
theorem sc_law_lot : FnScope n_law_lot ["bag", "versions", "due"] (defScope s_law_lot) := ⟨rfl, rfl, rfl, by decide +kernel, rfl, by decide +kernel, by decide +kernel⟩
abbrev s_law_no_lot : Stmt := (topS 36)
abbrev n_law_no_lot : List Str := ["bag", "lot", "kind", "at", "strange"]
theorem sc_law_no_lot : FnScope n_law_no_lot ["bag", "lot"] (defScope s_law_no_lot) := ⟨rfl, rfl, rfl, by decide +kernel, rfl, by decide +kernel, by decide +kernel⟩
abbrev s_law_is_lot : Stmt := (topS 37)
abbrev n_law_is_lot : List Str := ["thing", "commits", "ahead", "one"]
theorem sc_law_is_lot : FnScope n_law_is_lot ["thing", "commits"] (defScope s_law_is_lot) := ⟨rfl, rfl, rfl, by decide +kernel, rfl, by decide +kernel, by decide +kernel⟩
abbrev s_law_seen : Stmt := (topS 38)
abbrev n_law_seen : List Str := ["versions", "snapshot", "pair"]
theorem sc_law_seen : FnScope n_law_seen ["versions", "snapshot"] (defScope s_law_seen) := ⟨rfl, rfl, rfl, by decide +kernel, rfl, by decide +kernel, by decide +kernel⟩
abbrev s_law_is_enough : Stmt := (topS 39)
abbrev n_law_is_enough : List Str := ["versions", "asked", "thing", "kept", "snapshot", "whole", "part", "pair"]
theorem sc_law_is_enough : FnScope n_law_is_enough ["versions", "asked", "thing"] (defScope s_law_is_enough) := ⟨rfl, rfl, rfl, by decide +kernel, rfl, by decide +kernel, by decide +kernel⟩
abbrev s_law : Stmt := (topS 40)
abbrev n_law : List Str := ["script", "bag", "versions", "last", "open_lot", "due", "asked", "told", "k", "thing", "passed", "answer", "commit"]
theorem sc_law : FnScope n_law ["script"] (defScope s_law) := ⟨rfl, rfl, rfl, by decide +kernel, rfl, by decide +kernel, by decide +kernel⟩
structure Txt (K : PySem.W.Frag) (mg : Str → Option Value) where
  is_integer : DefAt K mg "is_integer" "is_integer" s_is_integer ["thing"]
  is_within : DefAt K mg "is_within" "is_within" s_is_within ["thing", "low", "high"]
  is_number : DefAt K mg "is_number" "is_number" s_is_number ["thing"]
  is_worth : DefAt K mg "is_worth" "is_worth" s_is_worth ["thing"]
  is_mark : DefAt K mg "is_mark" "is_mark" s_is_mark ["thing"]
  is_ascending : DefAt K mg "is_ascending" "is_ascending" s_is_ascending ["row"]
  is_lot : DefAt K mg "is_lot" "is_lot" s_is_lot ["thing"]
  is_version : DefAt K mg "is_version" "is_version" s_is_version ["thing"]
  need_versions : DefAt K mg "need_versions" "need_versions" s_need_versions ["versions"]
  need_last : DefAt K mg "need_last" "need_last" s_need_last ["last", "least"]
  need_snapshots : DefAt K mg "need_snapshots" "need_snapshots" s_need_snapshots ["open_lot", "last"]
  need_all : DefAt K mg "need_all" "need_all" s_need_all ["versions", "open_lot", "last"]
  asked_of : DefAt K mg "asked_of" "asked_of" s_asked_of ["open_lot", "last"]
  seen_each : DefAt K mg "seen_each" "seen_each" s_seen_each ["versions", "snapshots"]
  needed : DefAt K mg "needed" "needed" s_needed ["versions", "open_lot", "last"]
  needed_commits : DefAt K mg "needed_commits" "needed_commits" s_needed_commits ["versions", "open_lot", "last"]
  is_kept_right : DefAt K mg "is_kept_right" "is_kept_right" s_is_kept_right ["versions", "open_lot", "last", "thing"]
  is_same : DefAt K mg "is_same" "is_same" s_is_same ["whole", "alone"]
  law_mixed : DefAt K mg "_law_mixed" "_law_mixed" s_law_mixed ["cell", "turn"]
  law_bag : DefAt K mg "_law_bag" "_law_bag" s_law_bag ["script"]
  law_draw : DefAt K mg "_law_draw" "_law_draw" s_law_draw ["bag", "many"]
  law_versions : DefAt K mg "_law_versions" "_law_versions" s_law_versions ["bag"]
  law_open : DefAt K mg "_law_open" "_law_open" s_law_open ["bag", "versions", "last"]
  law_needed : DefAt K mg "_law_needed" "_law_needed" s_law_needed ["versions", "open_lot"]
  law_some : DefAt K mg "_law_some" "_law_some" s_law_some ["bag", "row", "share"]
  law_lot : DefAt K mg "_law_lot" "_law_lot" s_law_lot ["bag", "versions", "due"]
  law_no_lot : DefAt K mg "_law_no_lot" "_law_no_lot" s_law_no_lot ["bag", "lot"]
  law_is_lot : DefAt K mg "_law_is_lot" "_law_is_lot" s_law_is_lot ["thing", "commits"]
  law_seen : DefAt K mg "_law_seen" "_law_seen" s_law_seen ["versions", "snapshot"]
  law_is_enough : DefAt K mg "_law_is_enough" "_law_is_enough" s_law_is_enough ["versions", "asked", "thing"]
  z_abs : mg "abs" = none
  z_all : mg "all" = none
  z_bool : mg "bool" = none
  z_enumerate : mg "enumerate" = none
  z_int : mg "int" = none
  z_isinstance : mg "isinstance" = none
  z_len : mg "len" = none
  z_list : mg "list" = none
  z_max : mg "max" = none
  z_min : mg "min" = none
  z_range : mg "range" = none
  z_reversed : mg "reversed" = none
  z_set : mg "set" = none
  z_sorted : mg "sorted" = none
  z_tuple : mg "tuple" = none
  z_zip : mg "zip" = none
  c_GREATEST_WORTH : CAt mg "GREATEST_WORTH" (.int (1000000000000000000))
  c_GREATEST_COMMIT : CAt mg "GREATEST_COMMIT" (.int (1000000000000000000))
end Vw

set_option Elab.async false
set_option linter.all false
set_option maxRecDepth 100000
set_option maxHeartbeats 4000000
namespace Vw
open PySem PySem.Spec PyProof.Rows L2 RT
local macro_rules | `(tactic| walk_at "s") => `(tactic| with_reducible first
  | refine' s_seq ?_ | refine' s_next ?_ | refine' s_set ?_ | refine' s_ret ?_ | refine' s_retN ?_ | refine' s_drop ?_ | refine' s_if ?_ | refine' s_ipI ?_
  | refine' e_c ?_ | refine' e_op ?_ | refine' e_un ?_ | refine' e_neg ?_ | refine' e_test ?_ | refine' e_tB ?_ | refine' e_bl ?_ | refine' e_and ?_ | refine' e_or ?_ | refine' e_not ?_
  | refine' e_andV ?_ | refine' e_orV ?_ | refine' e_notV ?_ | refine' e_kV ?_ | refine' e_ife ?_ | refine' e_nil ?_ | refine' e_cons ?_ | refine' e_cb ?_ | refine' e_call ?_ | refine' e_chain ?_
  | refine' o_addI ?_ | refine' o_eqI ?_ | refine' o_neI ?_ | refine' o_I0 ?_ | refine' o_pow16 ?_ | refine' o_pow17 ?_ | refine' o_pow18 ?_ | refine' o_pow19 ?_ | refine' o_pow30 ?_ | refine' o_pow31 ?_ | refine' o_pow1 ?_ | refine' o_pow2 ?_ | refine' o_pow3 ?_ | refine' o_pow4 ?_ | refine' o_pow5 ?_ | refine' o_pow6 ?_ | refine' o_pow9 ?_ | refine' o_pow10 ?_ | refine' o_pow12 ?_ | refine' o_pow15 ?_ | refine' o_pow20 ?_ | refine' e_lst ?_ | refine' e_tup ?_ | refine' iteT ?_ | refine' i_nt ?_ | refine' i_nf ?_ | refine' iteF ?_ | refine' c_int ?_ | refine' c_abs ?_ | refine' c_min2 ?_ | refine' c_max2 ?_ | refine' e_tru ?_ | refine' t_bl ?_ | refine' t_non ?_ | refine' t_int ?_ | refine' isN_non ?_ | refine' isN_int ?_ | refine' isN_ref ?_ | refine' isN_str ?_ | refine' isN_bl ?_ | refine' noN_non ?_ | refine' noN_int ?_ | refine' noN_ref ?_ | refine' noN_str ?_ | refine' noN_bl ?_
  | refine' s_brk ?_ | refine' s_cont ?_ | refine' s_for ?_ | refine' e_lc ?_ | refine' e_dc ?_ | refine' e_yes ?_ | refine' i_rng1 ?_ | refine' i_lst0 ?_ | refine' i_tup0 ?_ | refine' e_bm ?_ | refine' e_sl ?_ | refine' e_np ?_ | refine' e_pt ?_ | refine' e_ptI ?_ | refine' e_din ?_ | refine' i_enum0 ?_ | refine' i_rev0 ?_ | refine' g_sub ?_ | refine' s_asg ?_)
local macro_rules | `(tactic| walk_at "v") => `(tactic| ((with_reducible refine' e_var ?hv ?_); (case hv => exact rfl)))
local macro_rules | `(tactic| walk_at "a") => `(tactic| ((with_reducible refine' s_aug ?hv ?_); (case hv => exact rfl)))
local macro_rules | `(tactic| walk_at "m") => `(tactic| first
  | ((with_reducible refine' o_mod ?hv ?_); (case hv => first | decide | omega))
  | ((with_reducible refine' o_mulR ?hv ?_); (case hv => omega))
  | ((with_reducible refine' o_mulL ?hv ?_); (case hv => omega))
  | ((with_reducible refine' o_div ?hv ?hw ?_); (case hv => omega); (case hw => omega))
  | ((with_reducible refine' o_pow _ ?hv ?hw ?hx ?_); (case hv => exact rfl); (case hw => decide); (case hx => decide)))
local macro_rules | `(tactic| walk_at "i") => `(tactic| (first
  | ((with_reducible refine' isi_int true ?hv ?_); (case hv => exact (by decide +kernel)))
  | ((with_reducible refine' isi_int false ?hv ?_); (case hv => exact (by decide +kernel)))
  | ((with_reducible refine' isi_non true ?hv ?_); (case hv => exact (by decide +kernel)))
  | ((with_reducible refine' isi_non false ?hv ?_); (case hv => exact (by decide +kernel)))
  | ((with_reducible refine' isi_str true ?hv ?_); (case hv => exact (by decide +kernel)))
  | ((with_reducible refine' isi_str false ?hv ?_); (case hv => exact (by decide +kernel)))
  | ((with_reducible refine' isi_bl true ?hv ?_); (case hv => exact (by decide +kernel)))
  | ((with_reducible refine' isi_bl false ?hv ?_); (case hv => exact (by decide +kernel)))
  | ((with_reducible refine' isi_t true ?hw ?hv ?_); (case hw => assumption); (case hv => exact (by decide +kernel)))
  | ((with_reducible refine' isi_t false ?hw ?hv ?_); (case hw => assumption); (case hv => exact (by decide +kernel)))
  | ((with_reducible refine' isi_l true ?hw ?hv ?_); (case hw => assumption); (case hv => exact (by decide +kernel)))
  | ((with_reducible refine' isi_l false ?hw ?hv ?_); (case hw => assumption); (case hv => exact (by decide +kernel)))
  | ((with_reducible refine' isi_tup true ?hw ?hv ?_); (case hw => assumption); (case hv => exact (by decide +kernel)))
  | ((with_reducible refine' isi_tup false ?hw ?hv ?_); (case hw => assumption); (case hv => exact (by decide +kernel)))
  | ((with_reducible refine' isi_lst true ?hw ?hv ?_); (case hw => assumption); (case hv => exact (by decide +kernel)))
  | ((with_reducible refine' isi_lst false ?hw ?hv ?_); (case hw => assumption); (case hv => exact (by decide +kernel)))))
local macro_rules | `(tactic| walk_at "om") => `(tactic| first | omega | (simp only [List.length_cons, List.length_nil, List.length_map, List.length_append, List.length_range]; omega))
local macro_rules | `(tactic| walk_at "d") => `(tactic| (first
  | ((with_reducible refine' i_dt ?hv ?_); (case hv => walk_at "om"))
  | ((with_reducible refine' i_df ?hv ?_); (case hv => walk_at "om"))
  | ((with_reducible refine' i_ndt ?hv ?_); (case hv => walk_at "om"))
  | ((with_reducible refine' i_ndf ?hv ?_); (case hv => walk_at "om"))))
local macro_rules | `(tactic| walk_at "x") => `(tactic| first
  | ((with_reducible refine' o_ixA ?hv ?hw ?_); (case hv => assumption); (case hw => exact rfl))
  | ((with_reducible refine' o_ixU ?hv ?hw ?_); (case hv => assumption); (case hw => exact rfl))
  | ((with_reducible refine' o_ixL ?hv ?hw ?_); (case hv => assumption); (case hw => exact rfl))
  | ((with_reducible refine' o_ixT ?hv ?hw ?_); (case hv => assumption); (case hw => exact rfl))
  | ((with_reducible refine' set_ ?hv ?hw ?_); (case hv => assumption); (case hw => exact rfl))
  | ((with_reducible refine' e_lenM ?hv ?_); (case hv => first | assumption | exact slO (by assumption)))
  | ((with_reducible refine' e_lenN ?hv ?_); (case hv => first | assumption | exact stO (by assumption)))
  | ((with_reducible refine' e_lenL ?hv ?_); (case hv => first | assumption | exact slO (by assumption)))
  | ((with_reducible refine' e_lenT ?hv ?_); (case hv => first | assumption | exact stO (by assumption))))
local macro_rules | `(tactic| walk_at "c") => `(tactic| first
  | ((with_reducible refine' c_listL ?hv ?_); (case hv => assumption))
  | ((with_reducible refine' c_listT ?hv ?_); (case hv => assumption))
  | ((with_reducible refine' c_tupL ?hv ?_); (case hv => first | assumption | exact slO (by assumption)))
  | ((with_reducible refine' c_tupT ?hv ?_); (case hv => assumption))
  | ((with_reducible refine' t_lst ?hv ?_); (case hv => first | assumption | exact slO (by assumption)))
  | ((with_reducible refine' t_tup ?hv ?_); (case hv => assumption))
  | ((with_reducible refine' r_sl ?hv ?_); (case hv => first | assumption | exact slO (by assumption)))
  | ((with_reducible refine' o_inL ?hv ?_); (case hv => first | assumption | exact slO (by assumption)))
  | ((with_reducible refine' o_inT ?hv ?_); (case hv => first | assumption | exact stO (by assumption)))
  | ((with_reducible refine' o_niL ?hv ?_); (case hv => first | assumption | exact slO (by assumption)))
  | ((with_reducible refine' o_niT ?hv ?_); (case hv => first | assumption | exact stO (by assumption)))
  | ((with_reducible refine' ty_lst ?hv ?_); (case hv => assumption)))
local macro_rules | `(tactic| walk_at "mo") => `(tactic| repeat' (first | exact m_yes | exact m_var | exact m_c | exact m_I0 | exact m_I | exact m_ix | exact m_add | exact m_in | exact m_int1 | exact m_abs | exact m_nil | refine' m_and ?_ ?_ | refine' m_test ?_ | refine' m_tB ?_ | refine' m_op ?_ ?_ ?_ | refine' m_cons ?_ ?_ | refine' m_cb ?_ ?_))
local macro_rules | `(tactic| walk_at "go") => `(tactic| repeat' (first | walk_at "s" | walk_at "v" | walk_at "a" | walk_at "x" | walk_at "m" | walk_at "c" | walk_at "i" | walk_at "d"))

section
variable {P : Program} {w : World} {K : PySem.W.Frag} {mg : Str → Option Value} {base : Heap}
/-! ### kinds of numbers -/
abbrev isI : V → Bool
  | .int _ => true
  | _ => false
abbrev isN : V → Bool
  | .int i => decide (0 ≤ i)
  | _ => false
abbrev plainV : V → Bool
  | .int _ => true | .non => true | .bl _ => true | .str _ => true
  | _ => false
abbrev within (x : V) (lo hi : Int) : Bool := match x with
  | .int i => decide (lo ≤ i) && decide (i ≤ hi)
  | _ => false
abbrev markB : V → Bool
  | .non => true
  | x => within x (-1000000000000000000) 1000000000000000000
/-- an item of a tuple: plain, or a tuple, or a list that is not the one at hd -/
def ItemOk (K : PySem.W.Frag) (hd : Addr) (H : Hp) (x : V) : Prop := plainV x = true ∨ ∃ a, x = .ref a ∧ ((∃ ys, SqT K H a ys) ∨ ∃ ys, SqL K H a ys ∧ a ≠ hd)
theorem ItemOk.same {hd : Addr} {H H' : Hp} {x : V} (s : Same H H') (h : ItemOk K hd H x) : ItemOk K hd H' x := h.elim .inl fun ⟨a, e, h⟩ => .inr ⟨a, e, h.elim (fun ⟨ys, q⟩ => .inl ⟨ys, st_ s q⟩) fun ⟨ys, q, n⟩ => .inr ⟨ys, sl_ s q, n⟩⟩
theorem ItemOk.int {hd : Addr} {H : Hp} {i : Int} : ItemOk K hd H (.int i) := .inl rfl
def sp_is_integer (K : PySem.W.Frag) : Sp := fun vs H Q _ => ∃ x hd, vs = [x] ∧ ItemOk K hd H x ∧ Q (.bl (isI x)) H
theorem ok_is_integer (T : Txt K mg) : FnOk P w K mg base CX0 1 T.is_integer.f T.is_integer.fd ["thing"] (sp_is_integer K) := by
  refine T.is_integer.F.ok sc_is_integer (fun vs H Q E h => ?_) (fun cdv A outer s H vs Q E hr h => ?_)
  · obtain ⟨x, hd, rfl, _⟩ := h
    rfl
  · obtain ⟨x, hd, rfl, hp, k⟩ := h
    refine ⟨_, (pss_one (ps_ret (pe_and (pe_callB (cIsi (K := K)) (by rfl) T.z_isinstance (by decide +kernel) (pa_cons (pv 0) (pa_cons (pe_bltn (v := .ty "int") (by rfl) T.z_int (by decide +kernel) rfl) pa_nil))) (pe_one (pe_not (pe_callB (cIsi (K := K)) (by rfl) T.z_isinstance (by decide +kernel) (pa_cons (pv 0) (pa_cons (pe_bltn (v := .ty "bool") (by rfl) T.z_bool (by decide +kernel) rfl) pa_nil)))))))), ?_⟩
    rcases hp with hp | ⟨a, rfl, ⟨ys, hp⟩ | ⟨ys, hp, _⟩⟩
    · cases x with
      | int a => walk_at "go"; exact k
      | non => walk_at "go"; exact k
      | bl b => walk_at "go"; exact k
      | str z => walk_at "go"; exact k
      | _ => cases hp
    · walk_at "go"
      exact k
    · walk_at "go"
      exact k
def sp_is_within : Sp := fun vs H Q _ => ∃ x lo hi, vs = [x, .int lo, .int hi] ∧ plainV x = true ∧ Q (.bl (within x lo hi)) H
theorem ok_is_within (T : Txt K mg) : FnOk P w K mg base CX0 2 T.is_within.f T.is_within.fd ["thing", "low", "high"] (sp_is_within) := by
  refine T.is_within.F.ok sc_is_within (fun vs H Q E h => ?_) (fun cdv A outer s H vs Q E hr h => ?_)
  · obtain ⟨x, lo, hi, rfl, _⟩ := h
    rfl
  · obtain ⟨x, lo, hi, rfl, hp, k⟩ := h
    refine ⟨_, (pss_one (ps_ret (pe_and (pe_call (ok_is_integer T) (hr.mono (by decide)) (by rfl) T.is_integer.g T.is_integer.F.kp T.is_integer.b .nil pass0 (pa_cons (pv 0) pa_nil)) (pe_one (pe_chain op_le op_le (pv 1) (pv 0) (pv 2)))))), ?_⟩
    walk_at "go"
    refine ⟨x, 0, rfl, .inl hp, ?_⟩
    cases x with
    | int a =>
      walk_at "go"
      refine i_d (fun h1 => ?_) (fun h1 => ?_)
      · walk_at "go"
        simpa [within, h1] using k
      · walk_at "go"
        simpa [within, h1] using k
    | non => walk_at "go"; exact k
    | bl b => walk_at "go"; exact k
    | str z => walk_at "go"; exact k
    | _ => cases hp
def sp_is_number (K : PySem.W.Frag) : Sp := fun vs H Q _ => ∃ x hd, vs = [x] ∧ ItemOk K hd H x ∧ Q (.bl (isN x)) H
theorem ok_is_number (T : Txt K mg) : FnOk P w K mg base CX0 2 T.is_number.f T.is_number.fd ["thing"] (sp_is_number K) := by
  refine T.is_number.F.ok sc_is_number (fun vs H Q E h => ?_) (fun cdv A outer s H vs Q E hr h => ?_)
  · obtain ⟨x, hd, rfl, _⟩ := h
    rfl
  · obtain ⟨x, hd, rfl, hp, k⟩ := h
    refine ⟨_, (pss_one (ps_ret (pe_and (pe_call (ok_is_integer T) (hr.mono (by decide)) (by rfl) T.is_integer.g T.is_integer.F.kp T.is_integer.b .nil pass0 (pa_cons (pv 0) pa_nil)) (pe_one (pe_cmpR op_ge (pv 0) pe_int (nomark _)))))), ?_⟩
    walk_at "go"
    refine ⟨x, hd, rfl, hp, ?_⟩
    rcases hp with hp | ⟨a, rfl, _⟩
    · cases x with
      | int a => walk_at "go"; exact k
      | non => walk_at "go"; exact k
      | bl b => walk_at "go"; exact k
      | str z => walk_at "go"; exact k
      | _ => cases hp
    · walk_at "go"
      exact k
def sp_is_worth : Sp := fun vs H Q _ => ∃ x, vs = [x] ∧ plainV x = true ∧ Q (.bl (within x (-1000000000000000000) 1000000000000000000)) H
theorem ok_is_worth (T : Txt K mg) : FnOk P w K mg base CX0 3 T.is_worth.f T.is_worth.fd ["thing"] (sp_is_worth) := by
  refine T.is_worth.F.ok sc_is_worth (fun vs H Q E h => ?_) (fun cdv A outer s H vs Q E hr h => ?_)
  · obtain ⟨x, rfl, _⟩ := h
    rfl
  · obtain ⟨x, rfl, hp, k⟩ := h
    refine ⟨_, (pss_one (ps_ret (pe_call (ok_is_within T) (hr.mono (by decide)) (by rfl) T.is_within.g T.is_within.F.kp T.is_within.b .nil pass0 (pa_cons (pv 0) (pa_cons (pe_un un_neg (pe_glob (by rfl) T.c_GREATEST_WORTH.h T.c_GREATEST_WORTH.r)) (pa_cons (pe_glob (by rfl) T.c_GREATEST_WORTH.h T.c_GREATEST_WORTH.r) pa_nil)))))), ?_⟩
    walk_at "go"
    exact ⟨x, _, _, rfl, hp, k⟩
def sp_is_mark : Sp := fun vs H Q _ => ∃ x, vs = [x] ∧ plainV x = true ∧ Q (.bl (markB x)) H
theorem ok_is_mark (T : Txt K mg) : FnOk P w K mg base CX0 4 T.is_mark.f T.is_mark.fd ["thing"] (sp_is_mark) := by
  refine T.is_mark.F.ok sc_is_mark (fun vs H Q E h => ?_) (fun cdv A outer s H vs Q E hr h => ?_)
  · obtain ⟨x, rfl, _⟩ := h
    rfl
  · obtain ⟨x, rfl, hp, k⟩ := h
    refine ⟨_, (pss_one (ps_ret (pe_or (pe_cmpR oIsN (pv 0) pe_non (nomark _)) (pe_one (pe_call (ok_is_worth T) (hr.mono (by decide)) (by rfl) T.is_worth.g T.is_worth.F.kp T.is_worth.b .nil pass0 (pa_cons (pv 0) pa_nil)))))), ?_⟩
    walk_at "go"
    cases x with
    | int a => walk_at "go"; exact ⟨_, rfl, rfl, k⟩
    | non => walk_at "go"; exact k
    | bl b => walk_at "go"; exact ⟨_, rfl, rfl, k⟩
    | str z => walk_at "go"; exact ⟨_, rfl, rfl, k⟩
    | _ => cases hp
/-! ### lots -/
def ascF (ns : List Int) (k : Nat) : Bool := decide (ns.getD k 0 < ns.getD (k + 1) 0)
def ascB (ns : List Int) : Bool := ((List.range (ns.length - 1)).map (ascF ns)).all id
def sp_is_ascending (K : PySem.W.Frag) : Sp := fun vs H Q _ => ∃ a ns, vs = [.ref a] ∧ SqT K H a (ns.map V.int) ∧ ns.length ≤ 1000 ∧ ∀ H', Same H H' → Q (.bl (ascB ns)) H'
theorem ok_is_ascending (T : Txt K mg) : FnOk P w K mg base CX0 1 T.is_ascending.f T.is_ascending.fd ["row"] (sp_is_ascending K) := by
  refine T.is_ascending.F.ok sc_is_ascending (fun vs H Q E h => ?_) (fun cdv A outer s H vs Q E hr h => ?_)
  · obtain ⟨a, ns, rfl, _⟩ := h
    rfl
  · obtain ⟨a, ns, rfl, hS, hl, k⟩ := h
    refine ⟨_, (pss_one (ps_ret (pe_callB (cAll (K := K) rfl) (by rfl) T.z_all (by decide +kernel) (pa_cons (pe_lc (own := [("k", 1)]) rfl sc_is_ascending.nd (pi_range1 (by rfl) T.z_range (pa_cons (pe_op op_sub (pe_callB (cLen (K := K)) (by rfl) T.z_len PySem.boot_len (pa_cons (pv 0) pa_nil)) pe_int) pa_nil)) (blkOk_by (N := n_is_ascending) (sc := defScope s_is_ascending) (by decide +kernel)) (fun _ _ _ _ _ => (pg_name (i := 1) sc_is_ascending.nd rfl (Or.inl rfl))) (fun _ _ _ _ _ => pts_nil) (fun _ _ _ _ _ => (pe_cmpR oLt (pe_ix (ixLT (K := K)) (pv 0) (pv 1) (fun _ _ => rfl)) (pe_ix (ixLT (K := K)) (pv 0) (pe_op oAdd (pv 1) pe_int) (fun _ _ => rfl)) (nomark _)))) pa_nil)))), ?_⟩
    walk_at "go"
    refine i_rng (ns.length - 1) (by omega) (by omega) (by omega) ?_
    refine c_rng (fun i acc H1 => Same H H1 ∧ acc = ((List.range i).map (ascF ns)).map V.bl) (fun D hD => ⟨upd_free (Same.refl _) hD, rfl⟩) (fun acc D H1 hD hp p => ?_) (fun _ => rfl) (fun i acc H1 D hi hD hp p => ?_)
    · obtain ⟨p1, rfl⟩ := p
      walk_at "go"
      exact e_allB hp (k _ p1)
    · obtain ⟨p1, rfl⟩ := p
      have hS1 := st_ p1 hS
      walk_at "go"
      refine o_ixT hS1 (atI_map i rfl (by omega)) ?_
      walk_at "go"
      refine o_ixT hS1 (atI_map (i + 1) (by omega) (by omega)) ?_
      walk_at "go"
      refine ⟨_, hp, lt_size (by simp; omega), _, upd_same, upd_free p1 hD, ?_⟩
      rw [List.range_succ, List.map_append, List.map_append]; rfl
def lotB (ns : List Int) : Bool := ns.all (fun i => decide (0 ≤ i)) && ascB ns
def toI : V → Int
  | .int i => i
  | _ => 0
def lotV (ys : List V) : Bool := ys.all isN && ascB (ys.map toI)
theorem lotV_int (ns : List Int) : lotV (ns.map V.int) = lotB ns := by
  unfold lotV lotB
  rw [List.all_map, List.map_map]
  have e : ns.map (toI ∘ V.int) = ns := by
    conv => rhs; rw [← List.map_id ns]
    rfl
  rw [e]; rfl
theorem ints_of : ∀ {ys : List V}, ys.all isN = true → ys = (ys.map toI).map V.int
  | [], _ => rfl
  | y :: ys, h => by
    rw [List.all_cons, Bool.and_eq_true_iff] at h
    have e := ints_of h.2
    have e2 : y = .int (toI y) := by
      cases y with
      | int a => rfl
      | _ => cases h.1
    rw [List.map_cons, List.map_cons, ← e2, ← e]
/-- what is asked whether it is a lot: a tuple of items, or no tuple -/
def NoTup (K : PySem.W.Frag) (hd : Addr) (H : Hp) (x : V) : Prop := plainV x = true ∨ ∃ a, x = .ref a ∧ ((∃ ys, SqL K H a ys ∧ a ≠ hd) ∨ ∃ kvs, H a = some (.dK kvs) ∧ a ≠ hd)
def ThingOk (K : PySem.W.Frag) (hd : Addr) (H : Hp) (x : V) : Option (List V) → Prop
  | some ys => ∃ a, x = .ref a ∧ SqT K H a ys ∧ ys.length ≤ 1000 ∧ ∀ y ∈ ys, ItemOk K hd H y
  | none => NoTup K hd H x
theorem ThingOk.same {hd : Addr} {H H' : Hp} {x : V} {d : Option (List V)} (s : Same H H') (h : ThingOk K hd H x d) : ThingOk K hd H' x d := by
  cases d with
  | some ys =>
    obtain ⟨a, e, h1, h2, h3⟩ := h
    exact ⟨a, e, st_ s h1, h2, fun y hy => (h3 y hy).same s⟩
  | none =>
    rcases h with h | ⟨a, e, ⟨ys, q, n⟩ | ⟨kvs, q, n⟩⟩
    · exact .inl h
    · exact .inr ⟨a, e, .inl ⟨ys, sl_ s q, n⟩⟩
    · exact .inr ⟨a, e, .inr ⟨kvs, at_ s q, n⟩⟩
def lotD : Option (List V) → Bool
  | some ys => lotV ys
  | none => false
def sp_is_lot (K : PySem.W.Frag) : Sp := fun vs H Q _ => ∃ x hd d, vs = [x] ∧ ThingOk K hd H x d ∧ ∀ H', Same H H' → Q (.bl (lotD d)) H'
theorem ok_is_lot (T : Txt K mg) : FnOk P w K mg base CX0 3 T.is_lot.f T.is_lot.fd ["thing"] (sp_is_lot K) := by
  refine T.is_lot.F.ok sc_is_lot (fun vs H Q E h => ?_) (fun cdv A outer s H vs Q E hr h => ?_)
  · obtain ⟨x, hd, d, rfl, _⟩ := h
    rfl
  · obtain ⟨x, hd, d, rfl, hT, k⟩ := h
    refine ⟨_, (pss_one (ps_ret (pe_and (pe_callB (cIsi (K := K)) (by rfl) T.z_isinstance (by decide +kernel) (pa_cons (pv 0) (pa_cons (pe_bltn (v := .ty "tuple") (by rfl) T.z_tuple (by decide +kernel) rfl) pa_nil))) (pe_and (pe_callB (cAll (K := K) rfl) (by rfl) T.z_all (by decide +kernel) (pa_cons (pe_lc (own := [("item", 1)]) rfl sc_is_lot.nd (piT (K := K) (pv 0)) (blkOk_by (N := n_is_lot) (sc := defScope s_is_lot) (by decide +kernel)) (fun _ _ _ _ _ => (pg_name (i := 1) sc_is_lot.nd rfl (Or.inl rfl))) (fun _ _ _ _ _ => pts_nil) (fun _ _ _ _ _ => (pe_call (ok_is_number T) (hr.mono (by decide)) (by rfl) T.is_number.g T.is_number.F.kp T.is_number.b .nil pass0 (pa_cons (pv 1) pa_nil)))) pa_nil)) (pe_one (pe_call (ok_is_ascending T) (hr.mono (by decide)) (by rfl) T.is_ascending.g T.is_ascending.F.kp T.is_ascending.b .nil pass0 (pa_cons (pv 0) pa_nil))))))), ?_⟩
    walk_at "go"
    cases d with
    | none =>
      rcases hT with hp | ⟨a, rfl, ⟨ys, hp, _⟩ | ⟨kvs, hp, _⟩⟩
      · cases x with
        | int a => walk_at "go"; exact k _ (Same.refl _)
        | non => walk_at "go"; exact k _ (Same.refl _)
        | bl b => walk_at "go"; exact k _ (Same.refl _)
        | str z => walk_at "go"; exact k _ (Same.refl _)
        | _ => cases hp
      · walk_at "go"
        exact k _ (Same.refl _)
      · refine isi_dk false hp (by decide +kernel) ?_
        walk_at "go"
        exact k _ (Same.refl _)
    | some ys =>
      obtain ⟨a, rfl, hS, hl, hI⟩ := hT
      walk_at "go"
      refine i_tup hS ?_
      refine c_tup (xs := ys) (fun i acc H1 => Same H H1 ∧ acc = ((ys.take i).map isN).map V.bl) (fun D hD => ⟨upd_free (Same.refl _) hD, rfl⟩) (fun i acc H1 hi p => st_ p.1 hS) (fun acc D H1 hD hp p => ?_) (fun _ => rfl) (fun i x acc H1 D hx hD hp p => ?_)
      · obtain ⟨p1, rfl⟩ := p
        walk_at "go"
        refine e_allB hp ?_
        walk_at "go"
        have e0 : (List.map isN (List.take ys.length ys)).all id = ys.all isN := by
          rw [List.take_length, List.all_map]; rfl
        rw [e0]
        have e2 : lotD (some ys) = (ys.all isN && ascB (ys.map toI)) := rfl
        cases e1 : ys.all isN with
        | true =>
          walk_at "go"
          have hS1 := st_ p1 hS
          rw [ints_of e1] at hS1
          refine ⟨a, ys.map toI, rfl, hS1, by rw [List.length_map]; exact hl, fun H2 s2 => ?_⟩
          have e3 : lotD (some ys) = ascB (ys.map toI) := by rw [e2, e1]; rfl
          rw [← e3]
          exact k _ (p1.trans s2)
        | false =>
          walk_at "go"
          have e3 : lotD (some ys) = false := by rw [e2, e1]; rfl
          rw [← e3]
          exact k _ p1
      · obtain ⟨p1, rfl⟩ := p
        have hi : i < ys.length := (List.getElem?_eq_some_iff.mp hx).1
        have hm : x ∈ ys := List.mem_of_getElem? hx
        walk_at "go"
        refine ⟨x, hd, rfl, (hI x hm).same p1, ?_⟩
        refine ⟨_, hp, lt_size (by simp; omega), _, upd_same, upd_free p1 hD, ?_⟩
        rw [List.take_add_one, hx, List.map_append, List.map_append]; rfl
theorem thing_int {hd a : Addr} {H : Hp} {ns : List Int} (h : SqT K H a (ns.map V.int)) (hl : ns.length ≤ 1000) : ThingOk K hd H (.ref a) (some (ns.map V.int)) := ⟨a, rfl, h, by rw [List.length_map]; exact hl, fun y hy => by
  obtain ⟨i, _, e⟩ := List.mem_map.mp hy
  subst e; exact .int⟩
def sp_is_version (K : PySem.W.Frag) : Sp := fun vs H Q _ => ∃ a x y, vs = [.ref a] ∧ SqT K H a [x, y] ∧ plainV x = true ∧ plainV y = true ∧ Q (.bl (within x 1 1000000000000000000 && markB y)) H
theorem ok_is_version (T : Txt K mg) : FnOk P w K mg base CX0 5 T.is_version.f T.is_version.fd ["thing"] (sp_is_version K) := by
  refine T.is_version.F.ok sc_is_version (fun vs H Q E h => ?_) (fun cdv A outer s H vs Q E hr h => ?_)
  · obtain ⟨a, x, y, rfl, _⟩ := h
    rfl
  · obtain ⟨a, x, y, rfl, hS, h1, h2, k⟩ := h
    refine ⟨_, (pss_cons (ps_if (PW.pt (pw_or (pt_not (ptTruth (K := K) (pe_callB (cIsi (K := K)) (by rfl) T.z_isinstance (by decide +kernel) (pa_cons (pv 0) (pa_cons (pe_bltn (v := .ty "tuple") (by rfl) T.z_tuple (by decide +kernel) rfl) pa_nil))) (by intro _; rfl))) (pw_or1 (pt_cmpR (oNe (K := K) hr.units) (pe_callB (cLen (K := K)) (by rfl) T.z_len PySem.boot_len (pa_cons (pv 0) pa_nil)) pe_int (nomark _))))) (pss_one (ps_ret pe_bl)) pss_nil)
    (pss_one (ps_ret (pe_and (pe_call (ok_is_within T) (hr.mono (by decide)) (by rfl) T.is_within.g T.is_within.F.kp T.is_within.b .nil pass0 (pa_cons (pe_ix (ixLT (K := K)) (pv 0) pe_int (fun _ _ => rfl)) (pa_cons pe_int (pa_cons (pe_glob (by rfl) T.c_GREATEST_COMMIT.h T.c_GREATEST_COMMIT.r) pa_nil)))) (pe_one (pe_call (ok_is_mark T) (hr.mono (by decide)) (by rfl) T.is_mark.g T.is_mark.F.kp T.is_mark.b .nil pass0 (pa_cons (pe_ix (ixLT (K := K)) (pv 0) pe_int (fun _ _ => rfl)) pa_nil))))))), ?_⟩
    walk_at "go"
    refine ⟨_, _, _, rfl, h1, ?_⟩
    walk_at "go"
    cases e : within x 1 1000000000000000000 with
    | true =>
      rw [e] at k
      walk_at "go"
      exact ⟨_, rfl, h2, k⟩
    | false =>
      rw [e] at k
      walk_at "go"
      exact k
end
end Vw

set_option Elab.async false
set_option linter.all false
set_option maxRecDepth 100000
set_option maxHeartbeats 4000000
namespace Vw
open PySem PySem.Spec PyProof.Rows L2 RT
local macro_rules | `(tactic| walk_at "s") => `(tactic| with_reducible first
  | refine' s_seq ?_ | refine' s_next ?_ | refine' s_set ?_ | refine' s_ret ?_ | refine' s_retN ?_ | refine' s_drop ?_ | refine' s_if ?_ | refine' s_ipI ?_
  | refine' e_c ?_ | refine' e_op ?_ | refine' e_un ?_ | refine' e_neg ?_ | refine' e_test ?_ | refine' e_tB ?_ | refine' e_bl ?_ | refine' e_and ?_ | refine' e_or ?_ | refine' e_not ?_
  | refine' e_andV ?_ | refine' e_orV ?_ | refine' e_notV ?_ | refine' e_kV ?_ | refine' e_ife ?_ | refine' e_nil ?_ | refine' e_cons ?_ | refine' e_cb ?_ | refine' e_call ?_ | refine' e_chain ?_
  | refine' o_addI ?_ | refine' o_eqI ?_ | refine' o_neI ?_ | refine' o_I0 ?_ | refine' o_pow16 ?_ | refine' o_pow17 ?_ | refine' o_pow18 ?_ | refine' o_pow19 ?_ | refine' o_pow30 ?_ | refine' o_pow31 ?_ | refine' o_pow1 ?_ | refine' o_pow2 ?_ | refine' o_pow3 ?_ | refine' o_pow4 ?_ | refine' o_pow5 ?_ | refine' o_pow6 ?_ | refine' o_pow9 ?_ | refine' o_pow10 ?_ | refine' o_pow12 ?_ | refine' o_pow15 ?_ | refine' o_pow20 ?_ | refine' e_lst ?_ | refine' e_tup ?_ | refine' iteT ?_ | refine' i_nt ?_ | refine' i_nf ?_ | refine' iteF ?_ | refine' c_int ?_ | refine' c_abs ?_ | refine' c_min2 ?_ | refine' c_max2 ?_ | refine' e_tru ?_ | refine' t_bl ?_ | refine' t_non ?_ | refine' t_int ?_ | refine' isN_non ?_ | refine' isN_int ?_ | refine' isN_ref ?_ | refine' isN_str ?_ | refine' isN_bl ?_ | refine' noN_non ?_ | refine' noN_int ?_ | refine' noN_ref ?_ | refine' noN_str ?_ | refine' noN_bl ?_
  | refine' s_brk ?_ | refine' s_cont ?_ | refine' s_for ?_ | refine' e_lc ?_ | refine' e_dc ?_ | refine' e_yes ?_ | refine' i_rng1 ?_ | refine' i_lst0 ?_ | refine' i_tup0 ?_ | refine' e_bm ?_ | refine' e_sl ?_ | refine' e_np ?_ | refine' e_pt ?_ | refine' e_ptI ?_ | refine' e_din ?_ | refine' i_enum0 ?_ | refine' i_rev0 ?_ | refine' g_sub ?_ | refine' s_asg ?_)
local macro_rules | `(tactic| walk_at "v") => `(tactic| ((with_reducible refine' e_var ?hv ?_); (case hv => exact rfl)))
local macro_rules | `(tactic| walk_at "a") => `(tactic| ((with_reducible refine' s_aug ?hv ?_); (case hv => exact rfl)))
local macro_rules | `(tactic| walk_at "m") => `(tactic| first
  | ((with_reducible refine' o_mod ?hv ?_); (case hv => first | decide | omega))
  | ((with_reducible refine' o_mulR ?hv ?_); (case hv => omega))
  | ((with_reducible refine' o_mulL ?hv ?_); (case hv => omega))
  | ((with_reducible refine' o_div ?hv ?hw ?_); (case hv => omega); (case hw => omega))
  | ((with_reducible refine' o_pow _ ?hv ?hw ?hx ?_); (case hv => exact rfl); (case hw => decide); (case hx => decide)))
local macro_rules | `(tactic| walk_at "i") => `(tactic| (first
  | ((with_reducible refine' isi_int true ?hv ?_); (case hv => exact (by decide +kernel)))
  | ((with_reducible refine' isi_int false ?hv ?_); (case hv => exact (by decide +kernel)))
  | ((with_reducible refine' isi_non true ?hv ?_); (case hv => exact (by decide +kernel)))
  | ((with_reducible refine' isi_non false ?hv ?_); (case hv => exact (by decide +kernel)))
  | ((with_reducible refine' isi_str true ?hv ?_); (case hv => exact (by decide +kernel)))
  | ((with_reducible refine' isi_str false ?hv ?_); (case hv => exact (by decide +kernel)))
  | ((with_reducible refine' isi_bl true ?hv ?_); (case hv => exact (by decide +kernel)))
  | ((with_reducible refine' isi_bl false ?hv ?_); (case hv => exact (by decide +kernel)))
  | ((with_reducible refine' isi_t true ?hw ?hv ?_); (case hw => assumption); (case hv => exact (by decide +kernel)))
  | ((with_reducible refine' isi_t false ?hw ?hv ?_); (case hw => assumption); (case hv => exact (by decide +kernel)))
  | ((with_reducible refine' isi_l true ?hw ?hv ?_); (case hw => assumption); (case hv => exact (by decide +kernel)))
  | ((with_reducible refine' isi_l false ?hw ?hv ?_); (case hw => assumption); (case hv => exact (by decide +kernel)))
  | ((with_reducible refine' isi_tup true ?hw ?hv ?_); (case hw => assumption); (case hv => exact (by decide +kernel)))
  | ((with_reducible refine' isi_tup false ?hw ?hv ?_); (case hw => assumption); (case hv => exact (by decide +kernel)))
  | ((with_reducible refine' isi_lst true ?hw ?hv ?_); (case hw => assumption); (case hv => exact (by decide +kernel)))
  | ((with_reducible refine' isi_lst false ?hw ?hv ?_); (case hw => assumption); (case hv => exact (by decide +kernel)))))
local macro_rules | `(tactic| walk_at "om") => `(tactic| first | omega | (simp only [List.length_cons, List.length_nil, List.length_map, List.length_append, List.length_range]; omega))
local macro_rules | `(tactic| walk_at "d") => `(tactic| (first
  | ((with_reducible refine' i_dt ?hv ?_); (case hv => walk_at "om"))
  | ((with_reducible refine' i_df ?hv ?_); (case hv => walk_at "om"))
  | ((with_reducible refine' i_ndt ?hv ?_); (case hv => walk_at "om"))
  | ((with_reducible refine' i_ndf ?hv ?_); (case hv => walk_at "om"))))
local macro_rules | `(tactic| walk_at "x") => `(tactic| first
  | ((with_reducible refine' o_ixA ?hv ?hw ?_); (case hv => assumption); (case hw => exact rfl))
  | ((with_reducible refine' o_ixU ?hv ?hw ?_); (case hv => assumption); (case hw => exact rfl))
  | ((with_reducible refine' o_ixL ?hv ?hw ?_); (case hv => assumption); (case hw => exact rfl))
  | ((with_reducible refine' o_ixT ?hv ?hw ?_); (case hv => assumption); (case hw => exact rfl))
  | ((with_reducible refine' set_ ?hv ?hw ?_); (case hv => assumption); (case hw => exact rfl))
  | ((with_reducible refine' e_lenM ?hv ?_); (case hv => first | assumption | exact slO (by assumption)))
  | ((with_reducible refine' e_lenN ?hv ?_); (case hv => first | assumption | exact stO (by assumption)))
  | ((with_reducible refine' e_lenL ?hv ?_); (case hv => first | assumption | exact slO (by assumption)))
  | ((with_reducible refine' e_lenT ?hv ?_); (case hv => first | assumption | exact stO (by assumption))))
local macro_rules | `(tactic| walk_at "c") => `(tactic| first
  | ((with_reducible refine' c_listL ?hv ?_); (case hv => assumption))
  | ((with_reducible refine' c_listT ?hv ?_); (case hv => assumption))
  | ((with_reducible refine' c_tupL ?hv ?_); (case hv => first | assumption | exact slO (by assumption)))
  | ((with_reducible refine' c_tupT ?hv ?_); (case hv => assumption))
  | ((with_reducible refine' t_lst ?hv ?_); (case hv => first | assumption | exact slO (by assumption)))
  | ((with_reducible refine' t_tup ?hv ?_); (case hv => assumption))
  | ((with_reducible refine' r_sl ?hv ?_); (case hv => first | assumption | exact slO (by assumption)))
  | ((with_reducible refine' o_inL ?hv ?_); (case hv => first | assumption | exact slO (by assumption)))
  | ((with_reducible refine' o_inT ?hv ?_); (case hv => first | assumption | exact stO (by assumption)))
  | ((with_reducible refine' o_niL ?hv ?_); (case hv => first | assumption | exact slO (by assumption)))
  | ((with_reducible refine' o_niT ?hv ?_); (case hv => first | assumption | exact stO (by assumption)))
  | ((with_reducible refine' ty_lst ?hv ?_); (case hv => assumption)))
local macro_rules | `(tactic| walk_at "mo") => `(tactic| repeat' (first | exact m_yes | exact m_var | exact m_c | exact m_I0 | exact m_I | exact m_ix | exact m_add | exact m_in | exact m_int1 | exact m_abs | exact m_nil | refine' m_and ?_ ?_ | refine' m_test ?_ | refine' m_tB ?_ | refine' m_op ?_ ?_ ?_ | refine' m_cons ?_ ?_ | refine' m_cb ?_ ?_))
local macro_rules | `(tactic| walk_at "go") => `(tactic| repeat' (first | walk_at "s" | walk_at "v" | walk_at "a" | walk_at "x" | walk_at "m" | walk_at "c" | walk_at "i" | walk_at "d"))

section
variable {P : Program} {w : World} {K : PySem.W.Frag} {mg : Str → Option Value} {base : Heap}
/-! ### versions -/
abbrev GC : Int := 1000000000000000000
abbrev markV : Option Int → V
  | none => .non
  | some i => .int i
theorem plain_mark (m : Option Int) : plainV (markV m) = true := by cases m <;> rfl
def PairsAt (K : PySem.W.Frag) (H : Hp) (ps : List Addr) (vs : List (Int × Option Int)) : Prop := ps.length = vs.length ∧ ∀ (i : Nat) p v, ps[i]? = some p → vs[i]? = some v → SqT K H p [.int v.1, markV v.2]
theorem pa_ {H H' : Hp} {ps : List Addr} {vs : List (Int × Option Int)} (s : Same H H') (h : PairsAt K H ps vs) : PairsAt K H' ps vs := ⟨h.1, fun i p v a b => st_ s (h.2 i p v a b)⟩
structure Valid (vs : List (Int × Option Int)) : Prop where
  desc : vs.Pairwise (fun a b => b.1 < a.1)
  comm : ∀ v ∈ vs, 1 ≤ v.1 ∧ v.1 ≤ GC
  mark : ∀ v ∈ vs, markB (markV v.2) = true
  few : vs.length ≤ 1000
theorem Valid.lt {vs : List (Int × Option Int)} (h : Valid vs) {i j : Nat} (hij : i < j) (hj : j < vs.length) : (vs[j]).1 < (vs[i]'(by omega)).1 := List.pairwise_iff_getElem.mp h.desc i j (by omega) hj hij
theorem o_ixX {H : Hp} {Q : VK} {p : Addr} {xs : List V} {a : Int} {v : V} (s : SqX K H p xs) (e : atI xs a = some v) (q : Q v H) : rIxLT K (.ref p) (.int a) H Q := s.elim (fun s => o_ixL s e q) fun s => o_ixT s e q
theorem e_lenX {α : Type} {f : α → V} {H : Hp} {Q : VK} {p : Addr} {xs : List α} (s : SqX K H p (xs.map f)) (q : Q (.int (xs.length : Nat)) H) : rLen' K [.ref p] H Q := s.elim (fun s => e_lenM s q) fun s => e_lenN s q
theorem atI_ref {ps : List Addr} {z : Int} (i : Nat) (e : z = (i : Nat)) (h : i < ps.length) : atI (ps.map V.ref) z = some (.ref ps[i]) := atI_in e (by rw [List.getElem?_map, List.getElem?_eq_getElem h]; rfl)
theorem PairsAt.at {H : Hp} {ps : List Addr} {vs : List (Int × Option Int)} (h : PairsAt K H ps vs) {i : Nat} (hi : i < vs.length) : SqT K H (ps[i]'(by rw [h.1]; exact hi)) [.int vs[i].1, markV vs[i].2] := h.2 i _ _ (List.getElem?_eq_getElem _) (List.getElem?_eq_getElem _)
theorem isiT_list {H : Hp} {Q : VK} {p : Addr} {ps : List V} {tp : Addr} (s : SqX K H p ps) (h : H tp = some (.tup [.ty "list", .ty "tuple"])) (q : Q (.bl true) H) : rIsiT K [.ref p, .ref tp] H Q := by
  rcases s with s | s
  · exact ⟨_, tp, _, .type "list", [.type "list", .type "tuple"], true, rfl, h, .cons (.ty _) (.cons (.ty _) .nil), tyx_sl s, kitAny_cons (b := true) (kit_ty (by decide +kernel)) (fun z => nomatch z) (fun _ => rfl), q⟩
  · exact ⟨_, tp, _, .type "tuple", [.type "list", .type "tuple"], true, rfl, h, .cons (.ty _) (.cons (.ty _) .nil), tyx_st s, kitAny_cons (b := false) (kit_ty (by decide +kernel)) (fun _ => kitAny_cons (b := true) (kit_ty (by decide +kernel)) (fun z => nomatch z) (fun _ => rfl)) (fun z => nomatch z), q⟩
def sp_need_versions (K : PySem.W.Frag) : Sp := fun vs H Q _ => ∃ a ps xs, vs = [.ref a] ∧ SqX K H a (ps.map V.ref) ∧ PairsAt K H ps xs ∧ Valid xs ∧ ∀ H', Same H H' → Q .non H'
theorem ok_need_versions (T : Txt K mg) : FnOk P w K mg base CX0 6 T.need_versions.f T.need_versions.fd ["versions"] (sp_need_versions K) := by
  refine T.need_versions.F.ok sc_need_versions (fun vs H Q E h => ?_) (fun cdv A outer s H vs Q E hr h => ?_)
  · obtain ⟨a, ps, xs, rfl, _⟩ := h
    rfl
  · obtain ⟨a, ps, xs, rfl, hS, hP, hV, k⟩ := h
    refine ⟨_, (pss_cons (ps_if (pt_not (ptTruth (K := K) (pe_callB (cIsiT (K := K)) (by rfl) T.z_isinstance (by decide +kernel) (pa_cons (pv 0) (pa_cons (pe_tup (pa_cons (pe_bltn (v := .ty "list") (by rfl) T.z_list (by decide +kernel) rfl) (pa_cons (pe_bltn (v := .ty "tuple") (by rfl) T.z_tuple (by decide +kernel) rfl) pa_nil))) pa_nil))) (by intro _; rfl))) (pss_one ps_never) pss_nil)
    (pss_one (ps_for PassesOwn.never rfl (piEnumT (K := K) (by rfl) T.z_enumerate (pa_cons (pv 0) pa_nil)) (pgTup (K := K) (pg_tup rfl (pgs_cons (pg_name (i := 1) sc_need_versions.nd rfl (Or.inl rfl)) (pgs_cons (pg_name (i := 2) sc_need_versions.nd rfl (Or.inl rfl)) pgs_nil))))
      (pss_one (ps_if (PW.pt (pw_or (pt_not (ptTruth (K := K) (pe_call (ok_is_version T) (hr.mono (by decide)) (by rfl) T.is_version.g T.is_version.F.kp T.is_version.b .nil pass0 (pa_cons (pv 2) pa_nil)) (by intro _; rfl))) (pw_or1 (PW.pt (pw_and (pt_cmpR op_gt (pv 1) pe_int (nomark _)) (pw_and1 (pt_cmpR op_ge (pe_ix (ixLT (K := K)) (pv 2) pe_int (fun _ _ => rfl)) (pe_ix (ixLT (K := K)) (pe_ix (ixLT (K := K)) (pv 0) (pe_op op_sub (pv 1) pe_int) (fun _ _ => rfl)) pe_int (fun _ _ => rfl)) (nomark _)))))))) (pss_one ps_never) pss_nil))))), ?_⟩
    walk_at "go"
    refine n_new (by decide) fun tp H1 n1 s1 h1 => ?_
    walk_at "go"
    refine isiT_list (sx_ s1 hS) h1 ?_
    walk_at "go"
    refine i_enumX hS s1 fun J G hG hW => ?_
    refine l_it hW (fun i σ H2 => (∃ y1 y2, σ = [some (.ref a), y1, y2]) ∧ Same H1 H2) ⟨⟨none, none, rfl⟩, Same.refl _⟩ (fun i σ H2 hi p => hG _ (s1.trans p.2)) (fun σ H2 p => k _ (s1.trans p.2)) fun i x σ H2 H3 hi p y => ?_
    obtain ⟨⟨y1, y2, rfl⟩, s2⟩ := p
    obtain ⟨Tp, x1, x2, rfl, nT, rfl, e1, e2⟩ := y
    have hi' : i < ps.length := by simpa using hi
    have hx : i < xs.length := by rw [← hP.1]; exact hi'
    have ex1 : x1 = .int (i : Nat) := (Option.some.inj e1).symm
    have e2 : (ps.map V.ref)[i]? = some x2 := e2
    have ex2 : x2 = .ref ps[i] := by
      rw [List.getElem?_map, List.getElem?_eq_getElem hi'] at e2
      exact (Option.some.inj e2).symm
    subst ex1 ex2
    have s3 : Same H2 (upd H2 Tp (.tup [.int (i : Nat), .ref ps[i]])) := Same.new nT
    refine g_pair upd_same ?_
    generalize upd H2 Tp (.tup [.int (i : Nat), .ref ps[i]]) = H3 at s3
    have s4 : Same H H3 := s1.trans (s2.trans s3)
    have hv := (pa_ s4 hP).at hx
    walk_at "go"
    refine ⟨_, _, _, rfl, hv, rfl, plain_mark _, ?_⟩
    have ec : within (.int xs[i].1) 1 1000000000000000000 = true := by
      have := hV.comm _ (List.getElem_mem hx)
      simp [within, this.1, this.2]
    rw [ec, hV.mark _ (List.getElem_mem hx), Bool.and_self]
    walk_at "go"
    refine i_d (fun h0 => ?_) (fun h0 => ?_)
    · walk_at "go"
      refine o_ixX (sx_ s4 hS) (atI_ref (i - 1) (by omega) (by omega)) ?_
      have hx1 : i - 1 < xs.length := by omega
      have hv1 := (pa_ s4 hP).at hx1
      have hlt := hV.lt (show i - 1 < i by omega) hx
      walk_at "go"
      exact ⟨⟨_, _, rfl⟩, s2.trans s3⟩
    · walk_at "go"
      exact ⟨⟨_, _, rfl⟩, s2.trans s3⟩
def sp_need_last : Sp := fun vs H Q _ => ∃ a b, vs = [.int a, .int b] ∧ b ≤ a ∧ a ≤ GC ∧ Q .non H
theorem ok_need_last (T : Txt K mg) : FnOk P w K mg base CX0 3 T.need_last.f T.need_last.fd ["last", "least"] (sp_need_last) := by
  refine T.need_last.F.ok sc_need_last (fun vs H Q E h => ?_) (fun cdv A outer s H vs Q E hr h => ?_)
  · obtain ⟨a, b, rfl, _⟩ := h
    rfl
  · obtain ⟨a, b, rfl, h1, h2, k⟩ := h
    refine ⟨_, (pss_one (ps_if (pt_not (ptTruth (K := K) (pe_call (ok_is_within T) (hr.mono (by decide)) (by rfl) T.is_within.g T.is_within.F.kp T.is_within.b .nil pass0 (pa_cons (pv 0) (pa_cons (pv 1) (pa_cons (pe_glob (by rfl) T.c_GREATEST_COMMIT.h T.c_GREATEST_COMMIT.r) pa_nil)))) (by intro _; rfl))) (pss_one ps_never) pss_nil)), ?_⟩
    walk_at "go"
    refine ⟨_, _, _, rfl, rfl, ?_⟩
    have e : within (.int a) b 1000000000000000000 = true := by simp [within, h1, h2]
    rw [e]
    walk_at "go"
    exact k
def sp_need_snapshots (K : PySem.W.Frag) : Sp := fun vs H Q _ => ∃ a ns b, vs = [.ref a, .int b] ∧ SqT K H a (ns.map V.int) ∧ ns.length ≤ 1000 ∧ lotB ns = true ∧ (∀ z ∈ ns, z ≤ b) ∧ ∀ H', Same H H' → Q .non H'
theorem ok_need_snapshots (T : Txt K mg) : FnOk P w K mg base CX0 4 T.need_snapshots.f T.need_snapshots.fd ["open_lot", "last"] (sp_need_snapshots K) := by
  refine T.need_snapshots.F.ok sc_need_snapshots (fun vs H Q E h => ?_) (fun cdv A outer s H vs Q E hr h => ?_)
  · obtain ⟨a, ns, b, rfl, _⟩ := h
    rfl
  · obtain ⟨a, ns, b, rfl, hS, hl, hb, hz, k⟩ := h
    refine ⟨_, (pss_one (ps_if (PW.pt (pw_or (pt_not (ptTruth (K := K) (pe_call (ok_is_lot T) (hr.mono (by decide)) (by rfl) T.is_lot.g T.is_lot.F.kp T.is_lot.b .nil pass0 (pa_cons (pv 0) pa_nil)) (by intro _; rfl))) (pw_or1 (PW.pt (pw_and (pt_cmpR op_gt (pe_callB (cLen (K := K)) (by rfl) T.z_len PySem.boot_len (pa_cons (pv 0) pa_nil)) pe_int (nomark _)) (pw_and1 (pt_cmpR op_gt (pe_ix (ixLT (K := K)) (pv 0) (pe_un un_neg pe_int) (fun _ _ => rfl)) (pv 1) (nomark _)))))))) (pss_one ps_never) pss_nil)), ?_⟩
    walk_at "go"
    refine ⟨.ref a, 0, some (ns.map V.int), rfl, thing_int hS hl, fun H1 s1 => ?_⟩
    rw [show lotD (some (ns.map V.int)) = true from (lotV_int ns).trans hb]
    have hS1 := st_ s1 hS
    walk_at "go"
    refine i_d (fun h0 => ?_) (fun h0 => ?_)
    · walk_at "go"
      refine o_ixT hS1 (atI_negI (by omega)) ?_
      have hz1 := hz _ (getD_mem (ns := ns) (i := ns.length - 1) (by omega))
      walk_at "go"
      exact k _ s1
    · walk_at "go"
      exact k _ s1
def top (xs : List (Int × Option Int)) : Int := match xs with
  | [] => 0
  | v :: _ => v.1
def sp_need_all (K : PySem.W.Frag) : Sp := fun vs H Q _ => ∃ a ps xs b ns l, vs = [.ref a, .ref b, .int l] ∧ SqX K H a (ps.map V.ref) ∧ PairsAt K H ps xs ∧ Valid xs ∧ SqT K H b (ns.map V.int) ∧ ns.length ≤ 1000 ∧ lotB ns = true ∧ (∀ z ∈ ns, z ≤ l) ∧ top xs ≤ l ∧ l ≤ GC ∧ ∀ H', Same H H' → Q .non H'
theorem ok_need_all (T : Txt K mg) : FnOk P w K mg base CX0 7 T.need_all.f T.need_all.fd ["versions", "open_lot", "last"] (sp_need_all K) := by
  refine T.need_all.F.ok sc_need_all (fun vs H Q E h => ?_) (fun cdv A outer s H vs Q E hr h => ?_)
  · obtain ⟨a, ps, xs, b, ns, l, rfl, _⟩ := h
    rfl
  · obtain ⟨a, ps, xs, b, ns, l, rfl, hS, hP, hV, hT, hl, hb, hz, h1, h2, k⟩ := h
    refine ⟨_, (pss_cons (ps_expr (pe_call (ok_need_versions T) (hr.mono (by decide)) (by rfl) T.need_versions.g T.need_versions.F.kp T.need_versions.b .nil pass0 (pa_cons (pv 0) pa_nil)))
    (pss_cons (ps_expr (pe_call (ok_need_last T) (hr.mono (by decide)) (by rfl) T.need_last.g T.need_last.F.kp T.need_last.b .nil pass0 (pa_cons (pv 2) (pa_cons (pe_ifExp (pt_cmpR op_gt (pe_callB (cLen (K := K)) (by rfl) T.z_len PySem.boot_len (pa_cons (pv 0) pa_nil)) pe_int (nomark _)) (pe_ix (ixLT (K := K)) (pe_ix (ixLT (K := K)) (pv 0) pe_int (fun _ _ => rfl)) pe_int (fun _ _ => rfl)) pe_int) pa_nil))))
    (pss_one (ps_expr (pe_call (ok_need_snapshots T) (hr.mono (by decide)) (by rfl) T.need_snapshots.g T.need_snapshots.F.kp T.need_snapshots.b .nil pass0 (pa_cons (pv 1) (pa_cons (pv 2) pa_nil))))))), ?_⟩
    walk_at "go"
    refine ⟨a, ps, xs, rfl, hS, hP, hV, fun H1 s1 => ?_⟩
    walk_at "go"
    refine e_lenX (sx_ s1 hS) ?_
    walk_at "go"
    have hT1 := st_ s1 hT
    have fin : sp_need_snapshots K [.ref b, .int l] H1 (fun _ H2 => Q .non H2) E0 := ⟨b, ns, l, rfl, hT1, hl, hb, hz, fun H2 s2 => k _ (s1.trans s2)⟩
    refine i_d (fun h0 => ?_) (fun h0 => ?_)
    · walk_at "go"
      have hx : 0 < xs.length := by have := hP.1; omega
      refine o_ixX (sx_ s1 hS) (atI_ref 0 (by omega) (by omega)) ?_
      have hv := (pa_ s1 hP).at hx
      walk_at "go"
      refine ⟨_, _, rfl, ?_, h2, ?_⟩
      · cases xs with
        | nil => exact absurd hx (Nat.lt_irrefl _)
        | cons v r => exact h1
      · walk_at "go"
        exact fin
    · walk_at "go"
      refine ⟨_, _, rfl, ?_, h2, ?_⟩
      · cases xs with
        | nil => exact h1
        | cons v r => exact absurd (show 0 < (ps.length : Int) by have := hP.1; simp at this; omega) h0
      · walk_at "go"
        exact fin
end
end Vw

set_option Elab.async false
set_option linter.all false
set_option maxRecDepth 100000
set_option maxHeartbeats 4000000
namespace Vw
open PySem PySem.Spec PyProof.Rows L2 RT
local macro_rules | `(tactic| walk_at "s") => `(tactic| with_reducible first
  | refine' s_seq ?_ | refine' s_next ?_ | refine' s_set ?_ | refine' s_ret ?_ | refine' s_retN ?_ | refine' s_drop ?_ | refine' s_if ?_ | refine' s_ipI ?_
  | refine' e_c ?_ | refine' e_op ?_ | refine' e_un ?_ | refine' e_neg ?_ | refine' e_test ?_ | refine' e_tB ?_ | refine' e_bl ?_ | refine' e_and ?_ | refine' e_or ?_ | refine' e_not ?_
  | refine' e_andV ?_ | refine' e_orV ?_ | refine' e_notV ?_ | refine' e_kV ?_ | refine' e_ife ?_ | refine' e_nil ?_ | refine' e_cons ?_ | refine' e_cb ?_ | refine' e_call ?_ | refine' e_chain ?_
  | refine' o_addI ?_ | refine' o_eqI ?_ | refine' o_neI ?_ | refine' o_I0 ?_ | refine' o_pow16 ?_ | refine' o_pow17 ?_ | refine' o_pow18 ?_ | refine' o_pow19 ?_ | refine' o_pow30 ?_ | refine' o_pow31 ?_ | refine' o_pow1 ?_ | refine' o_pow2 ?_ | refine' o_pow3 ?_ | refine' o_pow4 ?_ | refine' o_pow5 ?_ | refine' o_pow6 ?_ | refine' o_pow9 ?_ | refine' o_pow10 ?_ | refine' o_pow12 ?_ | refine' o_pow15 ?_ | refine' o_pow20 ?_ | refine' e_lst ?_ | refine' e_tup ?_ | refine' iteT ?_ | refine' i_nt ?_ | refine' i_nf ?_ | refine' iteF ?_ | refine' c_int ?_ | refine' c_abs ?_ | refine' c_min2 ?_ | refine' c_max2 ?_ | refine' e_tru ?_ | refine' t_bl ?_ | refine' t_non ?_ | refine' t_int ?_ | refine' isN_non ?_ | refine' isN_int ?_ | refine' isN_ref ?_ | refine' isN_str ?_ | refine' isN_bl ?_ | refine' noN_non ?_ | refine' noN_int ?_ | refine' noN_ref ?_ | refine' noN_str ?_ | refine' noN_bl ?_
  | refine' s_brk ?_ | refine' s_cont ?_ | refine' s_for ?_ | refine' e_lc ?_ | refine' e_dc ?_ | refine' e_yes ?_ | refine' i_rng1 ?_ | refine' i_lst0 ?_ | refine' i_tup0 ?_ | refine' e_bm ?_ | refine' e_sl ?_ | refine' e_np ?_ | refine' e_pt ?_ | refine' e_ptI ?_ | refine' e_din ?_ | refine' i_enum0 ?_ | refine' i_rev0 ?_ | refine' g_sub ?_ | refine' s_asg ?_)
local macro_rules | `(tactic| walk_at "v") => `(tactic| ((with_reducible refine' e_var ?hv ?_); (case hv => exact rfl)))
local macro_rules | `(tactic| walk_at "a") => `(tactic| ((with_reducible refine' s_aug ?hv ?_); (case hv => exact rfl)))
local macro_rules | `(tactic| walk_at "m") => `(tactic| first
  | ((with_reducible refine' o_mod ?hv ?_); (case hv => first | decide | omega))
  | ((with_reducible refine' o_mulR ?hv ?_); (case hv => omega))
  | ((with_reducible refine' o_mulL ?hv ?_); (case hv => omega))
  | ((with_reducible refine' o_div ?hv ?hw ?_); (case hv => omega); (case hw => omega))
  | ((with_reducible refine' o_pow _ ?hv ?hw ?hx ?_); (case hv => exact rfl); (case hw => decide); (case hx => decide)))
local macro_rules | `(tactic| walk_at "i") => `(tactic| (first
  | ((with_reducible refine' isi_int true ?hv ?_); (case hv => exact (by decide +kernel)))
  | ((with_reducible refine' isi_int false ?hv ?_); (case hv => exact (by decide +kernel)))
  | ((with_reducible refine' isi_non true ?hv ?_); (case hv => exact (by decide +kernel)))
  | ((with_reducible refine' isi_non false ?hv ?_); (case hv => exact (by decide +kernel)))
  | ((with_reducible refine' isi_str true ?hv ?_); (case hv => exact (by decide +kernel)))
  | ((with_reducible refine' isi_str false ?hv ?_); (case hv => exact (by decide +kernel)))
  | ((with_reducible refine' isi_bl true ?hv ?_); (case hv => exact (by decide +kernel)))
  | ((with_reducible refine' isi_bl false ?hv ?_); (case hv => exact (by decide +kernel)))
  | ((with_reducible refine' isi_t true ?hw ?hv ?_); (case hw => assumption); (case hv => exact (by decide +kernel)))
  | ((with_reducible refine' isi_t false ?hw ?hv ?_); (case hw => assumption); (case hv => exact (by decide +kernel)))
  | ((with_reducible refine' isi_l true ?hw ?hv ?_); (case hw => assumption); (case hv => exact (by decide +kernel)))
  | ((with_reducible refine' isi_l false ?hw ?hv ?_); (case hw => assumption); (case hv => exact (by decide +kernel)))
  | ((with_reducible refine' isi_tup true ?hw ?hv ?_); (case hw => assumption); (case hv => exact (by decide +kernel)))
  | ((with_reducible refine' isi_tup false ?hw ?hv ?_); (case hw => assumption); (case hv => exact (by decide +kernel)))
  | ((with_reducible refine' isi_lst true ?hw ?hv ?_); (case hw => assumption); (case hv => exact (by decide +kernel)))
  | ((with_reducible refine' isi_lst false ?hw ?hv ?_); (case hw => assumption); (case hv => exact (by decide +kernel)))))
local macro_rules | `(tactic| walk_at "om") => `(tactic| first | omega | (simp only [List.length_cons, List.length_nil, List.length_map, List.length_append, List.length_range]; omega))
local macro_rules | `(tactic| walk_at "d") => `(tactic| (first
  | ((with_reducible refine' i_dt ?hv ?_); (case hv => walk_at "om"))
  | ((with_reducible refine' i_df ?hv ?_); (case hv => walk_at "om"))
  | ((with_reducible refine' i_ndt ?hv ?_); (case hv => walk_at "om"))
  | ((with_reducible refine' i_ndf ?hv ?_); (case hv => walk_at "om"))))
local macro_rules | `(tactic| walk_at "x") => `(tactic| first
  | ((with_reducible refine' o_ixA ?hv ?hw ?_); (case hv => assumption); (case hw => exact rfl))
  | ((with_reducible refine' o_ixU ?hv ?hw ?_); (case hv => assumption); (case hw => exact rfl))
  | ((with_reducible refine' o_ixL ?hv ?hw ?_); (case hv => assumption); (case hw => exact rfl))
  | ((with_reducible refine' o_ixT ?hv ?hw ?_); (case hv => assumption); (case hw => exact rfl))
  | ((with_reducible refine' set_ ?hv ?hw ?_); (case hv => assumption); (case hw => exact rfl))
  | ((with_reducible refine' e_lenM ?hv ?_); (case hv => first | assumption | exact slO (by assumption)))
  | ((with_reducible refine' e_lenN ?hv ?_); (case hv => first | assumption | exact stO (by assumption)))
  | ((with_reducible refine' e_lenL ?hv ?_); (case hv => first | assumption | exact slO (by assumption)))
  | ((with_reducible refine' e_lenT ?hv ?_); (case hv => first | assumption | exact stO (by assumption))))
local macro_rules | `(tactic| walk_at "c") => `(tactic| first
  | ((with_reducible refine' c_listL ?hv ?_); (case hv => assumption))
  | ((with_reducible refine' c_listT ?hv ?_); (case hv => assumption))
  | ((with_reducible refine' c_tupL ?hv ?_); (case hv => first | assumption | exact slO (by assumption)))
  | ((with_reducible refine' c_tupT ?hv ?_); (case hv => assumption))
  | ((with_reducible refine' t_lst ?hv ?_); (case hv => first | assumption | exact slO (by assumption)))
  | ((with_reducible refine' t_tup ?hv ?_); (case hv => assumption))
  | ((with_reducible refine' r_sl ?hv ?_); (case hv => first | assumption | exact slO (by assumption)))
  | ((with_reducible refine' o_inL ?hv ?_); (case hv => first | assumption | exact slO (by assumption)))
  | ((with_reducible refine' o_inT ?hv ?_); (case hv => first | assumption | exact stO (by assumption)))
  | ((with_reducible refine' o_niL ?hv ?_); (case hv => first | assumption | exact slO (by assumption)))
  | ((with_reducible refine' o_niT ?hv ?_); (case hv => first | assumption | exact stO (by assumption)))
  | ((with_reducible refine' ty_lst ?hv ?_); (case hv => assumption)))
local macro_rules | `(tactic| walk_at "mo") => `(tactic| repeat' (first | exact m_yes | exact m_var | exact m_c | exact m_I0 | exact m_I | exact m_ix | exact m_add | exact m_in | exact m_int1 | exact m_abs | exact m_nil | refine' m_and ?_ ?_ | refine' m_test ?_ | refine' m_tB ?_ | refine' m_op ?_ ?_ ?_ | refine' m_cons ?_ ?_ | refine' m_cb ?_ ?_))
local macro_rules | `(tactic| walk_at "go") => `(tactic| repeat' (first | walk_at "s" | walk_at "v" | walk_at "a" | walk_at "x" | walk_at "m" | walk_at "c" | walk_at "i" | walk_at "d"))

section
variable {P : Program} {w : World} {K : PySem.W.Frag} {mg : Str → Option Value} {base : Heap}
def sp_asked_of (K : PySem.W.Frag) : Sp := fun vs H Q _ => ∃ b ns l, vs = [.ref b, .int l] ∧ SqT K H b (ns.map V.int) ∧ ns.length < 60 ∧
  ∀ p H' (as : List Int), H p = none → Same H H' → H' p = some (.lst (as.map V.int)) → as.Pairwise (· < ·) → (∀ z, z ∈ as ↔ z ∈ ns ++ [l]) → as.length < 64 → Q (.ref p) H'
theorem ok_asked_of (T : Txt K mg) : FnOk P w K mg base CX0 1 T.asked_of.f T.asked_of.fd ["open_lot", "last"] (sp_asked_of K) := by
  refine T.asked_of.F.ok sc_asked_of (fun vs H Q E h => ?_) (fun cdv A outer s H vs Q E hr h => ?_)
  · obtain ⟨b, ns, l, rfl, _⟩ := h
    rfl
  · obtain ⟨b, ns, l, rfl, hT, hl, k⟩ := h
    refine ⟨_, (pss_one (ps_ret (pe_callB (cSortSet (w := w) rfl) (by rfl) T.z_sorted (by decide +kernel) (pa_cons (pe_callTy (cSetL (K := K) (w := w) rfl) (by rfl) T.z_set (by decide +kernel) (pa_cons (pe_op oAdd (pe_callTy (cListOf (K := K)) (by rfl) T.z_list (by decide +kernel) (pa_cons (pv 0) pa_nil)) (pe_lst (pa_cons (pv 1) pa_nil))) pa_nil)) pa_nil)))), ?_⟩
    walk_at "go"
    refine n_new0 fun p1 H1 n1 s1 h1 => ?_
    walk_at "go"
    refine n_new (le_size (by simp)) fun p2 H2 n2 s2 h2 => ?_
    have h12 := at_ s2 h1
    walk_at "go"
    refine o_cat h12 h2 (by simp; omega) (n_new0 fun p3 H3 n3 s3 h3 => ?_)
    have e3 : ns.map V.int ++ [V.int l] = (ns ++ [l]).map V.int := by rw [List.map_append]; rfl
    rw [e3] at h3
    walk_at "go"
    refine c_setL (slO h3) (by simp; omega) fun p4 c H4 hc n4 s4 h4 => ?_
    walk_at "go"
    have hc' : c < 64 := by simp at hc; omega
    refine c_sortS h4 hc' fun as p5 H5 a1 a2 a3 n5 s5 h5 => ?_
    have ss := s1.trans (s2.trans (s3.trans (s4.trans s5)))
    exact k p5 H5 as (free_ (s1.trans (s2.trans (s3.trans s4))) n5) ss h5 a1 (fun z => (a2 z).trans (by simp)) (by omega)
/-- the place of the version that is seen -/
def fi (xs : List (Int × Option Int)) (s : Int) : Nat := xs.findIdx fun v => decide (v.1 ≤ s)
def seenV (ps : List Addr) (xs : List (Int × Option Int)) (s : Int) : V := match ps[fi xs s]? with
  | some p => .ref p
  | none => .non
theorem fi_le {xs : List (Int × Option Int)} {s : Int} : fi xs s ≤ xs.length := List.findIdx_le_length
theorem fi_min {xs : List (Int × Option Int)} {s : Int} {j : Nat} (hj : j < xs.length) (h : xs[j].1 ≤ s) : fi xs s ≤ j := by
  refine Nat.not_lt.mp fun z => ?_
  have := List.not_of_lt_findIdx (p := fun v : Int × Option Int => decide (v.1 ≤ s)) (xs := xs) (i := j) z
  simp at this
  omega
theorem fi_at {xs : List (Int × Option Int)} {s : Int} (h : fi xs s < xs.length) : xs[fi xs s].1 ≤ s := by
  have := List.findIdx_getElem (p := fun v : Int × Option Int => decide (v.1 ≤ s)) (xs := xs) (w := h)
  exact of_decide_eq_true this
theorem fi_behind {xs : List (Int × Option Int)} (hV : Valid xs) {s : Int} {j : Nat} (h : fi xs s ≤ j) (hj : j < xs.length) : xs[j].1 ≤ s := by
  rcases Nat.lt_or_eq_of_le h with z | z
  · have h1 := fi_at (xs := xs) (s := s) (by omega)
    have h2 := hV.lt z hj
    omega
  · have h1 := fi_at (xs := xs) (s := s) (by omega)
    simp only [z] at h1
    exact h1
theorem fi_mono {xs : List (Int × Option Int)} {s t : Int} (h : s ≤ t) : fi xs t ≤ fi xs s := by
  rcases Nat.lt_or_ge (fi xs s) xs.length with z | z
  · exact fi_min z (by have := fi_at z; omega)
  · exact Nat.le_trans fi_le z
def slotN (i : Nat) (σ : L2.St) : Nat := match σ[i]? with
  | some (some (V.int z)) => z.toNat
  | _ => 0
def sp_seen_each (K : PySem.W.Frag) : Sp := fun vs H Q _ => ∃ a ps xs b, ∃ as : List Int, vs = [.ref a, .ref b] ∧ SqX K H a (ps.map V.ref) ∧ PairsAt K H ps xs ∧ Valid xs ∧ H b = some (.lst (as.map V.int)) ∧ as.Pairwise (· < ·) ∧ as.length < 64 ∧
  ∀ p H', H p = none → Same H H' → H' p = some (.lst (as.map (seenV ps xs))) → Q (.ref p) H'
theorem ok_seen_each (T : Txt K mg) : FnOk P w K mg base CX0 1 T.seen_each.f T.seen_each.fd ["versions", "snapshots"] (sp_seen_each K) := by
  refine T.seen_each.F.ok sc_seen_each (fun vs H Q E h => ?_) (fun cdv A outer s H vs Q E hr h => ?_)
  · obtain ⟨a, ps, xs, b, as, rfl, _⟩ := h
    rfl
  · obtain ⟨a, ps, xs, b, as, rfl, hS, hP, hV, hA, hasc, hlen, k⟩ := h
    refine ⟨_, (pss_cons (ps_set (i := 2) sc_seen_each.nd rfl (Or.inl rfl) (pe_lst pa_nil))
    (pss_cons (ps_set (i := 3) sc_seen_each.nd rfl (Or.inl rfl) (pe_callB (cLen (K := K)) (by rfl) T.z_len PySem.boot_len (pa_cons (pv 0) pa_nil)))
    (pss_cons (ps_for PassesOwn.never rfl (piL (K := K) (pv 1)) (pg_name (i := 4) sc_seen_each.nd rfl (Or.inl rfl))
      (pss_cons (ps_while PassesOwn.never (PW.pt (pw_and (pt_cmpR op_gt (pv 3) pe_int (nomark _)) (pw_and1 (pt_cmpR op_le (pe_ix (ixLT (K := K)) (pe_ix (ixLT (K := K)) (pv 0) (pe_op op_sub (pv 3) pe_int) (fun _ _ => rfl)) pe_int (fun _ _ => rfl)) (pv 4) (nomark _))))) (pss_one (ps_aug (i := 3) sc_seen_each.nd rfl (Or.inl rfl) pe_int ip_sub)))
    (pss_one (ps_expr (peApp (K := K) (pe_bm PySem.F.plainAttrs_list PySem.F.slot_list_append PySem.F.type_list_append mt_append (pv 2) (pa_cons (pe_ifExp (pt_cmpR oLt (pv 3) (pe_callB (cLen (K := K)) (by rfl) T.z_len PySem.boot_len (pa_cons (pv 0) pa_nil)) (nomark _)) (pe_ix (ixLT (K := K)) (pv 0) (pv 3) (fun _ _ => rfl)) pe_non) pa_nil)))))))
    (pss_one (ps_ret (pv 2)))))), ?_⟩
    walk_at "go"
    refine n_new (by decide) fun f H1 n1 s1 h1 => ?_
    walk_at "go"
    refine e_lenX (sx_ s1 hS) ?_
    walk_at "go"
    have hA1 := at_ s1 hA
    refine i_lst (slO hA1) ?_
    refine l_lst (xs := as.map V.int) (fun i σ H' => (∃ (j : Nat) (y : Option V), σ = [some (.ref a), some (.ref b), some (.ref f), some (.int (j : Nat)), y] ∧ j ≤ xs.length ∧ ∀ s, as[i]? = some s → fi xs s ≤ j) ∧ Same H H' ∧ H' f = some (.lst ((as.take i).map (seenV ps xs)))) ?_ (fun i σ H' hi p => slO (at_ p.2.1 hA)) (fun σ H' p => ?_) (fun i x σ H' hx p => ?_)
    · refine ⟨⟨ps.length, none, rfl, Nat.le_of_eq hP.1, fun s _ => by rw [hP.1]; exact fi_le⟩, s1, ?_⟩
      rw [h1]; rfl
    · obtain ⟨⟨j, y, rfl, hj, _⟩, s2, h2⟩ := p
      rw [List.length_map, List.take_length] at h2
      walk_at "go"
      exact k f H' n1 s2 h2
    · obtain ⟨⟨j, y, rfl, hj, hfi⟩, s2, h2⟩ := p
      have hi : i < as.length := by
        have := (List.getElem?_eq_some_iff.mp hx).1
        simpa using this
      have ex : x = .int as[i] := by
        rw [List.getElem?_map, List.getElem?_eq_getElem hi] at hx
        exact (Option.some.inj hx).symm
      subst ex
      have hf := hfi _ (List.getElem?_eq_getElem hi)
      walk_at "go"
      refine while_ (μ := fun σ _ => slotN 3 σ) (fun σ2 H2 => H2 = H' ∧ ∃ j' : Nat, σ2 = [some (.ref a), some (.ref b), some (.ref f), some (.int (j' : Nat)), some (.int as[i])] ∧ fi xs as[i] ≤ j' ∧ j' ≤ xs.length) ⟨rfl, j, rfl, hf, hj⟩ ?_ (by walk_at "mo")
      rintro σ2 H2 ⟨eH, j', rfl, g1, g2⟩
      have eH := eH.symm
      subst eH
      have hP' := pa_ s2 hP
      have done : fi xs as[i] = j' → tDrop (tBM K "list" rAppend (tVar 2) (tCons (tIf (tTest (tOp (rI0 fun i j => V.bl (decide (i < j))) (tVar 3) (tCB (rLen' K) (tCons (tVar 0) tNil)))) (tOp (rIxLT K) (tVar 0) (tVar 3)) (tC V.non)) tNil))
          { nx := fun σ H' => (∃ (j : Nat) (y : Option V), σ = [some (.ref a), some (.ref b), some (.ref f), some (.int (j : Nat)), y] ∧ j ≤ xs.length ∧ ∀ s, as[i + 1]? = some s → fi xs s ≤ j) ∧ Same H H' ∧ H' f = some (.lst ((as.take (i + 1)).map (seenV ps xs))), rt := Q }
          [some (.ref a), some (.ref b), some (.ref f), some (.int (j' : Nat)), some (.int as[i])] H' := fun ej => by
        have e1 : (as.take (i + 1)).map (seenV ps xs) = (as.take i).map (seenV ps xs) ++ [seenV ps xs as[i]] := by
          rw [List.take_add_one, List.getElem?_eq_getElem hi, List.map_append]; rfl
        have nxt : ∀ s, as[i + 1]? = some s → fi xs s ≤ j' := fun s hs => by
          obtain ⟨hi1, e⟩ := List.getElem?_eq_some_iff.mp hs
          have := List.pairwise_iff_getElem.mp hasc i (i + 1) hi hi1 (by omega)
          rw [← ej, ← e]
          exact fi_mono (by omega)
        walk_at "go"
        refine e_lenX (sx_ s2 hS) ?_
        walk_at "go"
        refine i_d (fun h0 => ?_) (fun h0 => ?_)
        · have hj : j' < ps.length := by omega
          walk_at "go"
          refine o_ixX (sx_ s2 hS) (atI_ref j' rfl hj) ?_
          walk_at "go"
          refine r_app h2 (by simp; omega) fun H3 o3 h3 => ?_
          refine ⟨⟨j', _, rfl, g2, nxt⟩, same_oth n1 s2 o3, ?_⟩
          have e2 : seenV ps xs as[i] = .ref ps[j'] := by
            unfold seenV
            rw [ej, List.getElem?_eq_getElem hj]
          rw [h3, e1, e2]
        · walk_at "go"
          refine r_app h2 (by simp; omega) fun H3 o3 h3 => ?_
          refine ⟨⟨j', _, rfl, g2, nxt⟩, same_oth n1 s2 o3, ?_⟩
          have e2 : seenV ps xs as[i] = .non := by
            unfold seenV
            rw [ej, List.getElem?_eq_none (by omega)]
          rw [h3, e1, e2]
      walk_at "go"
      refine i_d (fun h0 => ?_) (fun h0 => ?_)
      · have hj1 : j' - 1 < xs.length := by omega
        have hv := hP'.at hj1
        walk_at "go"
        refine o_ixX (sx_ s2 hS) (atI_ref (j' - 1) (by omega) (by rw [hP.1]; exact hj1)) ?_
        walk_at "go"
        refine i_d (fun h1 => ?_) (fun h1 => ?_)
        · walk_at "go"
          have e : ((j' : Nat) : Int) - 1 = ((j' - 1 : Nat) : Int) := by omega
          refine ⟨⟨rfl, j' - 1, ?_, fi_min hj1 h1, by omega⟩, ?_⟩
          · rw [e]; rfl
          · show (((j' : Nat) : Int) - 1).toNat < ((j' : Nat) : Int).toNat
            omega
        · refine done (Nat.le_antisymm g1 (Nat.not_lt.mp fun z => h1 ?_))
          exact fi_behind hV (by omega) hj1
      · refine iteF ?_
        exact done (by omega)
end
end Vw

set_option Elab.async false
set_option linter.all false
set_option maxRecDepth 100000
set_option maxHeartbeats 4000000
namespace Vw
open PySem PySem.Spec PyProof.Rows L2 RT
local macro_rules | `(tactic| walk_at "s") => `(tactic| with_reducible first
  | refine' s_seq ?_ | refine' s_next ?_ | refine' s_set ?_ | refine' s_ret ?_ | refine' s_retN ?_ | refine' s_drop ?_ | refine' s_if ?_ | refine' s_ipI ?_
  | refine' e_c ?_ | refine' e_op ?_ | refine' e_un ?_ | refine' e_neg ?_ | refine' e_test ?_ | refine' e_tB ?_ | refine' e_bl ?_ | refine' e_and ?_ | refine' e_or ?_ | refine' e_not ?_
  | refine' e_andV ?_ | refine' e_orV ?_ | refine' e_notV ?_ | refine' e_kV ?_ | refine' e_ife ?_ | refine' e_nil ?_ | refine' e_cons ?_ | refine' e_cb ?_ | refine' e_call ?_ | refine' e_chain ?_
  | refine' o_addI ?_ | refine' o_eqI ?_ | refine' o_neI ?_ | refine' o_I0 ?_ | refine' o_pow16 ?_ | refine' o_pow17 ?_ | refine' o_pow18 ?_ | refine' o_pow19 ?_ | refine' o_pow30 ?_ | refine' o_pow31 ?_ | refine' o_pow1 ?_ | refine' o_pow2 ?_ | refine' o_pow3 ?_ | refine' o_pow4 ?_ | refine' o_pow5 ?_ | refine' o_pow6 ?_ | refine' o_pow9 ?_ | refine' o_pow10 ?_ | refine' o_pow12 ?_ | refine' o_pow15 ?_ | refine' o_pow20 ?_ | refine' e_lst ?_ | refine' e_tup ?_ | refine' iteT ?_ | refine' i_nt ?_ | refine' i_nf ?_ | refine' iteF ?_ | refine' c_int ?_ | refine' c_abs ?_ | refine' c_min2 ?_ | refine' c_max2 ?_ | refine' e_tru ?_ | refine' t_bl ?_ | refine' t_non ?_ | refine' t_int ?_ | refine' isN_non ?_ | refine' isN_int ?_ | refine' isN_ref ?_ | refine' isN_str ?_ | refine' isN_bl ?_ | refine' noN_non ?_ | refine' noN_int ?_ | refine' noN_ref ?_ | refine' noN_str ?_ | refine' noN_bl ?_
  | refine' s_brk ?_ | refine' s_cont ?_ | refine' s_for ?_ | refine' e_lc ?_ | refine' e_dc ?_ | refine' e_yes ?_ | refine' i_rng1 ?_ | refine' i_lst0 ?_ | refine' i_tup0 ?_ | refine' e_bm ?_ | refine' e_sl ?_ | refine' e_np ?_ | refine' e_pt ?_ | refine' e_ptI ?_ | refine' e_din ?_ | refine' i_enum0 ?_ | refine' i_rev0 ?_ | refine' g_sub ?_ | refine' s_asg ?_)
local macro_rules | `(tactic| walk_at "v") => `(tactic| ((with_reducible refine' e_var ?hv ?_); (case hv => exact rfl)))
local macro_rules | `(tactic| walk_at "a") => `(tactic| ((with_reducible refine' s_aug ?hv ?_); (case hv => exact rfl)))
local macro_rules | `(tactic| walk_at "m") => `(tactic| first
  | ((with_reducible refine' o_mod ?hv ?_); (case hv => first | decide | omega))
  | ((with_reducible refine' o_mulR ?hv ?_); (case hv => omega))
  | ((with_reducible refine' o_mulL ?hv ?_); (case hv => omega))
  | ((with_reducible refine' o_div ?hv ?hw ?_); (case hv => omega); (case hw => omega))
  | ((with_reducible refine' o_pow _ ?hv ?hw ?hx ?_); (case hv => exact rfl); (case hw => decide); (case hx => decide)))
local macro_rules | `(tactic| walk_at "i") => `(tactic| (first
  | ((with_reducible refine' isi_int true ?hv ?_); (case hv => exact (by decide +kernel)))
  | ((with_reducible refine' isi_int false ?hv ?_); (case hv => exact (by decide +kernel)))
  | ((with_reducible refine' isi_non true ?hv ?_); (case hv => exact (by decide +kernel)))
  | ((with_reducible refine' isi_non false ?hv ?_); (case hv => exact (by decide +kernel)))
  | ((with_reducible refine' isi_str true ?hv ?_); (case hv => exact (by decide +kernel)))
  | ((with_reducible refine' isi_str false ?hv ?_); (case hv => exact (by decide +kernel)))
  | ((with_reducible refine' isi_bl true ?hv ?_); (case hv => exact (by decide +kernel)))
  | ((with_reducible refine' isi_bl false ?hv ?_); (case hv => exact (by decide +kernel)))
  | ((with_reducible refine' isi_t true ?hw ?hv ?_); (case hw => assumption); (case hv => exact (by decide +kernel)))
  | ((with_reducible refine' isi_t false ?hw ?hv ?_); (case hw => assumption); (case hv => exact (by decide +kernel)))
  | ((with_reducible refine' isi_l true ?hw ?hv ?_); (case hw => assumption); (case hv => exact (by decide +kernel)))
  | ((with_reducible refine' isi_l false ?hw ?hv ?_); (case hw => assumption); (case hv => exact (by decide +kernel)))
  | ((with_reducible refine' isi_tup true ?hw ?hv ?_); (case hw => assumption); (case hv => exact (by decide +kernel)))
  | ((with_reducible refine' isi_tup false ?hw ?hv ?_); (case hw => assumption); (case hv => exact (by decide +kernel)))
  | ((with_reducible refine' isi_lst true ?hw ?hv ?_); (case hw => assumption); (case hv => exact (by decide +kernel)))
  | ((with_reducible refine' isi_lst false ?hw ?hv ?_); (case hw => assumption); (case hv => exact (by decide +kernel)))))
local macro_rules | `(tactic| walk_at "om") => `(tactic| first | omega | (simp only [List.length_cons, List.length_nil, List.length_map, List.length_append, List.length_range]; omega))
local macro_rules | `(tactic| walk_at "d") => `(tactic| (first
  | ((with_reducible refine' i_dt ?hv ?_); (case hv => walk_at "om"))
  | ((with_reducible refine' i_df ?hv ?_); (case hv => walk_at "om"))
  | ((with_reducible refine' i_ndt ?hv ?_); (case hv => walk_at "om"))
  | ((with_reducible refine' i_ndf ?hv ?_); (case hv => walk_at "om"))))
local macro_rules | `(tactic| walk_at "x") => `(tactic| first
  | ((with_reducible refine' o_ixA ?hv ?hw ?_); (case hv => assumption); (case hw => exact rfl))
  | ((with_reducible refine' o_ixU ?hv ?hw ?_); (case hv => assumption); (case hw => exact rfl))
  | ((with_reducible refine' o_ixL ?hv ?hw ?_); (case hv => assumption); (case hw => exact rfl))
  | ((with_reducible refine' o_ixT ?hv ?hw ?_); (case hv => assumption); (case hw => exact rfl))
  | ((with_reducible refine' set_ ?hv ?hw ?_); (case hv => assumption); (case hw => exact rfl))
  | ((with_reducible refine' e_lenM ?hv ?_); (case hv => first | assumption | exact slO (by assumption)))
  | ((with_reducible refine' e_lenN ?hv ?_); (case hv => first | assumption | exact stO (by assumption)))
  | ((with_reducible refine' e_lenL ?hv ?_); (case hv => first | assumption | exact slO (by assumption)))
  | ((with_reducible refine' e_lenT ?hv ?_); (case hv => first | assumption | exact stO (by assumption))))
local macro_rules | `(tactic| walk_at "c") => `(tactic| first
  | ((with_reducible refine' c_listL ?hv ?_); (case hv => assumption))
  | ((with_reducible refine' c_listT ?hv ?_); (case hv => assumption))
  | ((with_reducible refine' c_tupL ?hv ?_); (case hv => first | assumption | exact slO (by assumption)))
  | ((with_reducible refine' c_tupT ?hv ?_); (case hv => assumption))
  | ((with_reducible refine' t_lst ?hv ?_); (case hv => first | assumption | exact slO (by assumption)))
  | ((with_reducible refine' t_tup ?hv ?_); (case hv => assumption))
  | ((with_reducible refine' r_sl ?hv ?_); (case hv => first | assumption | exact slO (by assumption)))
  | ((with_reducible refine' o_inL ?hv ?_); (case hv => first | assumption | exact slO (by assumption)))
  | ((with_reducible refine' o_inT ?hv ?_); (case hv => first | assumption | exact stO (by assumption)))
  | ((with_reducible refine' o_niL ?hv ?_); (case hv => first | assumption | exact slO (by assumption)))
  | ((with_reducible refine' o_niT ?hv ?_); (case hv => first | assumption | exact stO (by assumption)))
  | ((with_reducible refine' ty_lst ?hv ?_); (case hv => assumption)))
local macro_rules | `(tactic| walk_at "mo") => `(tactic| repeat' (first | exact m_yes | exact m_var | exact m_c | exact m_I0 | exact m_I | exact m_ix | exact m_add | exact m_in | exact m_int1 | exact m_abs | exact m_nil | refine' m_and ?_ ?_ | refine' m_test ?_ | refine' m_tB ?_ | refine' m_op ?_ ?_ ?_ | refine' m_cons ?_ ?_ | refine' m_cb ?_ ?_))
local macro_rules | `(tactic| walk_at "go") => `(tactic| repeat' (first | walk_at "s" | walk_at "v" | walk_at "a" | walk_at "x" | walk_at "m" | walk_at "c" | walk_at "i" | walk_at "d"))

section
variable {P : Program} {w : World} {K : PySem.W.Frag} {mg : Str → Option Value} {base : Heap}
def hit (xs : List (Int × Option Int)) (c s : Int) : Bool := match xs[fi xs s]? with
  | some v => decide (v.1 = c)
  | none => false
def seenC (xs : List (Int × Option Int)) (as : List Int) (c : Int) : Bool := as.any (hit xs c)
theorem seenC_congr {xs : List (Int × Option Int)} {as bs : List Int} (h : ∀ z, z ∈ as ↔ z ∈ bs) : seenC xs as = seenC xs bs := by
  funext c
  unfold seenC
  rw [Bool.eq_iff_iff, List.any_eq_true, List.any_eq_true]
  exact ⟨fun ⟨z, a, b⟩ => ⟨z, (h z).mp a, b⟩, fun ⟨z, a, b⟩ => ⟨z, (h z).mpr a, b⟩⟩
def keepF (S : Int → Bool) (acc : List Int) (v : Int × Option Int) : List Int := if S v.1 && (v.2.isSome || !acc.isEmpty) then acc ++ [v.1] else acc
def keepC (S : Int → Bool) (xs : List (Int × Option Int)) : List Int := xs.reverse.foldl (keepF S) []
theorem keepF_len (S : Int → Bool) (acc : List Int) (v : Int × Option Int) : (keepF S acc v).length ≤ acc.length + 1 := by
  unfold keepF
  split <;> simp
theorem foldl_keep_len (S : Int → Bool) : ∀ (l : List (Int × Option Int)) (acc : List Int), (l.foldl (keepF S) acc).length ≤ acc.length + l.length
  | [], acc => by simp
  | v :: l, acc => by
    rw [List.foldl_cons]
    have h1 := foldl_keep_len S l (keepF S acc v)
    have h2 := keepF_len S acc v
    simp only [List.length_cons]
    omega
def sp_needed_commits (K : PySem.W.Frag) : Sp := fun vs H Q _ => ∃ a ps xs b l, ∃ ns : List Int, vs = [.ref a, .ref b, .int l] ∧ SqX K H a (ps.map V.ref) ∧ PairsAt K H ps xs ∧ Valid xs ∧ SqT K H b (ns.map V.int) ∧ ns.length < 60 ∧
  ∀ p H', H p = none → Same H H' → H' p = some (.tup ((keepC (seenC xs (ns ++ [l])) xs).map V.int)) → Q (.ref p) H'
theorem ok_needed_commits (T : Txt K mg) : FnOk P w K mg base CX0 2 T.needed_commits.f T.needed_commits.fd ["versions", "open_lot", "last"] (sp_needed_commits K) := by
  refine T.needed_commits.F.ok sc_needed_commits (fun vs H Q E h => ?_) (fun cdv A outer s H vs Q E hr h => ?_)
  · obtain ⟨a, ps, xs, b, l, ns, rfl, _⟩ := h
    rfl
  · obtain ⟨a, ps, xs, b, l, ns, rfl, hS, hP, hV, hB, hl, k⟩ := h
    refine ⟨_, (pss_cons (ps_setDc (i := 3) (own := [("version", 7)]) rfl sc_needed_commits.nd rfl rfl (swD_true rfl rfl rfl (by decide +kernel)) (piL (K := K) (pe_call (ok_seen_each T) (hr.mono (by decide)) (by rfl) T.seen_each.g T.seen_each.F.kp T.seen_each.b .nil pass0 (pa_cons (pv 0) (pa_cons (pe_call (ok_asked_of T) (hr.mono (by decide)) (by rfl) T.asked_of.g T.asked_of.F.kp T.asked_of.b .nil pass0 (pa_cons (pv 1) (pa_cons (pv 2) pa_nil))) pa_nil)))) (blkOk_by (N := n_needed_commits) (sc := defScope s_needed_commits) (by decide +kernel)) (fun _ _ _ _ _ => (pg_name (i := 7) sc_needed_commits.nd rfl (Or.inl rfl))) (fun _ _ _ _ _ => (pts_one (pt_cmpR oNotN (pv 7) pe_non (nomark _)))) (fun _ _ _ _ _ => (pe_ix (ixLT (K := K)) (pv 7) pe_int (fun _ _ => rfl))) (fun _ _ _ _ _ => pe_bl))
    (pss_cons (ps_set (i := 4) sc_needed_commits.nd rfl (Or.inl rfl) (pe_lst pa_nil))
    (pss_cons (ps_for PassesOwn.never rfl (piRev (K := K) (by rfl) T.z_reversed (pv 0)) (pgTup (K := K) (pg_tup rfl (pgs_cons (pg_name (i := 5) sc_needed_commits.nd rfl (Or.inl rfl)) (pgs_cons (pg_name (i := 6) sc_needed_commits.nd rfl (Or.inl rfl)) pgs_nil))))
      (pss_one (ps_if (PW.pt (pw_and (pt_cmp (pc_din (hu_of hr) (pv 5) (pv 3))) (pw_and1 (PW.pt (pw_or (pt_cmpR oNotN (pv 6) pe_non (nomark _)) (pw_or1 (ptTruth (K := K) (pv 4) (by intro _; rfl)))))))) (pss_one (ps_expr (peApp (K := K) (pe_bm PySem.F.plainAttrs_list PySem.F.slot_list_append PySem.F.type_list_append mt_append (pv 4) (pa_cons (pv 5) pa_nil))))) pss_nil)))
    (pss_one (ps_ret (pe_callTy (cTupOf (K := K)) (by rfl) T.z_tuple (by decide +kernel) (pa_cons (pv 4) pa_nil))))))), ?_⟩
    walk_at "go"
    refine ⟨b, ns, l, rfl, hB, hl, fun p1 H1 as n1 s1 h1 a1 a2 a3 => ?_⟩
    walk_at "go"
    refine ⟨a, ps, xs, p1, as, rfl, sx_ s1 hS, pa_ s1 hP, hV, h1, a1, a3, fun p2 H2 n2 s2 h2 => ?_⟩
    have s12 := s1.trans s2
    walk_at "go"
    refine i_lst (slO h2) ?_
    refine d_it walk_list (fun i acc H' => Same H2 H' ∧ acc.length ≤ i ∧ ∀ c : Int, (valV acc (Sum.inl c : Key)).isSome = seenC xs (as.take i) c) (fun D hD => ⟨upd_free (Same.refl _) hD, Nat.zero_le _, fun c => rfl⟩) (fun i acc H' hi p => slO (at_ p.1 h2)) (fun acc D H3 hD hp p => ?_) (fun i x acc H' H'' D hi hD hp p y => ?_)
    · obtain ⟨s3, _, hk⟩ := p
      rw [List.length_map, List.take_length, seenC_congr a2] at hk
      have s13 := s12.trans s3
      walk_at "go"
      refine n_new (le_size (by simp)) fun f H4 n4 s4 h4 => ?_
      have nf : H f = none := free_ s13 n4
      have s14 := s13.trans s4
      have hd4 := at_ s4 hp
      walk_at "go"
      refine i_revX hS s14 fun J G hG hW => ?_
      refine l_it hW (fun i σ H' => (∃ y5 y6 y7, σ = [some (.ref a), some (.ref b), some (.int l), some (.ref D), some (.ref f), y5, y6, y7]) ∧ Same H3 H' ∧ H' f = some (.lst (((xs.reverse.take i).foldl (keepF (seenC xs (ns ++ [l]))) []).map V.int))) ⟨⟨none, none, none, rfl⟩, s4, h4⟩ (fun i σ H' hi p => hG _ (s13.trans p.2.1)) (fun σ H' p => ?_) (fun i x σ H' H'' hi p y => ?_)
      · obtain ⟨⟨y5, y6, y7, rfl⟩, s5, h5⟩ := p
        have e5 : xs.reverse.take (ps.map V.ref).length = xs.reverse := by
          rw [List.length_map, hP.1]
          exact List.take_of_length_le (by simp)
        rw [e5] at h5
        walk_at "go"
        refine n_new0 fun q H6 n6 s6 h6 => ?_
        exact k q H6 (free_ (s13.trans s5) n6) (s13.trans (s5.trans s6)) h6
      · obtain ⟨⟨y5, y6, y7, rfl⟩, s5, h5⟩ := p
        obtain ⟨rfl, hx⟩ := y
        have hi' : i < ps.length := by simpa using hi
        have hj : xs.length - 1 - i < xs.length := by have := hP.1; omega
        have ex : x = .ref (ps[xs.length - 1 - i]'(by rw [hP.1]; exact hj)) := by
          rw [List.length_map, List.getElem?_map, hP.1, List.getElem?_eq_getElem (by rw [hP.1]; exact hj)] at hx
          exact (Option.some.inj hx).symm
        subst ex
        have hv := (pa_ (s13.trans s5) hP).at hj
        have hd5 := at_ s5 hp
        have er : xs.reverse[i]? = some xs[xs.length - 1 - i] := by
          rw [List.getElem?_reverse (by have := hP.1; omega), List.getElem?_eq_getElem hj]
        have et : (xs.reverse.take (i + 1)).foldl (keepF (seenC xs (ns ++ [l]))) [] = keepF (seenC xs (ns ++ [l])) ((xs.reverse.take i).foldl (keepF (seenC xs (ns ++ [l]))) []) xs[xs.length - 1 - i] := by
          rw [List.take_add_one, er, List.foldl_append]; rfl
        have hlen := foldl_keep_len (seenC xs (ns ++ [l])) (xs.reverse.take i) []
        generalize (xs.reverse.take i).foldl (keepF (seenC xs (ns ++ [l]))) [] = acc1 at *
        generalize xs[xs.length - 1 - i] = v at *
        have hacc : acc1.length < 5000 := by have := hV.few; simp at hlen; omega
        refine g_pairS hv ?_
        walk_at "go"
        refine g_din (k := Sum.inl v.1) hd5 ?_
        rw [hk v.1]
        have app : keepF (seenC xs (ns ++ [l])) acc1 v = acc1 ++ [v.1] → ∀ H6, Oth f H'' H6 → H6 f = some (.lst (acc1.map V.int ++ [.int v.1])) → Same H3 H6 ∧ H6 f = some (.lst (((xs.reverse.take (i + 1)).foldl (keepF (seenC xs (ns ++ [l]))) []).map V.int)) := fun ek H6 o6 h6 => ⟨same_oth n4 s5 o6, by rw [h6, et, ek, List.map_append]; rfl⟩
        have skip : keepF (seenC xs (ns ++ [l])) acc1 v = acc1 → H'' f = some (.lst (((xs.reverse.take (i + 1)).foldl (keepF (seenC xs (ns ++ [l]))) []).map V.int)) := fun ek => by rw [h5, et, ek]
        cases e1 : seenC xs (ns ++ [l]) v.1 with
        | false =>
          walk_at "go"
          exact ⟨⟨_, _, _, rfl⟩, s5, skip (by unfold keepF; rw [e1]; rfl)⟩
        | true =>
          cases e2 : v.2 with
          | some z =>
            walk_at "go"
            refine r_app h5 (by simp; omega) fun H6 o6 h6 => ⟨⟨_, _, _, rfl⟩, app (by unfold keepF; rw [e1, e2]; rfl) H6 o6 h6⟩
          | none =>
            walk_at "go"
            cases acc1 with
            | nil =>
              walk_at "go"
              exact ⟨⟨_, _, _, rfl⟩, s5, skip (by unfold keepF; rw [e1, e2]; rfl)⟩
            | cons z r =>
              walk_at "go"
              refine i_t rfl ?_
              walk_at "go"
              refine r_app h5 (by simp at *; omega) fun H6 o6 h6 => ⟨⟨_, _, _, rfl⟩, app (by unfold keepF; rw [e1, e2]; rfl) H6 o6 h6⟩
    · obtain ⟨s3, hz, hk⟩ := p
      obtain ⟨rfl, hx⟩ := y
      have hi' : i < as.length := by simpa using hi
      have ex : x = seenV ps xs as[i] := by
        rw [List.getElem?_map, List.getElem?_eq_getElem hi'] at hx
        exact (Option.some.inj hx).symm
      subst ex
      have et : ∀ c, seenC xs (as.take (i + 1)) c = (seenC xs (as.take i) c || hit xs c as[i]) := fun c => by
        unfold seenC
        rw [List.take_add_one, List.getElem?_eq_getElem hi', List.any_append]
        simp
      refine ⟨rfl, ?_⟩
      rcases Nat.lt_or_ge (fi xs as[i]) xs.length with hf | hf
      · have hf' : fi xs as[i] < ps.length := by rw [hP.1]; exact hf
        have e3 : seenV ps xs as[i] = .ref ps[fi xs as[i]] := by unfold seenV; rw [List.getElem?_eq_getElem hf']
        have hh : ∀ c, hit xs c as[i] = decide (xs[fi xs as[i]].1 = c) := fun c => by unfold hit; rw [List.getElem?_eq_getElem hf]
        have hv := (pa_ (s12.trans s3) hP).at hf
        rw [e3]
        walk_at "go"
        refine ⟨acc, Sum.inl xs[fi xs as[i]].1, rfl, hp, lt_size (by omega), _, upd_same, upd_free s3 hD, Nat.le_trans putK_le (by omega), fun c => ?_⟩
        rw [valV_put, et, hh]
        by_cases hc : xs[fi xs as[i]].1 = c
        · rw [if_pos (by rw [hc]), decide_eq_true hc]; simp
        · rw [if_neg (fun z => hc (Sum.inl.inj z).symm), hk, decide_eq_false hc]; simp
      · have e3 : seenV ps xs as[i] = .non := by unfold seenV; rw [List.getElem?_eq_none (by rw [hP.1]; exact hf)]
        have hh : ∀ c, hit xs c as[i] = false := fun c => by unfold hit; rw [List.getElem?_eq_none hf]
        rw [e3]
        walk_at "go"
        exact ⟨acc, hp, s3, by omega, fun c => by rw [et, hh, hk]; simp⟩
def sp_needed (K : PySem.W.Frag) : Sp := fun vs H Q _ => ∃ a ps xs b l, ∃ ns : List Int, vs = [.ref a, .ref b, .int l] ∧ SqX K H a (ps.map V.ref) ∧ PairsAt K H ps xs ∧ Valid xs ∧ SqT K H b (ns.map V.int) ∧ ns.length < 60 ∧ lotB ns = true ∧ (∀ z ∈ ns, z ≤ l) ∧ top xs ≤ l ∧ l ≤ GC ∧
  ∀ p H', H p = none → Same H H' → H' p = some (.tup ((keepC (seenC xs (ns ++ [l])) xs).map V.int)) → Q (.ref p) H'
theorem ok_needed (T : Txt K mg) : FnOk P w K mg base CX0 8 T.needed.f T.needed.fd ["versions", "open_lot", "last"] (sp_needed K) := by
  refine T.needed.F.ok sc_needed (fun vs H Q E h => ?_) (fun cdv A outer s H vs Q E hr h => ?_)
  · obtain ⟨a, ps, xs, b, l, ns, rfl, _⟩ := h
    rfl
  · obtain ⟨a, ps, xs, b, l, ns, rfl, hS, hP, hV, hB, hl, h1, h2, h3, h4, k⟩ := h
    refine ⟨_, (pss_cons (ps_expr (pe_call (ok_need_all T) (hr.mono (by decide)) (by rfl) T.need_all.g T.need_all.F.kp T.need_all.b .nil pass0 (pa_cons (pv 0) (pa_cons (pv 1) (pa_cons (pv 2) pa_nil)))))
    (pss_one (ps_ret (pe_call (ok_needed_commits T) (hr.mono (by decide)) (by rfl) T.needed_commits.g T.needed_commits.F.kp T.needed_commits.b .nil pass0 (pa_cons (pv 0) (pa_cons (pv 1) (pa_cons (pv 2) pa_nil))))))), ?_⟩
    walk_at "go"
    refine ⟨a, ps, xs, b, ns, l, rfl, hS, hP, hV, hB, by omega, h1, h2, h3, h4, fun H1 s1 => ?_⟩
    walk_at "go"
    exact ⟨a, ps, xs, b, l, ns, rfl, sx_ s1 hS, pa_ s1 hP, hV, st_ s1 hB, hl, fun p H2 n2 s2 h2 => k p H2 (free_ s1 n2) (s1.trans s2) h2⟩
end
end Vw

set_option Elab.async false
set_option linter.all false
set_option maxRecDepth 100000
set_option maxHeartbeats 4000000
namespace Vw
open PySem PySem.Spec PyProof.Rows L2 RT
local macro_rules | `(tactic| walk_at "s") => `(tactic| with_reducible first
  | refine' s_seq ?_ | refine' s_next ?_ | refine' s_set ?_ | refine' s_ret ?_ | refine' s_retN ?_ | refine' s_drop ?_ | refine' s_if ?_ | refine' s_ipI ?_
  | refine' e_c ?_ | refine' e_op ?_ | refine' e_un ?_ | refine' e_neg ?_ | refine' e_test ?_ | refine' e_tB ?_ | refine' e_bl ?_ | refine' e_and ?_ | refine' e_or ?_ | refine' e_not ?_
  | refine' e_andV ?_ | refine' e_orV ?_ | refine' e_notV ?_ | refine' e_kV ?_ | refine' e_ife ?_ | refine' e_nil ?_ | refine' e_cons ?_ | refine' e_cb ?_ | refine' e_call ?_ | refine' e_chain ?_
  | refine' o_addI ?_ | refine' o_eqI ?_ | refine' o_neI ?_ | refine' o_I0 ?_ | refine' o_pow16 ?_ | refine' o_pow17 ?_ | refine' o_pow18 ?_ | refine' o_pow19 ?_ | refine' o_pow30 ?_ | refine' o_pow31 ?_ | refine' o_pow1 ?_ | refine' o_pow2 ?_ | refine' o_pow3 ?_ | refine' o_pow4 ?_ | refine' o_pow5 ?_ | refine' o_pow6 ?_ | refine' o_pow9 ?_ | refine' o_pow10 ?_ | refine' o_pow12 ?_ | refine' o_pow15 ?_ | refine' o_pow20 ?_ | refine' e_lst ?_ | refine' e_tup ?_ | refine' iteT ?_ | refine' i_nt ?_ | refine' i_nf ?_ | refine' iteF ?_ | refine' c_int ?_ | refine' c_abs ?_ | refine' c_min2 ?_ | refine' c_max2 ?_ | refine' e_tru ?_ | refine' t_bl ?_ | refine' t_non ?_ | refine' t_int ?_ | refine' isN_non ?_ | refine' isN_int ?_ | refine' isN_ref ?_ | refine' isN_str ?_ | refine' isN_bl ?_ | refine' noN_non ?_ | refine' noN_int ?_ | refine' noN_ref ?_ | refine' noN_str ?_ | refine' noN_bl ?_
  | refine' s_brk ?_ | refine' s_cont ?_ | refine' s_for ?_ | refine' e_lc ?_ | refine' e_dc ?_ | refine' e_yes ?_ | refine' i_rng1 ?_ | refine' i_lst0 ?_ | refine' i_tup0 ?_ | refine' e_bm ?_ | refine' e_sl ?_ | refine' e_np ?_ | refine' e_pt ?_ | refine' e_ptI ?_ | refine' e_din ?_ | refine' i_enum0 ?_ | refine' i_rev0 ?_ | refine' g_sub ?_ | refine' s_asg ?_)
local macro_rules | `(tactic| walk_at "v") => `(tactic| ((with_reducible refine' e_var ?hv ?_); (case hv => exact rfl)))
local macro_rules | `(tactic| walk_at "a") => `(tactic| ((with_reducible refine' s_aug ?hv ?_); (case hv => exact rfl)))
local macro_rules | `(tactic| walk_at "m") => `(tactic| first
  | ((with_reducible refine' o_mod ?hv ?_); (case hv => first | decide | omega))
  | ((with_reducible refine' o_mulR ?hv ?_); (case hv => omega))
  | ((with_reducible refine' o_mulL ?hv ?_); (case hv => omega))
  | ((with_reducible refine' o_div ?hv ?hw ?_); (case hv => omega); (case hw => omega))
  | ((with_reducible refine' o_pow _ ?hv ?hw ?hx ?_); (case hv => exact rfl); (case hw => decide); (case hx => decide)))
local macro_rules | `(tactic| walk_at "i") => `(tactic| (first
  | ((with_reducible refine' isi_int true ?hv ?_); (case hv => exact (by decide +kernel)))
  | ((with_reducible refine' isi_int false ?hv ?_); (case hv => exact (by decide +kernel)))
  | ((with_reducible refine' isi_non true ?hv ?_); (case hv => exact (by decide +kernel)))
  | ((with_reducible refine' isi_non false ?hv ?_); (case hv => exact (by decide +kernel)))
  | ((with_reducible refine' isi_str true ?hv ?_); (case hv => exact (by decide +kernel)))
  | ((with_reducible refine' isi_str false ?hv ?_); (case hv => exact (by decide +kernel)))
  | ((with_reducible refine' isi_bl true ?hv ?_); (case hv => exact (by decide +kernel)))
  | ((with_reducible refine' isi_bl false ?hv ?_); (case hv => exact (by decide +kernel)))
  | ((with_reducible refine' isi_t true ?hw ?hv ?_); (case hw => assumption); (case hv => exact (by decide +kernel)))
  | ((with_reducible refine' isi_t false ?hw ?hv ?_); (case hw => assumption); (case hv => exact (by decide +kernel)))
  | ((with_reducible refine' isi_l true ?hw ?hv ?_); (case hw => assumption); (case hv => exact (by decide +kernel)))
  | ((with_reducible refine' isi_l false ?hw ?hv ?_); (case hw => assumption); (case hv => exact (by decide +kernel)))
  | ((with_reducible refine' isi_tup true ?hw ?hv ?_); (case hw => assumption); (case hv => exact (by decide +kernel)))
  | ((with_reducible refine' isi_tup false ?hw ?hv ?_); (case hw => assumption); (case hv => exact (by decide +kernel)))
  | ((with_reducible refine' isi_lst true ?hw ?hv ?_); (case hw => assumption); (case hv => exact (by decide +kernel)))
  | ((with_reducible refine' isi_lst false ?hw ?hv ?_); (case hw => assumption); (case hv => exact (by decide +kernel)))))
local macro_rules | `(tactic| walk_at "om") => `(tactic| first | omega | (simp only [List.length_cons, List.length_nil, List.length_map, List.length_append, List.length_range]; omega))
local macro_rules | `(tactic| walk_at "d") => `(tactic| (first
  | ((with_reducible refine' i_dt ?hv ?_); (case hv => walk_at "om"))
  | ((with_reducible refine' i_df ?hv ?_); (case hv => walk_at "om"))
  | ((with_reducible refine' i_ndt ?hv ?_); (case hv => walk_at "om"))
  | ((with_reducible refine' i_ndf ?hv ?_); (case hv => walk_at "om"))))
local macro_rules | `(tactic| walk_at "x") => `(tactic| first
  | ((with_reducible refine' o_ixA ?hv ?hw ?_); (case hv => assumption); (case hw => exact rfl))
  | ((with_reducible refine' o_ixU ?hv ?hw ?_); (case hv => assumption); (case hw => exact rfl))
  | ((with_reducible refine' o_ixL ?hv ?hw ?_); (case hv => assumption); (case hw => exact rfl))
  | ((with_reducible refine' o_ixT ?hv ?hw ?_); (case hv => assumption); (case hw => exact rfl))
  | ((with_reducible refine' set_ ?hv ?hw ?_); (case hv => assumption); (case hw => exact rfl))
  | ((with_reducible refine' e_lenM ?hv ?_); (case hv => first | assumption | exact slO (by assumption)))
  | ((with_reducible refine' e_lenN ?hv ?_); (case hv => first | assumption | exact stO (by assumption)))
  | ((with_reducible refine' e_lenL ?hv ?_); (case hv => first | assumption | exact slO (by assumption)))
  | ((with_reducible refine' e_lenT ?hv ?_); (case hv => first | assumption | exact stO (by assumption))))
local macro_rules | `(tactic| walk_at "c") => `(tactic| first
  | ((with_reducible refine' c_listL ?hv ?_); (case hv => assumption))
  | ((with_reducible refine' c_listT ?hv ?_); (case hv => assumption))
  | ((with_reducible refine' c_tupL ?hv ?_); (case hv => first | assumption | exact slO (by assumption)))
  | ((with_reducible refine' c_tupT ?hv ?_); (case hv => assumption))
  | ((with_reducible refine' t_lst ?hv ?_); (case hv => first | assumption | exact slO (by assumption)))
  | ((with_reducible refine' t_tup ?hv ?_); (case hv => assumption))
  | ((with_reducible refine' r_sl ?hv ?_); (case hv => first | assumption | exact slO (by assumption)))
  | ((with_reducible refine' o_inL ?hv ?_); (case hv => first | assumption | exact slO (by assumption)))
  | ((with_reducible refine' o_inT ?hv ?_); (case hv => first | assumption | exact stO (by assumption)))
  | ((with_reducible refine' o_niL ?hv ?_); (case hv => first | assumption | exact slO (by assumption)))
  | ((with_reducible refine' o_niT ?hv ?_); (case hv => first | assumption | exact stO (by assumption)))
  | ((with_reducible refine' ty_lst ?hv ?_); (case hv => assumption)))
local macro_rules | `(tactic| walk_at "mo") => `(tactic| repeat' (first | exact m_yes | exact m_var | exact m_c | exact m_I0 | exact m_I | exact m_ix | exact m_add | exact m_in | exact m_int1 | exact m_abs | exact m_nil | refine' m_and ?_ ?_ | refine' m_test ?_ | refine' m_tB ?_ | refine' m_op ?_ ?_ ?_ | refine' m_cons ?_ ?_ | refine' m_cb ?_ ?_))
local macro_rules | `(tactic| walk_at "go") => `(tactic| repeat' (first | walk_at "s" | walk_at "v" | walk_at "a" | walk_at "x" | walk_at "m" | walk_at "c" | walk_at "i" | walk_at "d"))

section
variable {P : Program} {w : World} {K : PySem.W.Frag} {mg : Str → Option Value} {base : Heap}
def dueS (xs : List (Int × Option Int)) (ns : List Int) (c : Int) : Bool := decide (top xs = c) || ns.any (hit xs c)
/-- what one snapshot says of the version at a place -/
def isAt (xs : List (Int × Option Int)) (j : Nat) (s : Int) : Bool := decide ((xs.getD j (0, none)).1 ≤ s) && (decide (j = 0) || decide (s < (xs.getD (j - 1) (0, none)).1))
theorem getD_at {xs : List (Int × Option Int)} {j : Nat} (h : j < xs.length) : xs.getD j (0, none) = xs[j] := by
  rw [List.getD_eq_getElem?_getD, List.getElem?_eq_getElem h]; rfl
theorem Valid.inj {xs : List (Int × Option Int)} (hV : Valid xs) {i j : Nat} (hi : i < xs.length) (hj : j < xs.length) (e : xs[i].1 = xs[j].1) : i = j := by
  rcases Nat.lt_trichotomy i j with h | h | h
  · have := hV.lt h hj; omega
  · exact h
  · have := hV.lt h hi; omega
theorem hit_at {xs : List (Int × Option Int)} (hV : Valid xs) {j : Nat} (hj : j < xs.length) (s : Int) : hit xs xs[j].1 s = isAt xs j s := by
  have e1 : isAt xs j s = (decide (xs[j].1 ≤ s) && (decide (j = 0) || decide (s < (xs.getD (j - 1) (0, none)).1))) := by unfold isAt; rw [getD_at hj]
  have e2 : hit xs xs[j].1 s = decide (fi xs s = j) := by
    unfold hit
    rcases Nat.lt_or_ge (fi xs s) xs.length with z | z
    · rw [List.getElem?_eq_getElem z]
      show decide (xs[fi xs s].1 = xs[j].1) = _
      by_cases q : fi xs s = j
      · have e : xs[fi xs s].1 = xs[j].1 := by simp only [q]
        rw [decide_eq_true q]
        exact decide_eq_true e
      · rw [decide_eq_false q]
        exact decide_eq_false fun e => q (hV.inj z hj e)
    · rw [List.getElem?_eq_none z]
      exact (decide_eq_false (by omega)).symm
  rw [e1, e2]
  by_cases h1 : xs[j].1 ≤ s
  · rw [decide_eq_true h1]
    have hle := fi_min hj h1
    by_cases h0 : j = 0
    · rw [decide_eq_true h0, decide_eq_true (show fi xs s = j by omega)]; rfl
    · have hj1 : j - 1 < xs.length := by omega
      rw [decide_eq_false h0, getD_at hj1]
      by_cases h2 : s < xs[j - 1].1
      · rw [decide_eq_true h2]
        refine (decide_eq_true (Nat.le_antisymm hle (Nat.not_lt.mp fun z => ?_))).trans rfl
        have := fi_behind hV (s := s) (j := j - 1) (by omega) hj1
        omega
      · rw [decide_eq_false h2]
        refine (decide_eq_false fun z => ?_).trans rfl
        have := fi_min (s := s) hj1 (by omega)
        omega
  · rw [decide_eq_false h1]
    refine (decide_eq_false fun z => h1 ?_).trans rfl
    exact fi_behind hV (by omega) hj
theorem top_at {xs : List (Int × Option Int)} (hV : Valid xs) {j : Nat} (hj : j < xs.length) : decide (top xs = xs[j].1) = decide (j = 0) := by
  have h0 : 0 < xs.length := by omega
  have e : top xs = xs[0].1 := by
    cases xs with
    | nil => simp at h0
    | cons v r => rfl
  by_cases q : j = 0
  · subst q
    rw [decide_eq_true (show (0 : Nat) = 0 from rfl)]
    exact decide_eq_true e
  · rw [decide_eq_false q]
    exact decide_eq_false fun z => q (hV.inj hj h0 (by rw [← z, e]))
theorem dueS_at {xs : List (Int × Option Int)} (hV : Valid xs) {j : Nat} (hj : j < xs.length) (ns : List Int) : dueS xs ns xs[j].1 = (decide (j = 0) || ns.any (isAt xs j)) := by
  unfold dueS
  rw [top_at hV hj]
  congr 1
  exact congrArg ns.any (funext fun s => hit_at hV hj s)
/-! ### what is kept -/
theorem keepF_congr {S S' : Int → Bool} {acc : List Int} {v : Int × Option Int} (h : S v.1 = S' v.1) : keepF S acc v = keepF S' acc v := by unfold keepF; rw [h]
theorem foldl_congr {S S' : Int → Bool} : ∀ {l : List (Int × Option Int)} {acc : List Int}, (∀ v ∈ l, S v.1 = S' v.1) → l.foldl (keepF S) acc = l.foldl (keepF S') acc
  | [], _, _ => rfl
  | v :: l, acc, h => by
    rw [List.foldl_cons, List.foldl_cons, keepF_congr (h v List.mem_cons_self)]
    exact foldl_congr fun u hu => h u (List.mem_cons_of_mem _ hu)
theorem keepC_congr {S S' : Int → Bool} {xs : List (Int × Option Int)} (h : ∀ v ∈ xs, S v.1 = S' v.1) : keepC S xs = keepC S' xs := foldl_congr fun v hv => h v (List.mem_reverse.mp hv)
theorem seen_due {xs : List (Int × Option Int)} (hV : Valid xs) {l : Int} (hl : top xs ≤ l) (ns : List Int) : keepC (seenC xs (ns ++ [l])) xs = keepC (dueS xs ns) xs := by
  refine keepC_congr fun v hv => ?_
  obtain ⟨j, hj, e⟩ := List.getElem_of_mem hv
  subst e
  have h0 : 0 < xs.length := by omega
  have et : top xs = xs[0].1 := by
    cases xs with
    | nil => simp at h0
    | cons v r => rfl
  have ef : fi xs l = 0 := Nat.le_zero.mp (fi_min h0 (by omega))
  have eh : hit xs xs[j].1 l = decide (top xs = xs[j].1) := by
    unfold hit
    rw [ef, List.getElem?_eq_getElem h0, et]
  unfold seenC dueS
  rw [List.any_append, ← eh, Bool.or_comm]
  simp
theorem keepF_sub {S : Int → Bool} {acc : List Int} {v : Int × Option Int} : (keepF S acc v = acc ++ [v.1] ∧ S v.1 = true ∧ (v.2.isSome || !acc.isEmpty) = true) ∨ keepF S acc v = acc := by
  unfold keepF
  cases e : S v.1 && (v.2.isSome || !acc.isEmpty) with
  | true =>
    rw [if_pos rfl]
    exact .inl ⟨rfl, Bool.and_eq_true_iff.mp e⟩
  | false => rw [if_neg Bool.false_ne_true]; exact .inr rfl
theorem foldl_mem {S : Int → Bool} : ∀ {l : List (Int × Option Int)} {acc : List Int} {c : Int}, c ∈ l.foldl (keepF S) acc → c ∈ acc ∨ (∃ v ∈ l, v.1 = c) ∧ S c = true
  | [], _, _, h => .inl h
  | v :: l, acc, c, h => by
    rw [List.foldl_cons] at h
    rcases foldl_mem h with h1 | ⟨⟨u, hu, e⟩, hs⟩
    · rcases keepF_sub (S := S) (acc := acc) (v := v) with ⟨e, e2, _⟩ | e
      · rw [e] at h1
        rcases List.mem_append.mp h1 with h2 | h2
        · exact .inl h2
        · have : c = v.1 := by simpa using h2
          exact .inr ⟨⟨v, List.mem_cons_self, this.symm⟩, by rw [this]; exact e2⟩
      · rw [e] at h1; exact .inl h1
    · exact .inr ⟨⟨u, List.mem_cons_of_mem _ hu, e⟩, hs⟩
theorem foldl_acc {S : Int → Bool} : ∀ {l : List (Int × Option Int)} {acc : List Int} {c : Int}, c ∈ acc → c ∈ l.foldl (keepF S) acc
  | [], _, _, h => h
  | v :: l, acc, c, h => by
    rw [List.foldl_cons]
    refine foldl_acc ?_
    rcases keepF_sub (S := S) (acc := acc) (v := v) with ⟨e, _⟩ | e
    · rw [e]; exact List.mem_append_left _ h
    · rw [e]; exact h
/-- only what was kept is kept of it -/
theorem foldl_filter {S S' : Int → Bool} : ∀ (l : List (Int × Option Int)) (acc : List Int), l.Pairwise (fun a b => a.1 ≠ b.1) → (∀ v ∈ l, v.1 ∉ acc) → (∀ v ∈ l, v.1 ∈ l.foldl (keepF S) acc → S' v.1 = true) →
    (l.filter fun v => decide (v.1 ∈ l.foldl (keepF S) acc)).foldl (keepF S') acc = l.foldl (keepF S) acc
  | [], _, _, _, _ => rfl
  | v :: l, acc, hp, hn, hs => by
    obtain ⟨p1, p2⟩ := List.pairwise_cons.mp hp
    rw [List.foldl_cons] at hs ⊢
    have nv : v.1 ∉ acc := hn v List.mem_cons_self
    rcases keepF_sub (S := S) (acc := acc) (v := v) with ⟨e, _, e3⟩ | e
    · have hm : v.1 ∈ l.foldl (keepF S) (keepF S acc v) := foldl_acc (by rw [e]; simp)
      rw [List.filter_cons, if_pos (decide_eq_true hm), List.foldl_cons]
      have e4 : keepF S' acc v = keepF S acc v := by
        rw [e]
        unfold keepF
        rw [hs v List.mem_cons_self hm, e3]; rfl
      rw [e4]
      exact foldl_filter l _ p2 (fun u hu z => by
        rw [e] at z
        rcases List.mem_append.mp z with z | z
        · exact hn u (List.mem_cons_of_mem _ hu) z
        · exact p1 u hu (List.mem_singleton.mp z).symm) fun u hu => hs u (List.mem_cons_of_mem _ hu)
    · have hm : v.1 ∉ l.foldl (keepF S) (keepF S acc v) := fun z => by
        rcases foldl_mem z with z | ⟨⟨u, hu, z⟩, _⟩
        · rw [e] at z; exact nv z
        · exact p1 u hu z.symm
      rw [List.filter_cons, if_neg (by simpa using hm)]
      rw [e] at hs hm ⊢
      exact foldl_filter l acc p2 (fun u hu => hn u (List.mem_cons_of_mem _ hu)) fun u hu => hs u (List.mem_cons_of_mem _ hu)
/-- seen, by the greatest commit -/
theorem hit_iff {xs : List (Int × Option Int)} (hV : Valid xs) {v : Int × Option Int} (hv : v ∈ xs) (s : Int) : hit xs v.1 s = true ↔ v.1 ≤ s ∧ ∀ u ∈ xs, u.1 ≤ s → u.1 ≤ v.1 := by
  obtain ⟨j, hj, e⟩ := List.getElem_of_mem hv
  subst e
  constructor
  · intro h
    unfold hit at h
    rcases Nat.lt_or_ge (fi xs s) xs.length with z | z
    · rw [List.getElem?_eq_getElem z] at h
      have h2 : xs[fi xs s].1 = xs[j].1 := of_decide_eq_true h
      have e := hV.inj z hj h2
      refine ⟨by rw [← h2]; exact fi_at z, fun u hu hus => ?_⟩
      obtain ⟨i, hi, e2⟩ := List.getElem_of_mem hu
      subst e2
      have := fi_min hi hus
      rcases Nat.lt_or_eq_of_le this with q | q
      · have := hV.lt q hi; omega
      · have e3 : xs[i].1 = xs[fi xs s].1 := by simp only [q]
        omega
    · rw [List.getElem?_eq_none z] at h; cases h
  · rintro ⟨h1, h2⟩
    have hle := fi_min hj h1
    have z : fi xs s < xs.length := by omega
    have h3 := h2 _ (List.getElem_mem z) (fi_at z)
    unfold hit
    rw [List.getElem?_eq_getElem z]
    refine decide_eq_true ?_
    rcases Nat.lt_or_eq_of_le hle with q | q
    · have := hV.lt q hj; omega
    · simp only [q]
theorem top_iff {xs : List (Int × Option Int)} (hV : Valid xs) {v : Int × Option Int} (hv : v ∈ xs) : top xs = v.1 ↔ ∀ u ∈ xs, u.1 ≤ v.1 := by
  cases xs with
  | nil => cases hv
  | cons z r =>
    constructor
    · intro e u hu
      have e : z.1 = v.1 := e
      rcases List.mem_cons.mp hu with q | q
      · rw [q]; omega
      · have := (List.pairwise_cons.mp hV.desc).1 u q; omega
    · intro h
      have h1 := h z List.mem_cons_self
      show z.1 = v.1
      rcases List.mem_cons.mp hv with q | q
      · rw [q]
      · have := (List.pairwise_cons.mp hV.desc).1 v q; omega
theorem due_iff {xs : List (Int × Option Int)} (hV : Valid xs) {v : Int × Option Int} (hv : v ∈ xs) (ns : List Int) : dueS xs ns v.1 = true ↔ (∀ u ∈ xs, u.1 ≤ v.1) ∨ ∃ s ∈ ns, v.1 ≤ s ∧ ∀ u ∈ xs, u.1 ≤ s → u.1 ≤ v.1 := by
  unfold dueS
  rw [Bool.or_eq_true_iff, decide_eq_true_iff, top_iff hV hv, List.any_eq_true]
  exact or_congr Iff.rfl ⟨fun ⟨s, a, b⟩ => ⟨s, a, (hit_iff hV hv s).mp b⟩, fun ⟨s, a, b⟩ => ⟨s, a, (hit_iff hV hv s).mpr b⟩⟩
theorem Valid.sub {xs ys : List (Int × Option Int)} (hV : Valid xs) (h : ys.Sublist xs) : Valid ys := ⟨hV.desc.sublist h, fun v hv => hV.comm v (h.subset hv), fun v hv => hV.mark v (h.subset hv), Nat.le_trans h.length_le hV.few⟩
def keptOf (xs : List (Int × Option Int)) (due : List Int) : List (Int × Option Int) := xs.filter fun v => decide (v.1 ∈ due)
theorem kept_due {xs : List (Int × Option Int)} (hV : Valid xs) (ns : List Int) : keepC (dueS (keptOf xs (keepC (dueS xs ns) xs)) ns) (keptOf xs (keepC (dueS xs ns) xs)) = keepC (dueS xs ns) xs := by
  have hsub : (keptOf xs (keepC (dueS xs ns) xs)).Sublist xs := List.filter_sublist
  have hV2 := hV.sub hsub
  have e : (keptOf xs (keepC (dueS xs ns) xs)).reverse = xs.reverse.filter fun v => decide (v.1 ∈ xs.reverse.foldl (keepF (dueS xs ns)) []) := by
    unfold keptOf keepC
    rw [List.filter_reverse]
  show (keptOf xs (keepC (dueS xs ns) xs)).reverse.foldl (keepF _) [] = _
  rw [e]
  refine foldl_filter xs.reverse [] (List.pairwise_reverse.mpr (hV.desc.imp fun h => by omega)) (fun v _ z => nomatch z) fun v hv hm => ?_
  have hv1 : v ∈ xs := List.mem_reverse.mp hv
  have hv2 : v ∈ keptOf xs (keepC (dueS xs ns) xs) := List.mem_filter.mpr ⟨hv1, decide_eq_true hm⟩
  rcases foldl_mem hm with z | ⟨_, z⟩
  · cases z
  refine (due_iff hV2 hv2 ns).mpr ?_
  rcases (due_iff hV hv1 ns).mp z with h | ⟨s, a, b, c⟩
  · exact .inl fun u hu => h u (hsub.subset hu)
  · exact .inr ⟨s, a, b, fun u hu => c u (hsub.subset hu)⟩
theorem top_kept {xs ys : List (Int × Option Int)} (hV : Valid xs) (h : ys.Sublist xs) (h0 : 0 ≤ top xs) : top ys ≤ top xs := by
  cases ys with
  | nil => exact h0
  | cons v r =>
    have hv : v ∈ xs := h.subset List.mem_cons_self
    cases xs with
    | nil => cases hv
    | cons z q =>
      show v.1 ≤ z.1
      rcases List.mem_cons.mp hv with e | e
      · rw [e]; omega
      · have := (List.pairwise_cons.mp hV.desc).1 v e; omega
theorem asc_lot {ns : List Int} (h : ns.Pairwise (· < ·)) (h0 : ∀ z ∈ ns, 0 ≤ z) : lotB ns = true := by
  unfold lotB
  rw [Bool.and_eq_true_iff]
  refine ⟨List.all_eq_true.mpr fun z hz => decide_eq_true (h0 z hz), ?_⟩
  unfold ascB
  rw [List.all_map, List.all_eq_true]
  intro k hk
  have hk : k < ns.length - 1 := List.mem_range.mp hk
  show ascF ns k = true
  unfold ascF
  rw [List.getD_eq_getElem?_getD, List.getD_eq_getElem?_getD, List.getElem?_eq_getElem (show k < ns.length by omega), List.getElem?_eq_getElem (show k + 1 < ns.length by omega)]
  exact decide_eq_true (List.pairwise_iff_getElem.mp h k (k + 1) (by omega) (by omega) (by omega))
/-! ### versions as data -/
def datV (v : Int × Option Int) : PyData := .tuple [.int v.1, match v.2 with | none => .none | some i => .int i]
theorem dat_all {H : Hp} : ∀ {ps : List Addr} {xs : List (Int × Option Int)}, PairsAt K H ps xs → DpAll K H (ps.map V.ref) (xs.map datV)
  | [], [], _ => .nil
  | [], _ :: _, h => by have := h.1; simp at this
  | _ :: _, [], h => by have := h.1; simp at this
  | p :: ps, v :: xs, h => by
    have h0 := h.2 0 p v rfl rfl
    refine .cons (.tup h0 (.cons (.int _) (.cons ?_ .nil))) (dat_all ⟨by have := h.1; simpa using this, fun i q u a b => h.2 (i + 1) q u a b⟩)
    cases v.2 with
    | none => exact .non
    | some i => exact .int i
theorem dat_lay : ∀ (xs : List (Int × Option Int)), PyData.canLayAll0 (xs.map datV) = true ∧ PyData.depthAll (xs.map datV) ≤ 2
  | [] => ⟨by simp [PyData.canLayAll0], by simp [PyData.depthAll]⟩
  | v :: xs => by
    obtain ⟨h1, h2⟩ := dat_lay xs
    have e : PyData.canLay0 (datV v) = true ∧ PyData.depth (datV v) ≤ 2 := by
      unfold datV
      cases v.2 <;> simp [PyData.canLay0, PyData.canLayAll0, PyData.depth, PyData.depthAll]
    rw [List.map_cons]
    refine ⟨by simp [PyData.canLayAll0, e.1, h1], ?_⟩
    simp only [PyData.depthAll]
    exact Nat.max_le.mpr ⟨e.2, h2⟩
theorem dat_shaped (xs : List (Int × Option Int)) : SeqAt.shaped (.list (xs.map datV)) = true := by
  obtain ⟨h1, h2⟩ := dat_lay xs
  unfold SeqAt.shaped
  rw [Bool.and_eq_true_iff]
  refine ⟨by simpa [PyData.canLay0] using h1, decide_eq_true ?_⟩
  simp only [PyData.depth]
  omega
theorem dat_refl (xs : List (Int × Option Int)) : PyData.eqv (.list (xs.map datV)) (.list (xs.map datV)) = true := SeqAt.eqv_refl _ (by simpa [PyData.canLay0] using (dat_lay xs).1)
theorem o_neV {H : Hp} {Q : VK} {r : R2} {a b : Addr} {ps : List Addr} {xs : List (Int × Option Int)} (h1 : SqL K H a (ps.map V.ref)) (h2 : SqL K H b (ps.map V.ref)) (hP : PairsAt K H ps xs) (q : Q (.bl false) H) : rOr r (rNeD K) (.ref a) (.ref b) H Q :=
  .inr ⟨_, _, .lst h1 (dat_all hP), .lst h2 (dat_all hP), dat_shaped xs, dat_shaped xs, by rw [dat_refl]; exact q⟩
theorem o_eqV {H : Hp} {Q : VK} {r : R2} {a b : Addr} {ps : List Addr} {xs : List (Int × Option Int)} (h1 : SqL K H a (ps.map V.ref)) (h2 : SqL K H b (ps.map V.ref)) (hP : PairsAt K H ps xs) (q : Q (.bl true) H) : rOr r (rEqD K) (.ref a) (.ref b) H Q :=
  .inr ⟨_, _, .lst h1 (dat_all hP), .lst h2 (dat_all hP), dat_shaped xs, dat_shaped xs, by rw [dat_refl]; exact q⟩
theorem pairs_zip {H : Hp} {ps : List Addr} {xs : List (Int × Option Int)} (h : PairsAt K H ps xs) (zs : List (Addr × (Int × Option Int))) (hz : ∀ z ∈ zs, z ∈ ps.zip xs) : PairsAt K H (zs.map (·.1)) (zs.map (·.2)) := by
  refine ⟨by simp, fun i p v a b => ?_⟩
  rw [List.getElem?_map] at a b
  cases e : zs[i]? with
  | none => rw [e] at a; cases a
  | some z =>
    rw [e] at a b
    have ea : z.1 = p := Option.some.inj a
    have eb : z.2 = v := Option.some.inj b
    subst ea eb
    obtain ⟨j, hj, ej⟩ := List.getElem_of_mem (hz z (List.mem_of_getElem? e))
    have h1 := hj
    rw [List.length_zip] at h1
    rw [List.getElem_zip] at ej
    have := h.2 j ps[j] xs[j] (List.getElem?_eq_getElem (by omega)) (List.getElem?_eq_getElem (by omega))
    rw [← ej]; exact this
theorem kept_zip {ps : List Addr} {xs : List (Int × Option Int)} (h : ps.length = xs.length) (due : List Int) : ((ps.zip xs).filter fun z => decide (z.2.1 ∈ due)).map (·.2) = keptOf xs due := by
  unfold keptOf
  have e : xs = (ps.zip xs).map (·.2) := (List.map_snd_zip (by omega)).symm
  conv => rhs; rw [e]
  rw [List.filter_map]; rfl

/-! ### what is enough -/
theorem nodup_sub_len : ∀ {ms A : List Int}, ms.Nodup → (∀ x ∈ ms, x ∈ A) → ms.length ≤ A.length
  | [], _, _, _ => Nat.zero_le _
  | m :: r, A, h, hs => by
    obtain ⟨h1, h2⟩ := List.nodup_cons.mp h
    have hm := hs m List.mem_cons_self
    have := nodup_sub_len (A := A.erase m) h2 fun x hx => (List.mem_erase_of_ne (a := x) (b := m) fun e => h1 (by rw [← e]; exact hx)).mpr (hs x (List.mem_cons_of_mem _ hx))
    rw [List.length_erase_of_mem hm] at this
    have : 0 < A.length := List.length_pos_of_mem hm
    simp only [List.length_cons]
    omega
def inAll (xs : List (Int × Option Int)) (ms : List Int) : Bool := ms.all fun m => decide (m ∈ xs.map (·.1))
theorem kept_len {xs : List (Int × Option Int)} (hV : Valid xs) {ms : List Int} (hm : ms.Nodup) : inAll xs ms = !decide ((keptOf xs ms).length < ms.length) := by
  have hA : ((keptOf xs ms).map (·.1)).Nodup := (List.pairwise_map.mpr ((hV.sub List.filter_sublist).desc.imp fun {a b} (h : b.1 < a.1) => (by omega : a.1 ≠ b.1)))
  have hl : (keptOf xs ms).length = ((keptOf xs ms).map (·.1)).length := by rw [List.length_map]
  have hsub : ∀ x ∈ (keptOf xs ms).map (·.1), x ∈ ms := fun x hx => by
    obtain ⟨v, hv, e⟩ := List.mem_map.mp hx
    subst e
    exact of_decide_eq_true (List.mem_filter.mp hv).2
  have hin : ∀ x ∈ ms, x ∈ xs.map (·.1) → x ∈ (keptOf xs ms).map (·.1) := fun x hx h => by
    obtain ⟨v, hv, e⟩ := List.mem_map.mp h
    subst e
    exact List.mem_map.mpr ⟨v, List.mem_filter.mpr ⟨hv, decide_eq_true hx⟩, rfl⟩
  by_cases q : (keptOf xs ms).length < ms.length
  · rw [decide_eq_true q]
    refine Bool.eq_false_iff.mpr fun z => ?_
    have := nodup_sub_len hm fun x hx => hin x hx (of_decide_eq_true (List.all_eq_true.mp z x hx))
    omega
  · rw [decide_eq_false q]
    refine List.all_eq_true.mpr fun m hmm => decide_eq_true ?_
    by_cases z : m ∈ (keptOf xs ms).map (·.1)
    · obtain ⟨v, hv, e⟩ := List.mem_map.mp z
      exact List.mem_map.mpr ⟨v, (List.mem_filter.mp hv).1, e⟩
    · exfalso
      have := nodup_sub_len (A := ms.erase m) hA fun x hx => (List.mem_erase_of_ne (a := x) (b := m) fun e => z (by rw [← e]; exact hx)).mpr (hsub x hx)
      rw [List.length_erase_of_mem hmm] at this
      have : 0 < ms.length := List.length_pos_of_mem hmm
      omega
def sameO (o1 o2 : Option (Int × Option Int)) : Bool := match o2 with
  | none => match o1 with
    | none => true
    | some u => u.2.isNone
  | some v => decide (o1 = some v)
def okS (xs ys : List (Int × Option Int)) (s : Int) : Bool := sameO xs[fi xs s]? ys[fi ys s]?
def keptR (xs : List (Int × Option Int)) (ask : List Int) : Option (List V) → Bool
  | none => false
  | some ys => lotV ys && (inAll xs (ys.map toI) && ask.all (okS xs (keptOf xs (ys.map toI))))
theorem lotB_asc {ns : List Int} (h : ascB ns = true) : ns.Pairwise (· < ·) := by
  have h1 : ∀ k, k + 1 < ns.length → ns.getD k 0 < ns.getD (k + 1) 0 := fun k hk => by
    unfold ascB at h
    rw [List.all_map, List.all_eq_true] at h
    have := h k (List.mem_range.mpr (by omega))
    exact of_decide_eq_true this
  have h2 : ∀ d k, k + d + 1 < ns.length → ns.getD k 0 < ns.getD (k + d + 1) 0 := fun d => by
    induction d with
    | zero => exact fun k hk => h1 k hk
    | succ d ih => exact fun k hk => Int.lt_trans (ih k (by omega)) (h1 (k + d + 1) (by omega))
  refine List.pairwise_iff_getElem.mpr fun i j hi hj hij => ?_
  have := h2 (j - i - 1) i (by omega)
  rw [show i + (j - i - 1) + 1 = j by omega, List.getD_eq_getElem?_getD, List.getD_eq_getElem?_getD, List.getElem?_eq_getElem hi, List.getElem?_eq_getElem hj] at this
  exact this
theorem fi_mem {xs : List (Int × Option Int)} {s : Int} {v : Int × Option Int} (h : xs[fi xs s]? = some v) : v ∈ xs ∧ v.1 ≤ s := by
  obtain ⟨hi, e⟩ := List.getElem?_eq_some_iff.mp h
  subst e
  exact ⟨List.getElem_mem hi, fi_at hi⟩
theorem fi_some {xs : List (Int × Option Int)} {s : Int} {v : Int × Option Int} (h : v ∈ xs) (hs : v.1 ≤ s) : ∃ u, xs[fi xs s]? = some u := by
  obtain ⟨j, hj, e⟩ := List.getElem_of_mem h
  subst e
  have := fi_min hj hs
  exact ⟨_, List.getElem?_eq_getElem (by omega)⟩
theorem fi_top {xs : List (Int × Option Int)} (hV : Valid xs) {s : Int} {u v : Int × Option Int} (h : xs[fi xs s]? = some u) (hv : v ∈ xs) (hs : v.1 ≤ s) : v.1 ≤ u.1 := by
  obtain ⟨hi, e⟩ := List.getElem?_eq_some_iff.mp h
  subst e
  obtain ⟨j, hj, e⟩ := List.getElem_of_mem hv
  subst e
  have := fi_min hj hs
  rcases Nat.lt_or_eq_of_le this with q | q
  · have := hV.lt q hj; omega
  · simp only [q]; omega
theorem Valid.eq {xs : List (Int × Option Int)} (hV : Valid xs) {u v : Int × Option Int} (hu : u ∈ xs) (hv : v ∈ xs) (e : u.1 = v.1) : u = v := by
  obtain ⟨i, hi, e1⟩ := List.getElem_of_mem hu
  obtain ⟨j, hj, e2⟩ := List.getElem_of_mem hv
  subst e1 e2
  have := hV.inj hi hj e
  simp only [this]
theorem eqv_dat (v u : Int × Option Int) : PyData.eqv (datV v) (datV u) = decide (v = u) := by
  obtain ⟨a, b⟩ := v
  obtain ⟨c, d⟩ := u
  unfold datV
  rw [Bool.eq_iff_iff, decide_eq_true_iff]
  cases b <;> cases d <;> simp [PyData.eqv, PyData.eqvAll]
theorem dat_lay1 (v : Int × Option Int) : SeqAt.shaped (datV v) = true := by
  unfold SeqAt.shaped datV
  cases v.2 <;> simp [PyData.canLay0, PyData.canLayAll0, PyData.depth, PyData.depthAll]
theorem dat_at {H : Hp} {p : Addr} {v : Int × Option Int} (h : SqT K H p [.int v.1, markV v.2]) : Dp K H (.ref p) (datV v) := by
  refine .tup h (.cons (.int _) (.cons ?_ .nil))
  cases v.2 with
  | none => exact .non
  | some i => exact .int i
theorem o_eqT {H : Hp} {Q : VK} {r : R2} {a b : Addr} {v u : Int × Option Int} (h1 : SqT K H a [.int v.1, markV v.2]) (h2 : SqT K H b [.int u.1, markV u.2]) (q : Q (.bl (decide (v = u))) H) : rOr r (rEqD K) (.ref a) (.ref b) H Q :=
  .inr ⟨_, _, dat_at h1, dat_at h2, dat_lay1 v, dat_lay1 u, by rw [eqv_dat]; exact q⟩
def SeenAt (K : PySem.W.Frag) (H : Hp) (x : V) : Option (Int × Option Int) → Prop
  | none => x = .non
  | some v => ∃ p, x = .ref p ∧ SqT K H p [.int v.1, markV v.2]
theorem seen_at {H : Hp} {ps : List Addr} {xs : List (Int × Option Int)} (hP : PairsAt K H ps xs) (s : Int) : SeenAt K H (seenV ps xs s) xs[fi xs s]? := by
  unfold seenV
  rcases Nat.lt_or_ge (fi xs s) xs.length with h | h
  · rw [List.getElem?_eq_getElem h, List.getElem?_eq_getElem (show fi xs s < ps.length by rw [hP.1]; exact h)]
    exact ⟨_, rfl, hP.at h⟩
  · rw [List.getElem?_eq_none h, List.getElem?_eq_none (show ps.length ≤ fi xs s by rw [hP.1]; exact h)]
    exact rfl
end
end Vw

set_option Elab.async false
set_option linter.all false
set_option maxRecDepth 100000
set_option maxHeartbeats 4000000
namespace Vw
open PySem PySem.Spec PyProof.Rows L2 RT
local macro_rules | `(tactic| walk_at "s") => `(tactic| with_reducible first
  | refine' s_seq ?_ | refine' s_next ?_ | refine' s_set ?_ | refine' s_ret ?_ | refine' s_retN ?_ | refine' s_drop ?_ | refine' s_if ?_ | refine' s_ipI ?_
  | refine' e_c ?_ | refine' e_op ?_ | refine' e_un ?_ | refine' e_neg ?_ | refine' e_test ?_ | refine' e_tB ?_ | refine' e_bl ?_ | refine' e_and ?_ | refine' e_or ?_ | refine' e_not ?_
  | refine' e_andV ?_ | refine' e_orV ?_ | refine' e_notV ?_ | refine' e_kV ?_ | refine' e_ife ?_ | refine' e_nil ?_ | refine' e_cons ?_ | refine' e_cb ?_ | refine' e_call ?_ | refine' e_chain ?_
  | refine' o_addI ?_ | refine' o_eqI ?_ | refine' o_neI ?_ | refine' o_I0 ?_ | refine' o_pow16 ?_ | refine' o_pow17 ?_ | refine' o_pow18 ?_ | refine' o_pow19 ?_ | refine' o_pow30 ?_ | refine' o_pow31 ?_ | refine' o_pow1 ?_ | refine' o_pow2 ?_ | refine' o_pow3 ?_ | refine' o_pow4 ?_ | refine' o_pow5 ?_ | refine' o_pow6 ?_ | refine' o_pow9 ?_ | refine' o_pow10 ?_ | refine' o_pow12 ?_ | refine' o_pow15 ?_ | refine' o_pow20 ?_ | refine' e_lst ?_ | refine' e_tup ?_ | refine' iteT ?_ | refine' i_nt ?_ | refine' i_nf ?_ | refine' iteF ?_ | refine' c_int ?_ | refine' c_abs ?_ | refine' c_min2 ?_ | refine' c_max2 ?_ | refine' e_tru ?_ | refine' t_bl ?_ | refine' t_non ?_ | refine' t_int ?_ | refine' isN_non ?_ | refine' isN_int ?_ | refine' isN_ref ?_ | refine' isN_str ?_ | refine' isN_bl ?_ | refine' noN_non ?_ | refine' noN_int ?_ | refine' noN_ref ?_ | refine' noN_str ?_ | refine' noN_bl ?_
  | refine' s_brk ?_ | refine' s_cont ?_ | refine' s_for ?_ | refine' e_lc ?_ | refine' e_dc ?_ | refine' e_yes ?_ | refine' i_rng1 ?_ | refine' i_lst0 ?_ | refine' i_tup0 ?_ | refine' e_bm ?_ | refine' e_sl ?_ | refine' e_np ?_ | refine' e_pt ?_ | refine' e_ptI ?_ | refine' e_din ?_ | refine' i_enum0 ?_ | refine' i_rev0 ?_ | refine' g_sub ?_ | refine' s_asg ?_ | refine' i_zip0 ?_ | refine' e_revT ?_ | refine' isB_bl ?_ | refine' notB_bl ?_ | refine' o_neB ?_)
local macro_rules | `(tactic| walk_at "v") => `(tactic| ((with_reducible refine' e_var ?hv ?_); (case hv => exact rfl)))
local macro_rules | `(tactic| walk_at "a") => `(tactic| ((with_reducible refine' s_aug ?hv ?_); (case hv => exact rfl)))
local macro_rules | `(tactic| walk_at "m") => `(tactic| first
  | ((with_reducible refine' o_mod ?hv ?_); (case hv => first | decide | omega))
  | ((with_reducible refine' o_mulR ?hv ?_); (case hv => omega))
  | ((with_reducible refine' o_mulL ?hv ?_); (case hv => omega))
  | ((with_reducible refine' o_div ?hv ?hw ?_); (case hv => omega); (case hw => omega))
  | ((with_reducible refine' o_pow _ ?hv ?hw ?hx ?_); (case hv => exact rfl); (case hw => decide); (case hx => decide)))
local macro_rules | `(tactic| walk_at "i") => `(tactic| (first
  | ((with_reducible refine' isi_int true ?hv ?_); (case hv => exact (by decide +kernel)))
  | ((with_reducible refine' isi_int false ?hv ?_); (case hv => exact (by decide +kernel)))
  | ((with_reducible refine' isi_non true ?hv ?_); (case hv => exact (by decide +kernel)))
  | ((with_reducible refine' isi_non false ?hv ?_); (case hv => exact (by decide +kernel)))
  | ((with_reducible refine' isi_str true ?hv ?_); (case hv => exact (by decide +kernel)))
  | ((with_reducible refine' isi_str false ?hv ?_); (case hv => exact (by decide +kernel)))
  | ((with_reducible refine' isi_bl true ?hv ?_); (case hv => exact (by decide +kernel)))
  | ((with_reducible refine' isi_bl false ?hv ?_); (case hv => exact (by decide +kernel)))
  | ((with_reducible refine' isi_t true ?hw ?hv ?_); (case hw => assumption); (case hv => exact (by decide +kernel)))
  | ((with_reducible refine' isi_t false ?hw ?hv ?_); (case hw => assumption); (case hv => exact (by decide +kernel)))
  | ((with_reducible refine' isi_l true ?hw ?hv ?_); (case hw => assumption); (case hv => exact (by decide +kernel)))
  | ((with_reducible refine' isi_l false ?hw ?hv ?_); (case hw => assumption); (case hv => exact (by decide +kernel)))
  | ((with_reducible refine' isi_tup true ?hw ?hv ?_); (case hw => assumption); (case hv => exact (by decide +kernel)))
  | ((with_reducible refine' isi_tup false ?hw ?hv ?_); (case hw => assumption); (case hv => exact (by decide +kernel)))
  | ((with_reducible refine' isi_lst true ?hw ?hv ?_); (case hw => assumption); (case hv => exact (by decide +kernel)))
  | ((with_reducible refine' isi_lst false ?hw ?hv ?_); (case hw => assumption); (case hv => exact (by decide +kernel)))))
local macro_rules | `(tactic| walk_at "om") => `(tactic| first | omega | (simp only [List.length_cons, List.length_nil, List.length_map, List.length_append, List.length_range]; omega))
local macro_rules | `(tactic| walk_at "d") => `(tactic| (first
  | ((with_reducible refine' i_dt ?hv ?_); (case hv => walk_at "om"))
  | ((with_reducible refine' i_df ?hv ?_); (case hv => walk_at "om"))
  | ((with_reducible refine' i_ndt ?hv ?_); (case hv => walk_at "om"))
  | ((with_reducible refine' i_ndf ?hv ?_); (case hv => walk_at "om"))))
local macro_rules | `(tactic| walk_at "x") => `(tactic| first
  | ((with_reducible refine' o_ixA ?hv ?hw ?_); (case hv => assumption); (case hw => exact rfl))
  | ((with_reducible refine' o_ixU ?hv ?hw ?_); (case hv => assumption); (case hw => exact rfl))
  | ((with_reducible refine' o_ixL ?hv ?hw ?_); (case hv => assumption); (case hw => exact rfl))
  | ((with_reducible refine' o_ixT ?hv ?hw ?_); (case hv => assumption); (case hw => exact rfl))
  | ((with_reducible refine' set_ ?hv ?hw ?_); (case hv => assumption); (case hw => exact rfl))
  | ((with_reducible refine' e_lenM ?hv ?_); (case hv => first | assumption | exact slO (by assumption)))
  | ((with_reducible refine' e_lenN ?hv ?_); (case hv => first | assumption | exact stO (by assumption)))
  | ((with_reducible refine' e_lenL ?hv ?_); (case hv => first | assumption | exact slO (by assumption)))
  | ((with_reducible refine' e_lenT ?hv ?_); (case hv => first | assumption | exact stO (by assumption))))
local macro_rules | `(tactic| walk_at "c") => `(tactic| first
  | ((with_reducible refine' c_listL ?hv ?_); (case hv => assumption))
  | ((with_reducible refine' c_listT ?hv ?_); (case hv => assumption))
  | ((with_reducible refine' c_tupL ?hv ?_); (case hv => first | assumption | exact slO (by assumption)))
  | ((with_reducible refine' c_tupT ?hv ?_); (case hv => assumption))
  | ((with_reducible refine' t_lst ?hv ?_); (case hv => first | assumption | exact slO (by assumption)))
  | ((with_reducible refine' t_tup ?hv ?_); (case hv => assumption))
  | ((with_reducible refine' r_sl ?hv ?_); (case hv => first | assumption | exact slO (by assumption)))
  | ((with_reducible refine' o_inL ?hv ?_); (case hv => first | assumption | exact slO (by assumption)))
  | ((with_reducible refine' o_inT ?hv ?_); (case hv => first | assumption | exact stO (by assumption)))
  | ((with_reducible refine' o_niL ?hv ?_); (case hv => first | assumption | exact slO (by assumption)))
  | ((with_reducible refine' o_niT ?hv ?_); (case hv => first | assumption | exact stO (by assumption)))
  | ((with_reducible refine' ty_lst ?hv ?_); (case hv => assumption)))
local macro_rules | `(tactic| walk_at "mo") => `(tactic| repeat' (first | exact m_yes | exact m_var | exact m_c | exact m_I0 | exact m_I | exact m_ix | exact m_add | exact m_in | exact m_int1 | exact m_abs | exact m_nil | refine' m_and ?_ ?_ | refine' m_test ?_ | refine' m_tB ?_ | refine' m_op ?_ ?_ ?_ | refine' m_cons ?_ ?_ | refine' m_cb ?_ ?_))
local macro_rules | `(tactic| walk_at "go") => `(tactic| repeat' (first | walk_at "s" | walk_at "v" | walk_at "a" | walk_at "x" | walk_at "m" | walk_at "c" | walk_at "i" | walk_at "d"))

section
variable {P : Program} {w : World} {K : PySem.W.Frag} {mg : Str → Option Value} {base : Heap}
def sp_is_same (K : PySem.W.Frag) : Sp := fun vs H Q _ => ∃ x y o1 o2, vs = [x, y] ∧ SeenAt K H x o1 ∧ SeenAt K H y o2 ∧ (o1 = none → o2 = none) ∧ Q (.bl (sameO o1 o2)) H
theorem ok_is_same (T : Txt K mg) : FnOk P w K mg base CX0 1 T.is_same.f T.is_same.fd ["whole", "alone"] (sp_is_same K) := by
  refine T.is_same.F.ok sc_is_same (fun vs H Q E h => ?_) (fun cdv A outer s H vs Q E hr h => ?_)
  · obtain ⟨x, y, o1, o2, rfl, _⟩ := h
    rfl
  · obtain ⟨x, y, o1, o2, rfl, h1, h2, h3, k⟩ := h
    refine ⟨_, (pss_cons (ps_if (pt_cmpR oIsN (pv 1) pe_non (nomark _)) (pss_one (ps_ret (pe_or (pe_cmpR oIsN (pv 0) pe_non (nomark _)) (pe_one (pe_cmpR oIsN (pe_ix (ixLT (K := K)) (pv 0) pe_int (fun _ _ => rfl)) pe_non (nomark _)))))) pss_nil)
    (pss_one (ps_ret (pe_cmpR (oEq (K := K) hr.units) (pv 1) (pv 0) (nomark _))))), ?_⟩
    cases o2 with
    | none =>
      have h2 : y = .non := h2
      subst h2
      cases o1 with
      | none =>
        have h1 : x = .non := h1
        subst h1
        walk_at "go"
        exact k
      | some u =>
        obtain ⟨p, rfl, hp⟩ := h1
        walk_at "go"
        have e : sameO (some u) none = u.2.isNone := rfl
        rw [e] at k
        cases e2 : u.2 with
        | none =>
          rw [e2] at hp k
          walk_at "go"
          exact k
        | some z =>
          rw [e2] at hp k
          walk_at "go"
          exact k
    | some v =>
      obtain ⟨q, rfl, hq⟩ := h2
      cases o1 with
      | none => exact absurd (h3 rfl) (by simp)
      | some u =>
        obtain ⟨p, rfl, hp⟩ := h1
        walk_at "go"
        refine o_eqT hq hp ?_
        have e : sameO (some u) (some v) = decide (v = u) := by
          show decide (some u = some v) = _
          rw [Bool.eq_iff_iff, decide_eq_true_iff, decide_eq_true_iff]
          exact ⟨fun h => (Option.some.inj h).symm, fun h => by rw [h]⟩
        rw [← e]
        exact k
def sp_is_kept_right (K : PySem.W.Frag) : Sp := fun vs H Q _ => ∃ a ps xs b l x hd d, ∃ ns : List Int, vs = [.ref a, .ref b, .int l, x] ∧ SqX K H a (ps.map V.ref) ∧ PairsAt K H ps xs ∧ Valid xs ∧ SqT K H b (ns.map V.int) ∧ ns.length < 60 ∧ lotB ns = true ∧ (∀ z ∈ ns, z ≤ l) ∧ top xs ≤ l ∧ l ≤ GC ∧ ThingOk K hd H x d ∧
  ∀ H', Same H H' → Q (.bl (keptR xs (ns ++ [l]) d)) H'
theorem ok_is_kept_right (T : Txt K mg) : FnOk P w K mg base CX0 8 T.is_kept_right.f T.is_kept_right.fd ["versions", "open_lot", "last", "thing"] (sp_is_kept_right K) := by
  refine T.is_kept_right.F.ok sc_is_kept_right (fun vs H Q E h => ?_) (fun cdv A outer s H vs Q E hr h => ?_)
  · obtain ⟨a, ps, xs, b, l, x, hd, d, ns, rfl, _⟩ := h
    rfl
  · obtain ⟨a, ps, xs, b, l, x, hd, d, ns, rfl, hS, hP, hV, hB, hl, h1, h2, h3, h4, hT, k⟩ := h
    refine ⟨_, (pss_cons (ps_expr (pe_call (ok_need_all T) (hr.mono (by decide)) (by rfl) T.need_all.g T.need_all.F.kp T.need_all.b .nil pass0 (pa_cons (pv 0) (pa_cons (pv 1) (pa_cons (pv 2) pa_nil)))))
    (pss_cons (ps_if (pt_not (ptTruth (K := K) (pe_call (ok_is_lot T) (hr.mono (by decide)) (by rfl) T.is_lot.g T.is_lot.F.kp T.is_lot.b .nil pass0 (pa_cons (pv 3) pa_nil)) (by intro _; rfl))) (pss_one (ps_ret pe_bl)) pss_nil)
    (pss_cons (ps_set (i := 4) sc_is_kept_right.nd rfl (Or.inr rfl) (pe_dc (own := [("commit", 7)]) rfl sc_is_kept_right.nd (piT (K := K) (pv 3)) (blkOk_by (N := n_is_kept_right) (sc := defScope s_is_kept_right) (by decide +kernel)) (fun _ _ _ _ _ => (pg_name (i := 7) sc_is_kept_right.nd rfl (Or.inl rfl))) (fun _ _ _ _ _ => pts_nil) (fun _ _ _ _ _ => (pv 7)) (fun _ _ _ _ _ => pe_bl)))
    (pss_cons (ps_setLc (i := 5) (own := [("version", 8)]) rfl sc_is_kept_right.nd rfl rfl (sw_true rfl rfl rfl (by decide +kernel)) (piX (K := K) (pv 0)) (blkOk_by (N := n_is_kept_right) (sc := defScope s_is_kept_right) (by decide +kernel)) (fun _ _ _ _ _ => (pg_name (i := 8) sc_is_kept_right.nd rfl (Or.inl rfl))) (fun _ _ _ _ _ => (pts_one (pt_cmp (pc_din (hu_of hr) (pe_ix (ixLT (K := K)) (pv 8) pe_int (fun _ _ => rfl)) (pv 4))))) (fun _ _ _ _ _ => (pv 8)))
    (pss_cons (ps_if (pt_cmpR oLt (pe_callB (cLen (K := K)) (by rfl) T.z_len PySem.boot_len (pa_cons (pv 5) pa_nil)) (pe_callB cLenD (by rfl) T.z_len PySem.boot_len (pa_cons (pv 4) pa_nil)) (nomark _)) (pss_one (ps_ret pe_bl)) pss_nil)
    (pss_cons (ps_set (i := 6) sc_is_kept_right.nd rfl (Or.inl rfl) (pe_call (ok_asked_of T) (hr.mono (by decide)) (by rfl) T.asked_of.g T.asked_of.F.kp T.asked_of.b .nil pass0 (pa_cons (pv 1) (pa_cons (pv 2) pa_nil))))
    (pss_one (ps_ret (pe_callB (cAll (K := K) rfl) (by rfl) T.z_all (by decide +kernel) (pa_cons (pe_lc (own := [("whole", 9), ("alone", 10)]) rfl sc_is_kept_right.nd (piZip (K := K) (by rfl) T.z_zip (pa_cons (pe_call (ok_seen_each T) (hr.mono (by decide)) (by rfl) T.seen_each.g T.seen_each.F.kp T.seen_each.b .nil pass0 (pa_cons (pv 0) (pa_cons (pv 6) pa_nil))) (pa_cons (pe_call (ok_seen_each T) (hr.mono (by decide)) (by rfl) T.seen_each.g T.seen_each.F.kp T.seen_each.b .nil pass0 (pa_cons (pv 5) (pa_cons (pv 6) pa_nil))) pa_nil))) (blkOk_by (N := n_is_kept_right) (sc := defScope s_is_kept_right) (by decide +kernel)) (fun _ _ _ _ _ => (pgTup (K := K) (n := 2) (pg_tup (n := 2) rfl (pgs_cons (pg_name (i := 9) sc_is_kept_right.nd rfl (Or.inl rfl)) (pgs_cons (pg_name (i := 10) sc_is_kept_right.nd rfl (Or.inl rfl)) pgs_nil))))) (fun _ _ _ _ _ => pts_nil) (fun _ _ _ _ _ => (pe_call (ok_is_same T) (hr.mono (by decide)) (by rfl) T.is_same.g T.is_same.F.kp T.is_same.b .nil pass0 (pa_cons (pv 9) (pa_cons (pv 10) pa_nil))))) pa_nil)))))))))), ?_⟩
    walk_at "go"
    refine ⟨a, ps, xs, b, ns, l, rfl, hS, hP, hV, hB, by omega, h1, h2, h3, h4, fun H1 s1 => ?_⟩
    walk_at "go"
    refine ⟨x, hd, d, rfl, hT.same s1, fun H2 s2 => ?_⟩
    have s12 := s1.trans s2
    cases e1 : lotD d with
    | false =>
      walk_at "go"
      have e2 : keptR xs (ns ++ [l]) d = false := by
        cases d with
        | none => rfl
        | some ys =>
          have e1 : lotV ys = false := e1
          show (lotV ys && _) = false
          rw [e1]; rfl
      rw [← e2]
      exact k _ s12
    | true =>
      cases d with
      | none => exact absurd e1 Bool.false_ne_true
      | some ys =>
        obtain ⟨t, rfl, hY, yl, _⟩ := hT.same s12
        have e1 : lotV ys = true := e1
        have e3 := Bool.and_eq_true_iff.mp e1
        have asc := lotB_asc e3.2
        have hi := ints_of e3.1
        have eR : keptR xs (ns ++ [l]) (some ys) = (inAll xs (ys.map toI) && (ns ++ [l]).all (okS xs (keptOf xs (ys.map toI)))) := by
          show (lotV ys && _) = _
          rw [e1]; rfl
        rw [eR] at k
        rw [hi] at hY
        have ml : (ys.map toI).length ≤ 1000 := by rw [List.length_map]; exact yl
        generalize ys.map toI = ms at *
        clear hi e3 e1 yl eR
        have mnd : ms.Nodup := asc.imp fun h => by omega
        walk_at "go"
        refine i_tup hY ?_
        refine d_it walk_tup (fun i acc H' => Same H2 H' ∧ acc.length = i ∧ ∀ c : Int, (valV acc (Sum.inl c : Key)).isSome = decide (c ∈ ms.take i)) (fun D hD => ⟨upd_free (Same.refl _) hD, rfl, fun c => rfl⟩) (fun i acc H' hi p => st_ p.1 hY) (fun acc D H3 hD hp p => ?_) (fun i x acc H' H'' D hi hD hp p y => ?_)
        rotate_left 1
        · obtain ⟨s3, hz, hk⟩ := p
          obtain ⟨rfl, hx⟩ := y
          have hi' : i < ms.length := by simpa using hi
          have ex : x = .int ms[i] := by
            rw [List.getElem?_map, List.getElem?_eq_getElem hi'] at hx
            exact (Option.some.inj hx).symm
          subst ex
          refine ⟨rfl, ?_⟩
          have nw : valV acc (Sum.inl ms[i] : Key) = none := by
            have := hk ms[i]
            rw [decide_eq_false (fun z => ?_)] at this
            · exact Option.isNone_iff_eq_none.mp (by simpa using this)
            · obtain ⟨j, hj, e⟩ := List.getElem_of_mem z
              rw [List.getElem_take] at e
              have hj' : j < i := by simp at hj; omega
              have := List.pairwise_iff_getElem.mp asc j i (by omega) hi' hj'
              omega
          walk_at "go"
          refine ⟨acc, Sum.inl ms[i], rfl, hp, lt_size (by omega), _, upd_same, upd_free s3 hD, ?_, fun c => ?_⟩
          · rw [putK_new _ nw]; simp [hz]
          · have et : decide (c ∈ ms.take (i + 1)) = (decide (c ∈ ms.take i) || decide (c = ms[i])) := by
              rw [List.take_add_one, List.getElem?_eq_getElem hi', Bool.eq_iff_iff]
              simp only [Option.toList_some, List.mem_append, List.mem_singleton, Bool.or_eq_true_iff, decide_eq_true_iff]
            rw [valV_put, et]
            by_cases hc : c = ms[i]
            · rw [if_pos (by rw [hc]), decide_eq_true hc, Bool.or_true]; rfl
            · rw [if_neg (fun z => hc (Sum.inl.inj z)), hk, decide_eq_false hc, Bool.or_false]
        · obtain ⟨s3, hz, hk⟩ := p
          rw [List.length_map] at hz
          have hk : ∀ c : Int, (valV acc (Sum.inl c : Key)).isSome = decide (c ∈ ms) := fun c => by rw [hk c, List.length_map, List.take_length]
          have s13 := s12.trans s3
          walk_at "go"
          refine i_orX rfl hS s13 fun J G hG hW => ?_
          have hlen : ps.length = xs.length := hP.1
          have few := hV.few
          refine c_it hW (fun i acc H' => Same H3 H' ∧ acc = ((((ps.zip xs).take i).filter fun z => decide (z.2.1 ∈ ms)).map (·.1)).map V.ref) (fun D hD => ⟨upd_free (Same.refl _) hD, rfl⟩) (fun i acc H' hi p => hG _ (s13.trans p.1)) (fun acc2 D2 H4 hD2 hp2 p => ?_) (fun i x acc H' H'' D2 hi hD2 hp2 p y => ?_)
          rotate_left 1
          · obtain ⟨s4, rfl⟩ := p
            obtain ⟨rfl, hx⟩ := y
            have hi' : i < ps.length := by simpa using hi
            have ex : x = .ref ps[i] := by
              rw [List.getElem?_map, List.getElem?_eq_getElem hi'] at hx
              exact (Option.some.inj hx).symm
            subst ex
            have hzz : (ps.zip xs)[i]? = some (ps[i], xs[i]) := by rw [List.getElem?_zip_eq_some]; exact ⟨List.getElem?_eq_getElem hi', List.getElem?_eq_getElem (by omega)⟩
            have hv := (pa_ (s13.trans s4) hP).at (show i < xs.length by omega)
            have hd4 := at_ s4 hp
            have few2 : ((ps.zip xs).take i).length ≤ 1000 := by simp; omega
            refine ⟨rfl, ?_⟩
            walk_at "go"
            refine g_din (k := Sum.inl xs[i].1) hd4 ?_
            rw [hk]
            walk_at "go"
            refine i_d (fun q => ?_) (fun q => ?_)
            · walk_at "go"
              refine ⟨_, hp2, lt_size (by have := List.length_filter_le (fun z : Addr × (Int × Option Int) => decide (z.2.1 ∈ ms)) ((ps.zip xs).take i); simp at *; omega), _, upd_same, upd_free s4 hD2, ?_⟩
              rw [List.take_add_one, hzz, List.filter_append, List.map_append, List.map_append]
              have e : List.filter (fun z : Addr × (Int × Option Int) => decide (z.2.1 ∈ ms)) [(ps[i], xs[i])] = [(ps[i], xs[i])] := by rw [List.filter_cons, if_pos (decide_eq_true q)]; rfl
              show _ = _ ++ List.map V.ref (List.map (·.1) (List.filter _ [(ps[i], xs[i])]))
              rw [e]; rfl
            · refine ⟨_, hp2, s4, ?_⟩
              rw [List.take_add_one, hzz, List.filter_append, List.map_append, List.map_append]
              have e : List.filter (fun z : Addr × (Int × Option Int) => decide (z.2.1 ∈ ms)) [(ps[i], xs[i])] = [] := by rw [List.filter_cons, if_neg (by simpa using q)]; rfl
              show _ = _ ++ List.map V.ref (List.map (·.1) (List.filter _ [(ps[i], xs[i])]))
              rw [e]; simp
          · obtain ⟨s4, rfl⟩ := p
            have s14 := s13.trans s4
            rw [show (ps.zip xs).take (ps.map V.ref).length = ps.zip xs from List.take_of_length_le (by simp; omega)] at hp2
            have PK := pairs_zip (pa_ s14 hP) ((ps.zip xs).filter fun z => decide (z.2.1 ∈ ms)) fun z hz => (List.mem_filter.mp hz).1
            rw [kept_zip hlen] at PK
            generalize hkp : ((ps.zip xs).filter fun z => decide (z.2.1 ∈ ms)).map (·.1) = kp at *
            have hVK : Valid (keptOf xs ms) := hV.sub List.filter_sublist
            have eL := kept_len hV mnd
            have hd4 := at_ s4 hp
            walk_at "go"
            refine e_lenD hd4 ?_
            walk_at "go"
            have ekl := PK.1
            refine i_d (fun q => ?_) (fun q => ?_)
            · walk_at "go"
              have e2 : (inAll xs ms && (ns ++ [l]).all (okS xs (keptOf xs ms))) = false := by
                rw [eL, decide_eq_true (show (keptOf xs ms).length < ms.length by omega)]; rfl
              rw [← e2]
              exact k _ s14
            · have e2 : (inAll xs ms && (ns ++ [l]).all (okS xs (keptOf xs ms))) = (ns ++ [l]).all (okS xs (keptOf xs ms)) := by
                rw [eL, decide_eq_false (show ¬ (keptOf xs ms).length < ms.length by omega)]; rfl
              rw [e2] at k
              walk_at "go"
              refine ⟨b, ns, l, rfl, st_ s14 hB, hl, fun p5 H5 as n5 s5 h5 a1 a2 a3 => ?_⟩
              have s15 := s14.trans s5
              walk_at "go"
              refine ⟨a, ps, xs, p5, as, rfl, sx_ s15 hS, pa_ s15 hP, hV, h5, a1, a3, fun p6 H6 n6 s6 h6 => ?_⟩
              have s16 := s15.trans s6
              walk_at "go"
              refine ⟨D2, kp, keptOf xs ms, p5, as, rfl, .inl (slO (at_ (s5.trans s6) hp2)), pa_ (s5.trans s6) PK, hVK, at_ s6 h5, a1, a3, fun p7 H7 n7 s7 h7 => ?_⟩
              have s17 := s16.trans s7
              have h67 := at_ s7 h6
              walk_at "go"
              refine i_zip (slO h67) (slO h7) ?_
              have hP7 := pa_ s17 hP
              have PK7 := pa_ (s5.trans (s6.trans s7)) PK
              refine c_it (walk_zip (n := as.length) (by simp)) (fun i acc H' => Same H7 H' ∧ acc = ((as.take i).map (okS xs (keptOf xs ms))).map V.bl) (fun D hD => ⟨upd_free (Same.refl _) hD, rfl⟩) (fun i acc H' hi p => ⟨slO (at_ p.1 h67), slO (at_ p.1 h7)⟩) (fun acc3 D3 H8 hD3 hp3 p => ?_) (fun i x acc H' H'' D3 hi hD3 hp3 p y => ?_)
              · obtain ⟨s8, rfl⟩ := p
                walk_at "go"
                refine e_allB hp3 ?_
                walk_at "go"
                have e5 : (List.map (okS xs (keptOf xs ms)) (as.take as.length)).all id = (ns ++ [l]).all (okS xs (keptOf xs ms)) := by
                  rw [List.take_length, List.all_map, Bool.eq_iff_iff, List.all_eq_true, List.all_eq_true]
                  exact ⟨fun h x hx => h x ((a2 x).mpr hx), fun h x hx => h x ((a2 x).mp hx)⟩
                rw [e5]
                exact k _ (s17.trans s8)
              · obtain ⟨s8, rfl⟩ := p
                obtain ⟨Tp, x1, x2, rfl, nT, rfl, y1, y2⟩ := y
                have y1 : (as.map (seenV ps xs))[i]? = some x1 := y1
                have y2 : (as.map (seenV kp (keptOf xs ms)))[i]? = some x2 := y2
                have ex1 : x1 = seenV ps xs as[i] := by
                  rw [List.getElem?_map, List.getElem?_eq_getElem hi] at y1
                  exact (Option.some.inj y1).symm
                have ex2 : x2 = seenV kp (keptOf xs ms) as[i] := by
                  rw [List.getElem?_map, List.getElem?_eq_getElem hi] at y2
                  exact (Option.some.inj y2).symm
                subst ex1 ex2
                have s9 : Same H' (upd H' Tp (.tup [seenV ps xs as[i], seenV kp (keptOf xs ms) as[i]])) := Same.new nT
                have neD : D3 ≠ Tp := ne_new hp3 nT
                have hp9 := at_ s9 hp3
                refine g_pair upd_same ?_
                generalize upd H' Tp (.tup [seenV ps xs as[i], seenV kp (keptOf xs ms) as[i]]) = H9 at *
                have s79 := s8.trans s9
                refine ⟨rfl, ?_⟩
                walk_at "go"
                refine ⟨_, _, xs[fi xs as[i]]?, (keptOf xs ms)[fi (keptOf xs ms) as[i]]?, rfl, seen_at (pa_ s79 hP7) _, seen_at (pa_ s79 PK7) _, fun z => ?_, ?_⟩
                · cases e : (keptOf xs ms)[fi (keptOf xs ms) as[i]]? with
                  | none => rfl
                  | some v =>
                    obtain ⟨g1, g2⟩ := fi_mem e
                    obtain ⟨u, hu⟩ := fi_some (xs := xs) (List.mem_filter.mp g1).1 g2
                    rw [z] at hu; cases hu
                · refine ⟨_, hp9, lt_size (by simp; omega), _, upd_same, upd_free s79 hD3, ?_⟩
                  rw [List.take_add_one, List.getElem?_eq_getElem hi, List.map_append, List.map_append]; rfl
end
end Vw

set_option Elab.async false
set_option linter.all false
set_option maxRecDepth 100000
set_option maxHeartbeats 4000000
namespace Vw
open PySem PySem.Spec PyProof.Rows L2 RT
local macro_rules | `(tactic| walk_at "s") => `(tactic| with_reducible first
  | refine' s_seq ?_ | refine' s_next ?_ | refine' s_set ?_ | refine' s_ret ?_ | refine' s_retN ?_ | refine' s_drop ?_ | refine' s_if ?_ | refine' s_ipI ?_
  | refine' e_c ?_ | refine' e_op ?_ | refine' e_un ?_ | refine' e_neg ?_ | refine' e_test ?_ | refine' e_tB ?_ | refine' e_bl ?_ | refine' e_and ?_ | refine' e_or ?_ | refine' e_not ?_
  | refine' e_andV ?_ | refine' e_orV ?_ | refine' e_notV ?_ | refine' e_kV ?_ | refine' e_ife ?_ | refine' e_nil ?_ | refine' e_cons ?_ | refine' e_cb ?_ | refine' e_call ?_ | refine' e_chain ?_
  | refine' o_addI ?_ | refine' o_eqI ?_ | refine' o_neI ?_ | refine' o_I0 ?_ | refine' o_pow16 ?_ | refine' o_pow17 ?_ | refine' o_pow18 ?_ | refine' o_pow19 ?_ | refine' o_pow30 ?_ | refine' o_pow31 ?_ | refine' o_pow1 ?_ | refine' o_pow2 ?_ | refine' o_pow3 ?_ | refine' o_pow4 ?_ | refine' o_pow5 ?_ | refine' o_pow6 ?_ | refine' o_pow9 ?_ | refine' o_pow10 ?_ | refine' o_pow12 ?_ | refine' o_pow15 ?_ | refine' o_pow20 ?_ | refine' e_lst ?_ | refine' e_tup ?_ | refine' iteT ?_ | refine' i_nt ?_ | refine' i_nf ?_ | refine' iteF ?_ | refine' c_int ?_ | refine' c_abs ?_ | refine' c_min2 ?_ | refine' c_max2 ?_ | refine' e_tru ?_ | refine' t_bl ?_ | refine' t_non ?_ | refine' t_int ?_ | refine' isN_non ?_ | refine' isN_int ?_ | refine' isN_ref ?_ | refine' isN_str ?_ | refine' isN_bl ?_ | refine' noN_non ?_ | refine' noN_int ?_ | refine' noN_ref ?_ | refine' noN_str ?_ | refine' noN_bl ?_
  | refine' s_brk ?_ | refine' s_cont ?_ | refine' s_for ?_ | refine' e_lc ?_ | refine' e_dc ?_ | refine' e_yes ?_ | refine' i_rng1 ?_ | refine' i_lst0 ?_ | refine' i_tup0 ?_ | refine' e_bm ?_ | refine' e_sl ?_ | refine' e_np ?_ | refine' e_pt ?_ | refine' e_ptI ?_ | refine' e_din ?_ | refine' i_enum0 ?_ | refine' i_rev0 ?_ | refine' g_sub ?_ | refine' s_asg ?_)
local macro_rules | `(tactic| walk_at "v") => `(tactic| ((with_reducible refine' e_var ?hv ?_); (case hv => exact rfl)))
local macro_rules | `(tactic| walk_at "a") => `(tactic| ((with_reducible refine' s_aug ?hv ?_); (case hv => exact rfl)))
local macro_rules | `(tactic| walk_at "m") => `(tactic| first
  | ((with_reducible refine' o_mod ?hv ?_); (case hv => first | decide | omega))
  | ((with_reducible refine' o_mulR ?hv ?_); (case hv => omega))
  | ((with_reducible refine' o_mulL ?hv ?_); (case hv => omega))
  | ((with_reducible refine' o_div ?hv ?hw ?_); (case hv => omega); (case hw => omega))
  | ((with_reducible refine' o_pow _ ?hv ?hw ?hx ?_); (case hv => exact rfl); (case hw => decide); (case hx => decide)))
local macro_rules | `(tactic| walk_at "i") => `(tactic| (first
  | ((with_reducible refine' isi_int true ?hv ?_); (case hv => exact (by decide +kernel)))
  | ((with_reducible refine' isi_int false ?hv ?_); (case hv => exact (by decide +kernel)))
  | ((with_reducible refine' isi_non true ?hv ?_); (case hv => exact (by decide +kernel)))
  | ((with_reducible refine' isi_non false ?hv ?_); (case hv => exact (by decide +kernel)))
  | ((with_reducible refine' isi_str true ?hv ?_); (case hv => exact (by decide +kernel)))
  | ((with_reducible refine' isi_str false ?hv ?_); (case hv => exact (by decide +kernel)))
  | ((with_reducible refine' isi_bl true ?hv ?_); (case hv => exact (by decide +kernel)))
  | ((with_reducible refine' isi_bl false ?hv ?_); (case hv => exact (by decide +kernel)))
  | ((with_reducible refine' isi_t true ?hw ?hv ?_); (case hw => assumption); (case hv => exact (by decide +kernel)))
  | ((with_reducible refine' isi_t false ?hw ?hv ?_); (case hw => assumption); (case hv => exact (by decide +kernel)))
  | ((with_reducible refine' isi_l true ?hw ?hv ?_); (case hw => assumption); (case hv => exact (by decide +kernel)))
  | ((with_reducible refine' isi_l false ?hw ?hv ?_); (case hw => assumption); (case hv => exact (by decide +kernel)))
  | ((with_reducible refine' isi_tup true ?hw ?hv ?_); (case hw => assumption); (case hv => exact (by decide +kernel)))
  | ((with_reducible refine' isi_tup false ?hw ?hv ?_); (case hw => assumption); (case hv => exact (by decide +kernel)))
  | ((with_reducible refine' isi_lst true ?hw ?hv ?_); (case hw => assumption); (case hv => exact (by decide +kernel)))
  | ((with_reducible refine' isi_lst false ?hw ?hv ?_); (case hw => assumption); (case hv => exact (by decide +kernel)))))
local macro_rules | `(tactic| walk_at "om") => `(tactic| first | omega | (simp only [List.length_cons, List.length_nil, List.length_map, List.length_append, List.length_range]; omega))
local macro_rules | `(tactic| walk_at "d") => `(tactic| (first
  | ((with_reducible refine' i_dt ?hv ?_); (case hv => walk_at "om"))
  | ((with_reducible refine' i_df ?hv ?_); (case hv => walk_at "om"))
  | ((with_reducible refine' i_ndt ?hv ?_); (case hv => walk_at "om"))
  | ((with_reducible refine' i_ndf ?hv ?_); (case hv => walk_at "om"))))
local macro_rules | `(tactic| walk_at "x") => `(tactic| first
  | ((with_reducible refine' o_ixA ?hv ?hw ?_); (case hv => assumption); (case hw => exact rfl))
  | ((with_reducible refine' o_ixU ?hv ?hw ?_); (case hv => assumption); (case hw => exact rfl))
  | ((with_reducible refine' o_ixL ?hv ?hw ?_); (case hv => assumption); (case hw => exact rfl))
  | ((with_reducible refine' o_ixT ?hv ?hw ?_); (case hv => assumption); (case hw => exact rfl))
  | ((with_reducible refine' set_ ?hv ?hw ?_); (case hv => assumption); (case hw => exact rfl))
  | ((with_reducible refine' e_lenM ?hv ?_); (case hv => first | assumption | exact slO (by assumption)))
  | ((with_reducible refine' e_lenN ?hv ?_); (case hv => first | assumption | exact stO (by assumption)))
  | ((with_reducible refine' e_lenL ?hv ?_); (case hv => first | assumption | exact slO (by assumption)))
  | ((with_reducible refine' e_lenT ?hv ?_); (case hv => first | assumption | exact stO (by assumption))))
local macro_rules | `(tactic| walk_at "c") => `(tactic| first
  | ((with_reducible refine' c_listL ?hv ?_); (case hv => assumption))
  | ((with_reducible refine' c_listT ?hv ?_); (case hv => assumption))
  | ((with_reducible refine' c_tupL ?hv ?_); (case hv => first | assumption | exact slO (by assumption)))
  | ((with_reducible refine' c_tupT ?hv ?_); (case hv => assumption))
  | ((with_reducible refine' t_lst ?hv ?_); (case hv => first | assumption | exact slO (by assumption)))
  | ((with_reducible refine' t_tup ?hv ?_); (case hv => assumption))
  | ((with_reducible refine' r_sl ?hv ?_); (case hv => first | assumption | exact slO (by assumption)))
  | ((with_reducible refine' o_inL ?hv ?_); (case hv => first | assumption | exact slO (by assumption)))
  | ((with_reducible refine' o_inT ?hv ?_); (case hv => first | assumption | exact stO (by assumption)))
  | ((with_reducible refine' o_niL ?hv ?_); (case hv => first | assumption | exact slO (by assumption)))
  | ((with_reducible refine' o_niT ?hv ?_); (case hv => first | assumption | exact stO (by assumption)))
  | ((with_reducible refine' ty_lst ?hv ?_); (case hv => assumption)))
local macro_rules | `(tactic| walk_at "mo") => `(tactic| repeat' (first | exact m_yes | exact m_var | exact m_c | exact m_I0 | exact m_I | exact m_ix | exact m_add | exact m_in | exact m_int1 | exact m_abs | exact m_nil | refine' m_and ?_ ?_ | refine' m_test ?_ | refine' m_tB ?_ | refine' m_op ?_ ?_ ?_ | refine' m_cons ?_ ?_ | refine' m_cb ?_ ?_))
local macro_rules | `(tactic| walk_at "go") => `(tactic| repeat' (first | walk_at "s" | walk_at "v" | walk_at "a" | walk_at "x" | walk_at "m" | walk_at "c" | walk_at "i" | walk_at "d"))

section
variable {P : Program} {w : World} {K : PySem.W.Frag} {mg : Str → Option Value} {base : Heap}
def sp_mixed : Sp := fun vs H Q _ => ∃ a b : Int, vs = [.int a, .int b] ∧ ∀ r, 0 ≤ r → r < 2147483399 → Q (.int r) H
theorem ok_law_mixed (T : Txt K mg) : FnOk P w K mg base CX0 1 T.law_mixed.f T.law_mixed.fd ["cell", "turn"] (sp_mixed) := by
  refine T.law_mixed.F.ok sc_law_mixed (fun vs H Q E h => ?_) (fun cdv A outer s H vs Q E hr h => ?_)
  · obtain ⟨a, b, rfl, _⟩ := h
    rfl
  · obtain ⟨a, b, rfl, k⟩ := h
    refine ⟨_, (pss_cons (ps_set (i := 2) sc_law_mixed.nd rfl (Or.inl rfl) (pe_op op_mod (pe_op oMul (pe_op oAdd (pe_op oAdd (pe_op op_mod (pe_callTy cInt (by rfl) T.z_int (by decide +kernel) (pa_cons (pv 0) pa_nil)) pe_int) (pe_op oMul pe_int (pv 1))) pe_int) pe_int) pe_int))
    (pss_cons (ps_set (i := 2) sc_law_mixed.nd rfl (Or.inl rfl) (pe_op op_mod (pe_op oMul (pv 2) (pe_op oAdd (pe_op op_fdivW (pv 2) pe_int) pe_int)) pe_int))
    (pss_one (ps_ret (pe_op op_fdivW (pe_op op_mod (pe_op oMul (pv 2) (pe_op oAdd (pe_op op_fdivW (pv 2) pe_int) pe_int)) pe_int) pe_int))))), ?_⟩
    walk_at "go"
    refine k _ ?_ ?_ <;> omega
/-! ### the draws' object -/
/-- the draws' object: its list, the list of cells, the cells -/
structure Bg where
  hd : Addr
  g : Addr
  ns : List Int
def BagAt (K : PySem.W.Frag) (H : Hp) (B : Bg) : Prop := ∃ i big c : Int, H B.hd = some (.lst [.ref B.g, .int i, .int big, .int c]) ∧ SqL K H B.g (B.ns.map V.int) ∧ B.g ≠ B.hd ∧ B.ns.length ≤ 63 ∧ 0 ≤ i ∧ 0 ≤ big ∧ 0 ≤ c
structure Hs (K : PySem.W.Frag) (B : Bg) (H H' : Hp) : Prop where
  o : Oth B.hd H H'
  b : BagAt K H' B
theorem Hs.trans {B : Bg} {H H1 H2 : Hp} (a : Hs K B H H1) (b : Hs K B H1 H2) : Hs K B H H2 := ⟨a.o.trans b.o, b.b⟩
theorem bag_same {B : Bg} {H H' : Hp} (b : BagAt K H B) (s : Same H H') : BagAt K H' B := by
  obtain ⟨i, big, c, h1, h2, h3⟩ := b
  exact ⟨i, big, c, s _ _ h1, sl_ s h2, h3⟩
theorem Hs.of {B : Bg} {H H' : Hp} (b : BagAt K H B) (s : Same H H') : Hs K B H H' := ⟨fun c o _ h => s c o h, bag_same b s⟩
theorem Hs.sl {B : Bg} {a : Addr} {H H' : Hp} {xs : List V} (h : Hs K B H H') (n : a ≠ B.hd) (s : SqL K H a xs) : SqL K H' a xs := oth_sl h.o n s
theorem bag_lst {B : Bg} {H : Hp} (b : BagAt K H B) : ∃ xs, H B.hd = some (.lst xs) := by
  obtain ⟨i, big, c, h1, h2, h3⟩ := b
  exact ⟨_, h1⟩
theorem Hs.st {B : Bg} {a : Addr} {H H' : Hp} {xs : List V} (h : Hs K B H H') (b : BagAt K H B) (s : SqT K H a xs) : SqT K H' a xs := by
  obtain ⟨ys, q⟩ := bag_lst b
  exact oth_st h.o q s
theorem Hs.ls {B : Bg} {a : Addr} {H H' : Hp} {xs : List V} (h : Hs K B H H') (n : a ≠ B.hd) (s : H a = some (.lst xs)) : H' a = some (.lst xs) := h.o _ _ n s
theorem new_ne {B : Bg} {p : Addr} {H : Hp} (b : BagAt K H B) (n : H p = none) : p ≠ B.hd := by
  obtain ⟨xs, h⟩ := bag_lst b
  exact (ne_of_none h n).symm
theorem Hs.free {B : Bg} {p : Addr} {H H' : Hp} (h : Hs K B H H') (n : H' p = none) : H p = none := by
  cases e : H p with
  | none => rfl
  | some o =>
    by_cases z : p = B.hd
    · obtain ⟨xs, q⟩ := bag_lst h.b
      rw [← z, n] at q; cases q
    · rw [h.o p o z e] at n; cases n
/-- an object of one's own, not there at H, may change -/
theorem Hs.mut {B : Bg} {f : Addr} {H H3 H4 : Hp} (h : Hs K B H H3) (b : BagAt K H B) (n : H f = none) (o : Oth f H3 H4) : Hs K B H H4 := by
  refine ⟨fun c u nc z => o c u (ne_of_none z n) (h.o c u nc z), ?_⟩
  obtain ⟨i, big, c, h1, h2, h3⟩ := b
  obtain ⟨i', big', c', g1, g2, g3⟩ := h.b
  refine ⟨i', big', c', o _ _ (ne_of_none h1 n) g1, ?_, g3⟩
  rcases h2 with (s | ⟨u, s⟩) | s
  · exact oth_sl o (ne_of_none s n) g2
  · exact oth_sl o (ne_of_none s n) g2
  · exact .inr s
def sp_draw (K : PySem.W.Frag) : Sp := fun vs H Q _ => ∃ (B : Bg) (m : Int), vs = [.ref B.hd, .int m] ∧ BagAt K H B ∧ 0 < m ∧ m < 2 ^ 100 ∧ ∀ r H', 0 ≤ r → r < m → Hs K B H H' → Q (.int r) H'
theorem ok_law_draw (T : Txt K mg) : FnOk P w K mg base CX0 2 T.law_draw.f T.law_draw.fd ["bag", "many"] (sp_draw K) := by
  refine T.law_draw.F.ok sc_law_draw (fun vs H Q E h => ?_) (fun cdv A outer s H vs Q E hr h => ?_)
  · obtain ⟨a, b, rfl, _⟩ := h
    rfl
  · obtain ⟨⟨hd, g, ns⟩, m, rfl, ⟨i, big, c, h1, h2, h3, h4, h5, h6, h7⟩, hm, hM, k⟩ := h
    dsimp only at h1 h2 h3 h4 h5 h6 h7 k ⊢
    refine ⟨_, (pss_cons (ps_asg (pe_op oAdd (pe_ix (ixLT (K := K)) (pv 0) pe_int (fun _ _ => rfl)) pe_int) (pg_sub (pv 0) pe_int set_list))
    (pss_cons (ps_if (pt_cmpR op_gt (pe_ix (ixLT (K := K)) (pv 0) pe_int (fun _ _ => rfl)) pe_int (nomark _)) (pss_cons (ps_set (i := 2) sc_law_draw.nd rfl (Or.inl rfl) (pe_op op_mod (pe_callTy cInt (by rfl) T.z_int (by decide +kernel) (pa_cons (pe_ix (ixLT (K := K)) (pv 0) pe_int (fun _ _ => rfl)) pa_nil)) (pv 1)))
    (pss_cons (ps_asg (pe_op op_fdivW (pe_ix (ixLT (K := K)) (pv 0) pe_int (fun _ _ => rfl)) (pv 1)) (pg_sub (pv 0) pe_int set_list))
    (pss_one (ps_ret (pv 2))))) pss_nil)
    (pss_cons (ps_set (i := 3) sc_law_draw.nd rfl (Or.inl rfl) (pe_ix (ixLT (K := K)) (pv 0) pe_int (fun _ _ => rfl)))
    (pss_cons (ps_if (pt_cmpR (oEq (K := K) hr.units) (pe_callB (cLen (K := K)) (by rfl) T.z_len PySem.boot_len (pa_cons (pv 3) pa_nil)) pe_int (nomark _)) (pss_one (ps_ret (pe_op op_mod (pe_call (ok_law_mixed T) (hr.mono (by decide)) (by rfl) T.law_mixed.g T.law_mixed.F.kp T.law_mixed.b .nil pass0 (pa_cons pe_int (pa_cons (pe_ix (ixLT (K := K)) (pv 0) pe_int (fun _ _ => rfl)) pa_nil))) (pv 1)))) pss_nil)
    (pss_cons (ps_set (i := 4) sc_law_draw.nd rfl (Or.inl rfl) (pe_ix (ixLT (K := K)) (pv 0) pe_int (fun _ _ => rfl)))
    (pss_cons (ps_asg (pe_op oAdd (pv 4) pe_int) (pg_sub (pv 0) pe_int set_list))
    (pss_cons (ps_set (i := 5) sc_law_draw.nd rfl (Or.inl rfl) (pe_ix (ixLT (K := K)) (pv 3) (pe_op op_mod (pe_callTy cInt (by rfl) T.z_int (by decide +kernel) (pa_cons (pv 4) pa_nil)) (pe_callB (cLen (K := K)) (by rfl) T.z_len PySem.boot_len (pa_cons (pv 3) pa_nil))) (fun _ _ => rfl)))
    (pss_cons (ps_if (PW.pt (pw_and (pt_cmpR oLt (pv 4) (pe_callB (cLen (K := K)) (by rfl) T.z_len PySem.boot_len (pa_cons (pv 3) pa_nil)) (nomark _)) (pw_and1 (pt_cmpR op_ge (pe_callB cAbs (by rfl) T.z_abs (by decide +kernel) (pa_cons (pv 5) pa_nil)) (pe_op op_pow pe_int pe_int) (nomark _))))) (pss_cons (ps_asg (pe_op op_fdivW (pe_callB cAbs (by rfl) T.z_abs (by decide +kernel) (pa_cons (pv 5) pa_nil)) (pv 1)) (pg_sub (pv 0) pe_int set_list))
    (pss_one (ps_ret (pe_op op_mod (pe_callTy cInt (by rfl) T.z_int (by decide +kernel) (pa_cons (pe_callB cAbs (by rfl) T.z_abs (by decide +kernel) (pa_cons (pv 5) pa_nil)) pa_nil)) (pv 1))))) pss_nil)
    (pss_one (ps_ret (pe_op op_mod (pe_call (ok_law_mixed T) (hr.mono (by decide)) (by rfl) T.law_mixed.g T.law_mixed.F.kp T.law_mixed.b .nil pass0 (pa_cons (pv 5) (pa_cons (pe_ix (ixLT (K := K)) (pv 0) pe_int (fun _ _ => rfl)) pa_nil))) (pv 1)))))))))))), ?_⟩
    walk_at "go"
    intro H1 o1 e1
    have g1 : SqL K H1 g (ns.map V.int) := oth_sl o1 h3 h2
    walk_at "go"
    refine i_d (fun hb => ?_) (fun hb => ?_)
    · walk_at "go"
      intro H2 o2 e2
      walk_at "go"
      exact k _ _ (Int.emod_nonneg _ (by omega)) (Int.emod_lt_of_pos _ hm) ⟨o1.trans o2, i, big / m, c + 1, e2, oth_sl o2 h3 g1, h3, h4, h5, Int.ediv_nonneg h6 (by omega), by omega⟩
    · walk_at "go"
      refine i_d (fun hn => ?_) (fun hn => ?_)
      · walk_at "go"
        refine ⟨_, _, rfl, fun r hr0 hr1 => ?_⟩
        walk_at "go"
        exact k _ _ (Int.emod_nonneg _ (by omega)) (Int.emod_lt_of_pos _ hm) ⟨o1, i, big, c + 1, e1, g1, h3, h4, h5, h6, by omega⟩
      · walk_at "go"
        intro H2 o2 e2
        have g2 : SqL K H2 g (ns.map V.int) := oth_sl o2 h3 g1
        have hl : 0 < (ns.length : Int) := by omega
        walk_at "go"
        have hz : 0 ≤ i % (ns.length : Int) ∧ i % (ns.length : Int) < ns.length := ⟨Int.emod_nonneg _ (by omega), Int.emod_lt_of_pos _ hl⟩
        refine o_ixL g2 (atI_in (j := (i % (ns.length : Int)).toNat) (by omega) (by rw [List.getElem?_map, List.getElem?_eq_getElem (by omega)]; rfl)) ?_
        generalize ns[(i % (ns.length : Int)).toNat]'_ = cell
        walk_at "go"
        refine i_d (fun hi => ?_) (fun hi => ?_)
        · walk_at "go"
          refine i_d (fun hc => ?_) (fun hc => ?_)
          · walk_at "go"
            intro H3 o3 e3
            walk_at "go"
            exact k _ _ (Int.emod_nonneg _ (by omega)) (Int.emod_lt_of_pos _ hm) ⟨o1.trans (o2.trans o3), i + 1, (if cell < 0 then -cell else cell) / m, c + 1, e3, oth_sl o3 h3 g2, h3, h4, by omega, Int.ediv_nonneg (by split <;> omega) (by omega), by omega⟩
          · walk_at "go"
            refine ⟨_, _, rfl, fun r hr0 hr1 => ?_⟩
            walk_at "go"
            exact k _ _ (Int.emod_nonneg _ (by omega)) (Int.emod_lt_of_pos _ hm) ⟨o1.trans o2, i + 1, big, c + 1, e2, g2, h3, h4, by omega, h6, by omega⟩
        · walk_at "go"
          refine ⟨_, _, rfl, fun r hr0 hr1 => ?_⟩
          walk_at "go"
          exact k _ _ (Int.emod_nonneg _ (by omega)) (Int.emod_lt_of_pos _ hm) ⟨o1.trans o2, i + 1, big, c + 1, e2, g2, h3, h4, by omega, h6, by omega⟩
def sp_bag (K : PySem.W.Frag) : Sp := fun vs H Q _ => ∃ a, ∃ ns : List Int, vs = [.ref a] ∧ SqL K H a (ns.map V.int) ∧ ns.length ≤ 63 ∧ ∀ (B : Bg) H', H B.hd = none → Same H H' → BagAt K H' B → Q (.ref B.hd) H'
theorem ok_law_bag (T : Txt K mg) : FnOk P w K mg base CX0 1 T.law_bag.f T.law_bag.fd ["script"] (sp_bag K) := by
  refine T.law_bag.F.ok sc_law_bag (fun vs H Q E h => ?_) (fun cdv A outer s H vs Q E hr h => ?_)
  · obtain ⟨a, ns, rfl, _⟩ := h
    rfl
  · obtain ⟨a, ns, rfl, hS, hl, k⟩ := h
    refine ⟨_, (pss_one (ps_ret (pe_lst (pa_cons (pe_lc (own := [("cell", 1)]) rfl sc_law_bag.nd (piL (K := K) (pe_slice (slL (K := K)) (pv 0) po_none (po_some pe_int))) (blkOk_by (N := n_law_bag) (sc := defScope s_law_bag) (by decide +kernel)) (fun _ _ _ _ _ => (pg_name (i := 1) sc_law_bag.nd rfl (Or.inl rfl))) (fun _ _ _ _ _ => pts_nil) (fun _ _ _ _ _ => (pe_callTy cInt (by rfl) T.z_int (by decide +kernel) (pa_cons (pv 1) pa_nil)))) (pa_cons pe_int (pa_cons pe_int (pa_cons pe_int pa_nil))))))), ?_⟩
    walk_at "go"
    refine n_new0 fun p1 H1 n1 s1 h1 => ?_
    obtain ⟨ms, e1, e2, _⟩ := cut_map (f := V.int) ns none (some 63)
    rw [e1] at h1
    refine i_lst (slO h1) ?_
    refine c_lst (xs := ms.map V.int) (fun i acc H' => Same H1 H' ∧ acc = (ms.take i).map V.int) (fun D hD => ⟨upd_free (Same.refl _) hD, rfl⟩) (fun i acc H' hi p => slO (at_ p.1 h1)) (fun acc D H2 hD hp p => ?_) (fun _ => rfl) (fun i x acc H' D hx hD hp p => ?_)
    · obtain ⟨s2, rfl⟩ := p
      rw [List.length_map, List.take_length] at hp
      walk_at "go"
      refine n_new (le_size (by simp)) fun p3 H3 n3 s3 h3 => ?_
      have ss := s1.trans s2
      refine k ⟨p3, D, ms⟩ H3 (free_ ss n3) (ss.trans s3) ⟨0, 0, 0, h3, slO (at_ s3 hp), ne_new hp n3, by show ms.length ≤ 63; omega, by omega, by omega, by omega⟩
    · obtain ⟨s2, rfl⟩ := p
      have hi : i < ms.length := by
        have := (List.getElem?_eq_some_iff.mp hx).1
        simpa using this
      have ex : x = .int ms[i] := by
        rw [List.getElem?_map, List.getElem?_eq_getElem hi] at hx
        exact (Option.some.inj hx).symm
      subst ex
      walk_at "go"
      refine ⟨_, hp, lt_size (by simp; omega), _, upd_same, upd_free s2 hD, ?_⟩
      rw [List.take_add_one, List.getElem?_eq_getElem hi, List.map_append]; rfl
end
end Vw

set_option Elab.async false
set_option linter.all false
set_option maxRecDepth 100000
set_option maxHeartbeats 4000000
namespace Vw
open PySem PySem.Spec PyProof.Rows L2 RT
local macro_rules | `(tactic| walk_at "s") => `(tactic| with_reducible first
  | refine' s_seq ?_ | refine' s_next ?_ | refine' s_set ?_ | refine' s_ret ?_ | refine' s_retN ?_ | refine' s_drop ?_ | refine' s_if ?_ | refine' s_ipI ?_
  | refine' e_c ?_ | refine' e_op ?_ | refine' e_un ?_ | refine' e_neg ?_ | refine' e_test ?_ | refine' e_tB ?_ | refine' e_bl ?_ | refine' e_and ?_ | refine' e_or ?_ | refine' e_not ?_
  | refine' e_andV ?_ | refine' e_orV ?_ | refine' e_notV ?_ | refine' e_kV ?_ | refine' e_ife ?_ | refine' e_nil ?_ | refine' e_cons ?_ | refine' e_cb ?_ | refine' e_call ?_ | refine' e_chain ?_
  | refine' o_addI ?_ | refine' o_eqI ?_ | refine' o_neI ?_ | refine' o_I0 ?_ | refine' o_pow16 ?_ | refine' o_pow17 ?_ | refine' o_pow18 ?_ | refine' o_pow19 ?_ | refine' o_pow30 ?_ | refine' o_pow31 ?_ | refine' o_pow1 ?_ | refine' o_pow2 ?_ | refine' o_pow3 ?_ | refine' o_pow4 ?_ | refine' o_pow5 ?_ | refine' o_pow6 ?_ | refine' o_pow9 ?_ | refine' o_pow10 ?_ | refine' o_pow12 ?_ | refine' o_pow15 ?_ | refine' o_pow20 ?_ | refine' e_lst ?_ | refine' e_tup ?_ | refine' iteT ?_ | refine' i_nt ?_ | refine' i_nf ?_ | refine' iteF ?_ | refine' c_int ?_ | refine' c_abs ?_ | refine' c_min2 ?_ | refine' c_max2 ?_ | refine' e_tru ?_ | refine' t_bl ?_ | refine' t_non ?_ | refine' t_int ?_ | refine' isN_non ?_ | refine' isN_int ?_ | refine' isN_ref ?_ | refine' isN_str ?_ | refine' isN_bl ?_ | refine' noN_non ?_ | refine' noN_int ?_ | refine' noN_ref ?_ | refine' noN_str ?_ | refine' noN_bl ?_
  | refine' s_brk ?_ | refine' s_cont ?_ | refine' s_for ?_ | refine' e_lc ?_ | refine' e_dc ?_ | refine' e_yes ?_ | refine' i_rng1 ?_ | refine' i_lst0 ?_ | refine' i_tup0 ?_ | refine' e_bm ?_ | refine' e_sl ?_ | refine' e_np ?_ | refine' e_pt ?_ | refine' e_ptI ?_ | refine' e_din ?_ | refine' i_enum0 ?_ | refine' i_rev0 ?_ | refine' g_sub ?_ | refine' s_asg ?_ | refine' i_zip0 ?_ | refine' e_revT ?_ | refine' isB_bl ?_ | refine' notB_bl ?_ | refine' o_neB ?_)
local macro_rules | `(tactic| walk_at "v") => `(tactic| ((with_reducible refine' e_var ?hv ?_); (case hv => exact rfl)))
local macro_rules | `(tactic| walk_at "a") => `(tactic| ((with_reducible refine' s_aug ?hv ?_); (case hv => exact rfl)))
local macro_rules | `(tactic| walk_at "m") => `(tactic| first
  | ((with_reducible refine' o_mod ?hv ?_); (case hv => first | decide | omega))
  | ((with_reducible refine' o_mulR ?hv ?_); (case hv => omega))
  | ((with_reducible refine' o_mulL ?hv ?_); (case hv => omega))
  | ((with_reducible refine' o_div ?hv ?hw ?_); (case hv => omega); (case hw => omega))
  | ((with_reducible refine' o_pow _ ?hv ?hw ?hx ?_); (case hv => exact rfl); (case hw => decide); (case hx => decide)))
local macro_rules | `(tactic| walk_at "i") => `(tactic| (first
  | ((with_reducible refine' isi_int true ?hv ?_); (case hv => exact (by decide +kernel)))
  | ((with_reducible refine' isi_int false ?hv ?_); (case hv => exact (by decide +kernel)))
  | ((with_reducible refine' isi_non true ?hv ?_); (case hv => exact (by decide +kernel)))
  | ((with_reducible refine' isi_non false ?hv ?_); (case hv => exact (by decide +kernel)))
  | ((with_reducible refine' isi_str true ?hv ?_); (case hv => exact (by decide +kernel)))
  | ((with_reducible refine' isi_str false ?hv ?_); (case hv => exact (by decide +kernel)))
  | ((with_reducible refine' isi_bl true ?hv ?_); (case hv => exact (by decide +kernel)))
  | ((with_reducible refine' isi_bl false ?hv ?_); (case hv => exact (by decide +kernel)))
  | ((with_reducible refine' isi_t true ?hw ?hv ?_); (case hw => assumption); (case hv => exact (by decide +kernel)))
  | ((with_reducible refine' isi_t false ?hw ?hv ?_); (case hw => assumption); (case hv => exact (by decide +kernel)))
  | ((with_reducible refine' isi_l true ?hw ?hv ?_); (case hw => assumption); (case hv => exact (by decide +kernel)))
  | ((with_reducible refine' isi_l false ?hw ?hv ?_); (case hw => assumption); (case hv => exact (by decide +kernel)))
  | ((with_reducible refine' isi_tup true ?hw ?hv ?_); (case hw => assumption); (case hv => exact (by decide +kernel)))
  | ((with_reducible refine' isi_tup false ?hw ?hv ?_); (case hw => assumption); (case hv => exact (by decide +kernel)))
  | ((with_reducible refine' isi_lst true ?hw ?hv ?_); (case hw => assumption); (case hv => exact (by decide +kernel)))
  | ((with_reducible refine' isi_lst false ?hw ?hv ?_); (case hw => assumption); (case hv => exact (by decide +kernel)))))
local macro_rules | `(tactic| walk_at "om") => `(tactic| first | omega | (simp only [List.length_cons, List.length_nil, List.length_map, List.length_append, List.length_range]; omega))
local macro_rules | `(tactic| walk_at "d") => `(tactic| (first
  | ((with_reducible refine' i_dt ?hv ?_); (case hv => walk_at "om"))
  | ((with_reducible refine' i_df ?hv ?_); (case hv => walk_at "om"))
  | ((with_reducible refine' i_ndt ?hv ?_); (case hv => walk_at "om"))
  | ((with_reducible refine' i_ndf ?hv ?_); (case hv => walk_at "om"))))
local macro_rules | `(tactic| walk_at "x") => `(tactic| first
  | ((with_reducible refine' o_ixA ?hv ?hw ?_); (case hv => assumption); (case hw => exact rfl))
  | ((with_reducible refine' o_ixU ?hv ?hw ?_); (case hv => assumption); (case hw => exact rfl))
  | ((with_reducible refine' o_ixL ?hv ?hw ?_); (case hv => assumption); (case hw => exact rfl))
  | ((with_reducible refine' o_ixT ?hv ?hw ?_); (case hv => assumption); (case hw => exact rfl))
  | ((with_reducible refine' set_ ?hv ?hw ?_); (case hv => assumption); (case hw => exact rfl))
  | ((with_reducible refine' e_lenM ?hv ?_); (case hv => first | assumption | exact slO (by assumption)))
  | ((with_reducible refine' e_lenN ?hv ?_); (case hv => first | assumption | exact stO (by assumption)))
  | ((with_reducible refine' e_lenL ?hv ?_); (case hv => first | assumption | exact slO (by assumption)))
  | ((with_reducible refine' e_lenT ?hv ?_); (case hv => first | assumption | exact stO (by assumption))))
local macro_rules | `(tactic| walk_at "c") => `(tactic| first
  | ((with_reducible refine' c_listL ?hv ?_); (case hv => assumption))
  | ((with_reducible refine' c_listT ?hv ?_); (case hv => assumption))
  | ((with_reducible refine' c_tupL ?hv ?_); (case hv => first | assumption | exact slO (by assumption)))
  | ((with_reducible refine' c_tupT ?hv ?_); (case hv => assumption))
  | ((with_reducible refine' t_lst ?hv ?_); (case hv => first | assumption | exact slO (by assumption)))
  | ((with_reducible refine' t_tup ?hv ?_); (case hv => assumption))
  | ((with_reducible refine' r_sl ?hv ?_); (case hv => first | assumption | exact slO (by assumption)))
  | ((with_reducible refine' o_inL ?hv ?_); (case hv => first | assumption | exact slO (by assumption)))
  | ((with_reducible refine' o_inT ?hv ?_); (case hv => first | assumption | exact stO (by assumption)))
  | ((with_reducible refine' o_niL ?hv ?_); (case hv => first | assumption | exact slO (by assumption)))
  | ((with_reducible refine' o_niT ?hv ?_); (case hv => first | assumption | exact stO (by assumption)))
  | ((with_reducible refine' ty_lst ?hv ?_); (case hv => assumption)))
local macro_rules | `(tactic| walk_at "mo") => `(tactic| repeat' (first | exact m_yes | exact m_var | exact m_c | exact m_I0 | exact m_I | exact m_ix | exact m_add | exact m_in | exact m_int1 | exact m_abs | exact m_nil | refine' m_and ?_ ?_ | refine' m_test ?_ | refine' m_tB ?_ | refine' m_op ?_ ?_ ?_ | refine' m_cons ?_ ?_ | refine' m_cb ?_ ?_))
local macro_rules | `(tactic| walk_at "go") => `(tactic| repeat' (first | walk_at "s" | walk_at "v" | walk_at "a" | walk_at "x" | walk_at "m" | walk_at "c" | walk_at "i" | walk_at "d"))

section
variable {P : Program} {w : World} {K : PySem.W.Frag} {mg : Str → Option Value} {base : Heap}
theorem markB_int {z : Int} (h : -1000000000000000000 ≤ z ∧ z ≤ 1000000000000000000) : markB (markV (some z)) = true := by
  have e : markB (markV (some z)) = within (.int z) (-1000000000000000000) 1000000000000000000 := rfl
  rw [e]
  simp [within, h.1, h.2]
theorem Hs.pa {B : Bg} {H H' : Hp} {ps : List Addr} {vs : List (Int × Option Int)} (h : Hs K B H H') (b : BagAt K H B) (p : PairsAt K H ps vs) : PairsAt K H' ps vs := ⟨p.1, fun i q v a c => h.st b (p.2 i q v a c)⟩
def Vers0 (K : PySem.W.Frag) (H : Hp) (ps : List Addr) (xs : List (Int × Option Int)) (i : Nat) : Prop := PairsAt K H ps xs ∧ Valid xs ∧ xs.length ≤ i ∧ 0 ≤ top xs ∧ top xs ≤ (i : Nat) * 10000000000000000
def sp_versions (K : PySem.W.Frag) : Sp := fun vs H Q _ => ∃ B : Bg, vs = [.ref B.hd] ∧ BagAt K H B ∧ ∀ p (ps : List Addr) xs H', Hs K B H H' → H p = none → H' p = some (.lst (ps.map V.ref)) → Vers0 K H' ps xs 40 → Q (.ref p) H'
theorem ok_law_versions (T : Txt K mg) : FnOk P w K mg base CX0 3 T.law_versions.f T.law_versions.fd ["bag"] (sp_versions K) := by
  refine T.law_versions.F.ok sc_law_versions (fun vs H Q E h => ?_) (fun cdv A outer s H vs Q E hr h => ?_)
  · obtain ⟨B, rfl, _⟩ := h
    rfl
  · obtain ⟨B, rfl, b, k⟩ := h
    refine ⟨_, (pss_cons (ps_set (i := 1) sc_law_versions.nd rfl (Or.inl rfl) (pe_lst pa_nil))
    (pss_cons (ps_set (i := 2) sc_law_versions.nd rfl (Or.inl rfl) pe_int)
    (pss_cons (ps_for PassesOwn.never rfl (pi_range1 (by rfl) T.z_range (pa_cons (pe_call (ok_law_draw T) (hr.mono (by decide)) (by rfl) T.law_draw.g T.law_draw.F.kp T.law_draw.b .nil pass0 (pa_cons (pv 0) (pa_cons (pe_ix (ixLT (K := K)) (pe_lst (pa_cons pe_int (pa_cons pe_int pa_nil))) (pe_call (ok_law_draw T) (hr.mono (by decide)) (by rfl) T.law_draw.g T.law_draw.F.kp T.law_draw.b .nil pass0 (pa_cons (pv 0) (pa_cons pe_int pa_nil))) (fun _ _ => rfl)) pa_nil))) pa_nil)) (pg_name (i := 3) sc_law_versions.nd rfl (Or.inl rfl))
      (pss_cons (ps_set (i := 2) sc_law_versions.nd rfl (Or.inl rfl) (pe_op oAdd (pe_op oAdd (pv 2) pe_int) (pe_call (ok_law_draw T) (hr.mono (by decide)) (by rfl) T.law_draw.g T.law_draw.F.kp T.law_draw.b .nil pass0 (pa_cons (pv 0) (pa_cons (pe_ix (ixLT (K := K)) (pe_lst (pa_cons pe_int (pa_cons pe_int (pa_cons (pe_op op_pow pe_int pe_int) pa_nil)))) (pe_call (ok_law_draw T) (hr.mono (by decide)) (by rfl) T.law_draw.g T.law_draw.F.kp T.law_draw.b .nil pass0 (pa_cons (pv 0) (pa_cons pe_int pa_nil))) (fun _ _ => rfl)) pa_nil)))))
    (pss_cons (ps_set (i := 4) sc_law_versions.nd rfl (Or.inl rfl) pe_non)
    (Evl.pss_cut (ps_if (pt_cmpR op_gt (pe_call (ok_law_draw T) (hr.mono (by decide)) (by rfl) T.law_draw.g T.law_draw.F.kp T.law_draw.b .nil pass0 (pa_cons (pv 0) (pa_cons pe_int pa_nil))) pe_int (nomark _)) (pss_one (ps_set (i := 4) sc_law_versions.nd rfl (Or.inl rfl) (pe_op op_sub (pe_call (ok_law_draw T) (hr.mono (by decide)) (by rfl) T.law_draw.g T.law_draw.F.kp T.law_draw.b .nil pass0 (pa_cons (pv 0) (pa_cons pe_int pa_nil))) pe_int))) pss_nil)
    (pss_one (ps_set (i := 1) sc_law_versions.nd rfl (Or.inl rfl) (pe_op oAdd (pe_lst (pa_cons (pe_tup (pa_cons (pv 2) (pa_cons (pv 4) pa_nil))) pa_nil)) (pv 1))))))))
    (pss_one (ps_ret (pv 1)))))), ?_⟩
    walk_at "go"
    refine n_new (le_size (by simp)) fun p5 H5 n5 s5 h5 => ?_
    have b5 := bag_same b s5
    have hh5 := Hs.of b s5
    walk_at "go"
    refine n_new (le_size (by simp)) fun p2 H2 n2 s2 h2 => ?_
    walk_at "go"
    refine ⟨B, _, rfl, bag_same b5 s2, by omega, by omega, fun r3 H3 r30 r31 hs3 => ?_⟩
    have h3 := hs3.ls (new_ne b5 n2) h2
    have hh3 := hh5.trans ((Hs.of b5 s2).trans hs3)
    have h53 := ((Hs.of b5 s2).trans hs3).ls (new_ne b n5) h5
    obtain ⟨M, hM, m0, m1⟩ : ∃ M : Int, atI [V.int 5, V.int 13] r3 = some (.int M) ∧ 0 < M ∧ M ≤ 13 := by
      rcases (show r3 = 0 ∨ r3 = 1 by omega) with e | e <;> subst e <;> exact ⟨_, rfl, by decide, by decide⟩
    refine o_ixA h3 hM ?_
    walk_at "go"
    refine ⟨B, M, rfl, hs3.b, m0, by omega, fun r4 H4 r40 r41 hs4 => ?_⟩
    have hh4 := hh3.trans hs4
    have h54 := hs4.ls (new_ne b n5) h53
    walk_at "go"
    refine i_rng r4.toNat rfl (by omega) (by omega) ?_
    refine l_rng (fun i σ H' => Hs K B H H' ∧ ∃ (f : Addr) (ps : List Addr) (xs : List (Int × Option Int)) (y y2 : Option V), σ = [some (.ref B.hd), some (.ref f), some (.int (top xs)), y, y2] ∧ H f = none ∧ H' f = some (.lst (ps.map V.ref)) ∧ Vers0 K H' ps xs i) ⟨hh4, p5, [], [], none, none, rfl, n5, h54, ⟨rfl, fun i p v a c => by simp at a⟩, ⟨List.Pairwise.nil, fun v hv => (nomatch hv), fun v hv => (nomatch hv), by simp⟩, by simp, by decide, by decide⟩ (fun σ H' p => ?_) (fun i σ H' hi p => ?_)
    · obtain ⟨hh, f, ps, xs, y, y2, rfl, nf, hf, V1, V2, V3, V4, V5⟩ := p
      walk_at "go"
      refine k f ps xs H' hh nf hf ⟨V1, V2, by omega, V4, by omega⟩
    · obtain ⟨hh, f, ps, xs, y, y2, rfl, nf, hf, V1, V2, V3, V4, V5⟩ := p
      have fne : f ≠ B.hd := new_ne b nf
      walk_at "go"
      refine n_new (le_size (by simp)) fun p6 H6 n6 s6 h6 => ?_
      have b6 := bag_same hh.b s6
      walk_at "go"
      refine ⟨B, _, rfl, b6, by omega, by omega, fun r6 H7 r60 r61 hs6 => ?_⟩
      have h7 := hs6.ls (new_ne hh.b n6) h6
      obtain ⟨M2, hM2, n0, n1⟩ : ∃ M : Int, atI [V.int 1, V.int 3, V.int 10000000000000000] r6 = some (.int M) ∧ 0 < M ∧ M ≤ 10000000000000000 := by
        rcases (show r6 = 0 ∨ r6 = 1 ∨ r6 = 2 by omega) with e | e | e <;> subst e <;> exact ⟨_, rfl, by decide, by decide⟩
      refine o_ixA h7 hM2 ?_
      walk_at "go"
      refine ⟨B, M2, rfl, hs6.b, n0, by omega, fun r8 H8 r80 r81 hs8 => ?_⟩
      have hsA := (Hs.of hh.b s6).trans (hs6.trans hs8)
      obtain ⟨c, hc⟩ : ∃ c, top xs + 1 + r8 = c := ⟨_, rfl⟩
      have c1 : top xs < c := by omega
      have c2 : c ≤ top xs + 10000000000000000 := by omega
      walk_at "go"
      rw [hc]
      refine s_cut (fun σ2 H2 => Hs K B H8 H2 ∧ ∃ m : Option Int, σ2 = [some (.ref B.hd), some (.ref f), some (.int c), some (.int (i : Nat)), some (markV m)] ∧ markB (markV m) = true) ?_ ?_
      · walk_at "go"
        refine ⟨B, _, rfl, hs8.b, by omega, by omega, fun r9 H9 r90 r91 hs9 => ?_⟩
        walk_at "go"
        refine i_d (fun q1 => ?_) (fun q1 => ?_)
        · walk_at "go"
          refine ⟨B, _, rfl, hs9.b, by omega, by omega, fun r10 H10 r100 r101 hs10 => ?_⟩
          walk_at "go"
          exact ⟨hs9.trans hs10, some _, rfl, markB_int (by omega)⟩
        · walk_at "go"
          exact ⟨hs9, none, rfl, rfl⟩
      · rintro σ2 H7 ⟨hsC, m, rfl, hm⟩
        have hsD := hsA.trans hsC
        have hh7 := hh.trans hsD
        have hf7 := hsD.ls fne hf
        have V17 := hsD.pa hh.b V1
        walk_at "go"
        refine n_new (le_size (by simp)) fun p8 H8x n8 s8 h8 => ?_
        walk_at "go"
        refine n_new (le_size (by simp)) fun p9 H9 n9 s9 h9 => ?_
        have hf9 := at_ s9 (at_ s8 hf7)
        have hlen : ps.length < 1000 := by have := V1.1; omega
        walk_at "go"
        refine o_cat h9 hf9 (by simp; omega) (n_new0 fun q Hq nq sq hq => ?_)
        have hhq := hh7.trans (Hs.of hh7.b (s8.trans (s9.trans sq)))
        walk_at "go"
        have e1 : c = top ((c, m) :: xs) := rfl
        have vd : Valid ((c, m) :: xs) := by
          refine ⟨List.pairwise_cons.mpr ⟨fun v hv => ?_, V2.desc⟩, fun v hv => ?_, fun v hv => ?_, by simp; omega⟩
          · cases xs with
            | nil => cases hv
            | cons z r =>
              have : v.1 ≤ z.1 := by
                rcases List.mem_cons.mp hv with e | e
                · rw [e]; exact Int.le_refl _
                · exact Int.le_of_lt ((List.pairwise_cons.mp V2.desc).1 v e)
              show v.1 < c
              have c1 : z.1 < c := c1
              omega
          · rcases List.mem_cons.mp hv with e | e
            · subst e
              show 1 ≤ c ∧ c ≤ GC
              exact ⟨by omega, by show c ≤ 1000000000000000000; omega⟩
            · exact V2.comm v e
          · rcases List.mem_cons.mp hv with e | e
            · subst e; exact hm
            · exact V2.mark v e
        refine ⟨hhq, q, p8 :: ps, (c, m) :: xs, _, _, rfl, (hh7.trans (Hs.of hh7.b (s8.trans s9))).free nq, hq, ⟨?_, vd, by simp; omega, by show 0 ≤ c; omega, by show c ≤ _; omega⟩⟩
        refine ⟨by simp [V1.1], fun j p v e1 e2 => ?_⟩
        cases j with
        | zero =>
          have ep : p8 = p := Option.some.inj e1
          have ev : (c, m) = v := Option.some.inj e2
          subst ep ev
          exact stO (at_ sq (at_ s9 h8))
        | succ j => exact st_ (s8.trans (s9.trans sq)) (V17.2 j p v e1 e2)
end
end Vw

set_option Elab.async false
set_option linter.all false
set_option maxRecDepth 100000
set_option maxHeartbeats 4000000
namespace Vw
open PySem PySem.Spec PyProof.Rows L2 RT
local macro_rules | `(tactic| walk_at "s") => `(tactic| with_reducible first
  | refine' s_seq ?_ | refine' s_next ?_ | refine' s_set ?_ | refine' s_ret ?_ | refine' s_retN ?_ | refine' s_drop ?_ | refine' s_if ?_ | refine' s_ipI ?_
  | refine' e_c ?_ | refine' e_op ?_ | refine' e_un ?_ | refine' e_neg ?_ | refine' e_test ?_ | refine' e_tB ?_ | refine' e_bl ?_ | refine' e_and ?_ | refine' e_or ?_ | refine' e_not ?_
  | refine' e_andV ?_ | refine' e_orV ?_ | refine' e_notV ?_ | refine' e_kV ?_ | refine' e_ife ?_ | refine' e_nil ?_ | refine' e_cons ?_ | refine' e_cb ?_ | refine' e_call ?_ | refine' e_chain ?_
  | refine' o_addI ?_ | refine' o_eqI ?_ | refine' o_neI ?_ | refine' o_I0 ?_ | refine' o_pow16 ?_ | refine' o_pow17 ?_ | refine' o_pow18 ?_ | refine' o_pow19 ?_ | refine' o_pow30 ?_ | refine' o_pow31 ?_ | refine' o_pow1 ?_ | refine' o_pow2 ?_ | refine' o_pow3 ?_ | refine' o_pow4 ?_ | refine' o_pow5 ?_ | refine' o_pow6 ?_ | refine' o_pow9 ?_ | refine' o_pow10 ?_ | refine' o_pow12 ?_ | refine' o_pow15 ?_ | refine' o_pow20 ?_ | refine' e_lst ?_ | refine' e_tup ?_ | refine' iteT ?_ | refine' i_nt ?_ | refine' i_nf ?_ | refine' iteF ?_ | refine' c_int ?_ | refine' c_abs ?_ | refine' c_min2 ?_ | refine' c_max2 ?_ | refine' e_tru ?_ | refine' t_bl ?_ | refine' t_non ?_ | refine' t_int ?_ | refine' isN_non ?_ | refine' isN_int ?_ | refine' isN_ref ?_ | refine' isN_str ?_ | refine' isN_bl ?_ | refine' noN_non ?_ | refine' noN_int ?_ | refine' noN_ref ?_ | refine' noN_str ?_ | refine' noN_bl ?_
  | refine' s_brk ?_ | refine' s_cont ?_ | refine' s_for ?_ | refine' e_lc ?_ | refine' e_dc ?_ | refine' e_yes ?_ | refine' i_rng1 ?_ | refine' i_lst0 ?_ | refine' i_tup0 ?_ | refine' e_bm ?_ | refine' e_sl ?_ | refine' e_np ?_ | refine' e_pt ?_ | refine' e_ptI ?_ | refine' e_din ?_ | refine' i_enum0 ?_ | refine' i_rev0 ?_ | refine' g_sub ?_ | refine' s_asg ?_ | refine' i_zip0 ?_ | refine' e_revT ?_ | refine' isB_bl ?_ | refine' notB_bl ?_ | refine' o_neB ?_)
local macro_rules | `(tactic| walk_at "v") => `(tactic| ((with_reducible refine' e_var ?hv ?_); (case hv => exact rfl)))
local macro_rules | `(tactic| walk_at "a") => `(tactic| ((with_reducible refine' s_aug ?hv ?_); (case hv => exact rfl)))
local macro_rules | `(tactic| walk_at "m") => `(tactic| first
  | ((with_reducible refine' o_mod ?hv ?_); (case hv => first | decide | omega))
  | ((with_reducible refine' o_mulR ?hv ?_); (case hv => omega))
  | ((with_reducible refine' o_mulL ?hv ?_); (case hv => omega))
  | ((with_reducible refine' o_div ?hv ?hw ?_); (case hv => omega); (case hw => omega))
  | ((with_reducible refine' o_pow _ ?hv ?hw ?hx ?_); (case hv => exact rfl); (case hw => decide); (case hx => decide)))
local macro_rules | `(tactic| walk_at "i") => `(tactic| (first
  | ((with_reducible refine' isi_int true ?hv ?_); (case hv => exact (by decide +kernel)))
  | ((with_reducible refine' isi_int false ?hv ?_); (case hv => exact (by decide +kernel)))
  | ((with_reducible refine' isi_non true ?hv ?_); (case hv => exact (by decide +kernel)))
  | ((with_reducible refine' isi_non false ?hv ?_); (case hv => exact (by decide +kernel)))
  | ((with_reducible refine' isi_str true ?hv ?_); (case hv => exact (by decide +kernel)))
  | ((with_reducible refine' isi_str false ?hv ?_); (case hv => exact (by decide +kernel)))
  | ((with_reducible refine' isi_bl true ?hv ?_); (case hv => exact (by decide +kernel)))
  | ((with_reducible refine' isi_bl false ?hv ?_); (case hv => exact (by decide +kernel)))
  | ((with_reducible refine' isi_t true ?hw ?hv ?_); (case hw => assumption); (case hv => exact (by decide +kernel)))
  | ((with_reducible refine' isi_t false ?hw ?hv ?_); (case hw => assumption); (case hv => exact (by decide +kernel)))
  | ((with_reducible refine' isi_l true ?hw ?hv ?_); (case hw => assumption); (case hv => exact (by decide +kernel)))
  | ((with_reducible refine' isi_l false ?hw ?hv ?_); (case hw => assumption); (case hv => exact (by decide +kernel)))
  | ((with_reducible refine' isi_tup true ?hw ?hv ?_); (case hw => assumption); (case hv => exact (by decide +kernel)))
  | ((with_reducible refine' isi_tup false ?hw ?hv ?_); (case hw => assumption); (case hv => exact (by decide +kernel)))
  | ((with_reducible refine' isi_lst true ?hw ?hv ?_); (case hw => assumption); (case hv => exact (by decide +kernel)))
  | ((with_reducible refine' isi_lst false ?hw ?hv ?_); (case hw => assumption); (case hv => exact (by decide +kernel)))))
local macro_rules | `(tactic| walk_at "om") => `(tactic| first | omega | (simp only [List.length_cons, List.length_nil, List.length_map, List.length_append, List.length_range]; omega))
local macro_rules | `(tactic| walk_at "d") => `(tactic| (first
  | ((with_reducible refine' i_dt ?hv ?_); (case hv => walk_at "om"))
  | ((with_reducible refine' i_df ?hv ?_); (case hv => walk_at "om"))
  | ((with_reducible refine' i_ndt ?hv ?_); (case hv => walk_at "om"))
  | ((with_reducible refine' i_ndf ?hv ?_); (case hv => walk_at "om"))))
local macro_rules | `(tactic| walk_at "x") => `(tactic| first
  | ((with_reducible refine' o_ixA ?hv ?hw ?_); (case hv => assumption); (case hw => exact rfl))
  | ((with_reducible refine' o_ixU ?hv ?hw ?_); (case hv => assumption); (case hw => exact rfl))
  | ((with_reducible refine' o_ixL ?hv ?hw ?_); (case hv => assumption); (case hw => exact rfl))
  | ((with_reducible refine' o_ixT ?hv ?hw ?_); (case hv => assumption); (case hw => exact rfl))
  | ((with_reducible refine' set_ ?hv ?hw ?_); (case hv => assumption); (case hw => exact rfl))
  | ((with_reducible refine' e_lenM ?hv ?_); (case hv => first | assumption | exact slO (by assumption)))
  | ((with_reducible refine' e_lenN ?hv ?_); (case hv => first | assumption | exact stO (by assumption)))
  | ((with_reducible refine' e_lenL ?hv ?_); (case hv => first | assumption | exact slO (by assumption)))
  | ((with_reducible refine' e_lenT ?hv ?_); (case hv => first | assumption | exact stO (by assumption))))
local macro_rules | `(tactic| walk_at "c") => `(tactic| first
  | ((with_reducible refine' c_listL ?hv ?_); (case hv => assumption))
  | ((with_reducible refine' c_listT ?hv ?_); (case hv => assumption))
  | ((with_reducible refine' c_tupL ?hv ?_); (case hv => first | assumption | exact slO (by assumption)))
  | ((with_reducible refine' c_tupT ?hv ?_); (case hv => assumption))
  | ((with_reducible refine' t_lst ?hv ?_); (case hv => first | assumption | exact slO (by assumption)))
  | ((with_reducible refine' t_tup ?hv ?_); (case hv => assumption))
  | ((with_reducible refine' r_sl ?hv ?_); (case hv => first | assumption | exact slO (by assumption)))
  | ((with_reducible refine' o_inL ?hv ?_); (case hv => first | assumption | exact slO (by assumption)))
  | ((with_reducible refine' o_inT ?hv ?_); (case hv => first | assumption | exact stO (by assumption)))
  | ((with_reducible refine' o_niL ?hv ?_); (case hv => first | assumption | exact slO (by assumption)))
  | ((with_reducible refine' o_niT ?hv ?_); (case hv => first | assumption | exact stO (by assumption)))
  | ((with_reducible refine' ty_lst ?hv ?_); (case hv => assumption)))
local macro_rules | `(tactic| walk_at "mo") => `(tactic| repeat' (first | exact m_yes | exact m_var | exact m_c | exact m_I0 | exact m_I | exact m_ix | exact m_add | exact m_in | exact m_int1 | exact m_abs | exact m_nil | refine' m_and ?_ ?_ | refine' m_test ?_ | refine' m_tB ?_ | refine' m_op ?_ ?_ ?_ | refine' m_cons ?_ ?_ | refine' m_cb ?_ ?_))
local macro_rules | `(tactic| walk_at "go") => `(tactic| repeat' (first | walk_at "s" | walk_at "v" | walk_at "a" | walk_at "x" | walk_at "m" | walk_at "c" | walk_at "i" | walk_at "d"))

section
variable {P : Program} {w : World} {K : PySem.W.Frag} {mg : Str → Option Value} {base : Heap}
theorem lt_of_sorted : ∀ {ns : List Int}, ns.Pairwise (· ≤ ·) → ns.Nodup → ns.Pairwise (· < ·)
  | [], _, _ => .nil
  | a :: r, h1, h2 => by
    obtain ⟨a1, a2⟩ := List.pairwise_cons.mp h1
    obtain ⟨b1, b2⟩ := List.nodup_cons.mp h2
    exact List.pairwise_cons.mpr ⟨fun z hz => by
      have h3 := a1 z hz
      have h4 : a ≠ z := fun e => b1 (e ▸ hz)
      omega, lt_of_sorted a2 b2⟩
def sp_open (K : PySem.W.Frag) : Sp := fun vs H Q _ => ∃ (B : Bg) (a : Addr) (ps : List Addr) (xs : List (Int × Option Int)) (l : Int), vs = [.ref B.hd, .ref a, .int l] ∧ BagAt K H B ∧ SqL K H a (ps.map V.ref) ∧ a ≠ B.hd ∧ PairsAt K H ps xs ∧ Valid xs ∧ 0 ≤ l ∧ l ≤ 2000000000000000000 ∧
  ∀ p (ns : List Int) H', Hs K B H H' → H p = none → H' p = some (.tup (ns.map V.int)) → ns.Pairwise (· < ·) → (∀ z ∈ ns, 0 ≤ z ∧ z ≤ l) → ns.length ≤ 8 → Q (.ref p) H'
theorem ok_law_open (T : Txt K mg) : FnOk P w K mg base CX0 3 T.law_open.f T.law_open.fd ["bag", "versions", "last"] (sp_open K) := by
  refine T.law_open.F.ok sc_law_open (fun vs H Q E h => ?_) (fun cdv A outer s H vs Q E hr h => ?_)
  · obtain ⟨B, a, ps, xs, l, rfl, _⟩ := h
    rfl
  · obtain ⟨B, a, ps, xs, l, rfl, b, hS, ha, hP, hV, l0, l1, k⟩ := h
    refine ⟨_, (pss_cons (ps_set (i := 3) sc_law_open.nd rfl (Or.inl rfl) (pe_lst pa_nil))
    (pss_cons (ps_for PassesOwn.never rfl (pi_range1 (by rfl) T.z_range (pa_cons (pe_call (ok_law_draw T) (hr.mono (by decide)) (by rfl) T.law_draw.g T.law_draw.F.kp T.law_draw.b .nil pass0 (pa_cons (pv 0) (pa_cons pe_int pa_nil))) pa_nil)) (pg_name (i := 4) sc_law_open.nd rfl (Or.inl rfl))
      (pss_cons (ps_set (i := 5) sc_law_open.nd rfl (Or.inl rfl) (pe_call (ok_law_draw T) (hr.mono (by decide)) (by rfl) T.law_draw.g T.law_draw.F.kp T.law_draw.b .nil pass0 (pa_cons (pv 0) (pa_cons (pe_op oAdd (pv 2) pe_int) pa_nil))))
    (Evl.pss_cut (ps_if (PW.pt (pw_and (pt_cmpR op_gt (pe_callB (cLen (K := K)) (by rfl) T.z_len PySem.boot_len (pa_cons (pv 1) pa_nil)) pe_int (nomark _)) (pw_and1 (pt_cmpR op_gt (pe_call (ok_law_draw T) (hr.mono (by decide)) (by rfl) T.law_draw.g T.law_draw.F.kp T.law_draw.b .nil pass0 (pa_cons (pv 0) (pa_cons pe_int pa_nil))) pe_int (nomark _))))) (pss_one (ps_set (i := 5) sc_law_open.nd rfl (Or.inl rfl) (pe_callB (cMin2 rfl) (by rfl) T.z_min (by decide +kernel) (pa_cons (pv 2) (pa_cons (pe_op op_sub (pe_op oAdd (pe_ix (ixLT (K := K)) (pe_ix (ixLT (K := K)) (pv 1) (pe_call (ok_law_draw T) (hr.mono (by decide)) (by rfl) T.law_draw.g T.law_draw.F.kp T.law_draw.b .nil pass0 (pa_cons (pv 0) (pa_cons (pe_callB (cLen (K := K)) (by rfl) T.z_len PySem.boot_len (pa_cons (pv 1) pa_nil)) pa_nil))) (fun _ _ => rfl)) pe_int (fun _ _ => rfl)) (pe_call (ok_law_draw T) (hr.mono (by decide)) (by rfl) T.law_draw.g T.law_draw.F.kp T.law_draw.b .nil pass0 (pa_cons (pv 0) (pa_cons pe_int pa_nil)))) pe_int) pa_nil))))) pss_nil)
    (pss_one (ps_if (pt_cmpR (oNotIn (K := K)) (pv 5) (pv 3) (by rfl)) (pss_one (ps_expr (peApp (K := K) (pe_bm PySem.F.plainAttrs_list PySem.F.slot_list_append PySem.F.type_list_append mt_append (pv 3) (pa_cons (pv 5) pa_nil))))) pss_nil)))))
    (pss_one (ps_ret (pe_callTy (cTupOf (K := K)) (by rfl) T.z_tuple (by decide +kernel) (pa_cons (pe_callB (cSortI (K := K)) (by rfl) T.z_sorted (by decide +kernel) (pa_cons (pv 3) pa_nil)) pa_nil)))))), ?_⟩
    walk_at "go"
    refine n_new (le_size (by simp)) fun f H1 n1 s1 h1 => ?_
    have hs1 := Hs.of b s1
    have fne : f ≠ B.hd := new_ne b n1
    walk_at "go"
    refine ⟨B, _, rfl, hs1.b, by omega, by omega, fun r H2 r0 r1 hs2 => ?_⟩
    walk_at "go"
    refine i_rng r.toNat rfl (by omega) (by omega) ?_
    refine l_rng (fun i σ H' => Hs K B H H' ∧ ∃ (ns : List Int) (y4 y5 : Option V), σ = [some (.ref B.hd), some (.ref a), some (.int l), some (.ref f), y4, y5] ∧ H' f = some (.lst (ns.map V.int)) ∧ ns.Nodup ∧ (∀ z ∈ ns, 0 ≤ z ∧ z ≤ l) ∧ ns.length ≤ i) ⟨hs1.trans hs2, [], none, none, rfl, hs2.ls fne h1, List.nodup_nil, by simp, by simp⟩ (fun σ H' p => ?_) (fun i σ H' hi p => ?_)
    · obtain ⟨hh, ns, y4, y5, rfl, hf, a1, a2, a3⟩ := p
      walk_at "go"
      refine c_sortI (slO hf) fun ns' p H3 b1 b2 n3 s3 h3 => ?_
      walk_at "go"
      refine n_new0 fun q H4 n4 s4 h4 => ?_
      refine k q ns' H4 (hh.trans (Hs.of hh.b (s3.trans s4))) ((hh.trans (Hs.of hh.b s3)).free n4) h4 (lt_of_sorted b2 (b1.nodup_iff.mpr a1)) (fun z hz => a2 z (b1.mem_iff.mp hz)) ?_
      rw [b1.length_eq]; omega
    · obtain ⟨hh, ns, y4, y5, rfl, hf, a1, a2, a3⟩ := p
      walk_at "go"
      refine ⟨B, _, rfl, hh.b, by omega, by omega, fun r5 H5 r50 r51 hs5 => ?_⟩
      have hh5 := hh.trans hs5
      walk_at "go"
      refine s_cut (fun σ2 H2 => Hs K B H' H2 ∧ ∃ s : Int, σ2 = [some (.ref B.hd), some (.ref a), some (.int l), some (.ref f), some (.int (i : Nat)), some (.int s)] ∧ 0 ≤ s ∧ s ≤ l) ?_ ?_
      · have hS5 := hh5.sl ha hS
        have ekl := hP.1
        have few := hV.few
        walk_at "go"
        refine i_d (fun q1 => ?_) (fun q1 => ?_)
        · walk_at "go"
          refine ⟨B, _, rfl, hs5.b, by omega, by omega, fun r6 H6 r60 r61 hs6 => ?_⟩
          walk_at "go"
          refine i_d (fun q2 => ?_) (fun q2 => ?_)
          · have hS6 := hs6.sl ha hS5
            walk_at "go"
            refine ⟨B, _, rfl, hs6.b, by omega, by omega, fun r7 H7 r70 r71 hs7 => ?_⟩
            have hS7 := hs7.sl ha hS6
            have hP7 := hs7.pa hs6.b (hs6.pa hs5.b (hh5.pa b hP))
            have hj : r7.toNat < xs.length := by omega
            refine o_ixL hS7 (atI_ref r7.toNat (by omega) (by omega)) ?_
            have hv := hP7.at hj
            have hc := hV.comm _ (List.getElem_mem hj)
            walk_at "go"
            refine ⟨B, _, rfl, hs7.b, by omega, by omega, fun r8 H8 r80 r81 hs8 => ?_⟩
            walk_at "go"
            exact ⟨hs5.trans (hs6.trans (hs7.trans hs8)), _, rfl, by split <;> omega, by split <;> omega⟩
          · walk_at "go"
            exact ⟨hs5.trans hs6, _, rfl, by omega, by omega⟩
        · walk_at "go"
          exact ⟨hs5, _, rfl, by omega, by omega⟩
      · rintro σ2 H3 ⟨hs3, s, rfl, q0, q1⟩
        have hf3 := hs3.ls fne hf
        walk_at "go"
        refine i_d (fun e => ?_) (fun e => ?_)
        · walk_at "go"
          refine r_app hf3 (by simp; omega) fun H4 o4 h4 => ?_
          refine ⟨(hh.trans hs3).mut b n1 o4, ns ++ [s], _, _, rfl, by rw [h4, List.map_append]; rfl, ?_, fun z hz => ?_, by simp; omega⟩
          · exact List.nodup_append.mpr ⟨a1, by simp, by intro x hx y hy; simp at hy; subst hy; exact fun z => e (z ▸ hx)⟩
          · rcases List.mem_append.mp hz with hz | hz
            · exact a2 z hz
            · simp at hz; subst hz; exact ⟨q0, q1⟩
        · walk_at "go"
          exact ⟨hh.trans hs3, ns, _, _, rfl, hf3, a1, a2, by omega⟩
def sp_lawneeded (K : PySem.W.Frag) : Sp := fun vs H Q _ => ∃ (a : Addr) (ps : List Addr) (xs : List (Int × Option Int)) (b : Addr) (ns : List Int), vs = [.ref a, .ref b] ∧ SqL K H a (ps.map V.ref) ∧ PairsAt K H ps xs ∧ Valid xs ∧ SqT K H b (ns.map V.int) ∧
  ∀ p H', H p = none → Same H H' → H' p = some (.lst ((keepC (dueS xs ns) xs).map V.int)) → Q (.ref p) H'
theorem ok_law_needed (T : Txt K mg) : FnOk P w K mg base CX0 1 T.law_needed.f T.law_needed.fd ["versions", "open_lot"] (sp_lawneeded K) := by
  refine T.law_needed.F.ok sc_law_needed (fun vs H Q E h => ?_) (fun cdv A outer s H vs Q E hr h => ?_)
  · obtain ⟨a, ps, xs, b, ns, rfl, _⟩ := h
    rfl
  · obtain ⟨a, ps, xs, b, ns, rfl, hS, hP, hV, hB, k⟩ := h
    refine ⟨_, (pss_cons (ps_set (i := 2) sc_law_needed.nd rfl (Or.inl rfl) (pe_lst pa_nil))
    (pss_cons (ps_for PassesOwn.never rfl (pi_range1 (by rfl) T.z_range (pa_cons (pe_callB (cLen (K := K)) (by rfl) T.z_len PySem.boot_len (pa_cons (pv 0) pa_nil)) pa_nil)) (pg_name (i := 3) sc_law_needed.nd rfl (Or.inl rfl))
      (pss_cons (ps_set (i := 4) sc_law_needed.nd rfl (Or.inl rfl) (pe_op op_sub (pe_op op_sub (pe_callB (cLen (K := K)) (by rfl) T.z_len PySem.boot_len (pa_cons (pv 0) pa_nil)) pe_int) (pv 3)))
    (pss_cons (ps_set (i := 5) sc_law_needed.nd rfl (Or.inl rfl) (pe_cmpR (oEq (K := K) hr.units) (pv 4) pe_int (nomark _)))
    (pss_cons (ps_for PassesOwn.never rfl (piT (K := K) (pv 1)) (pg_name (i := 6) sc_law_needed.nd rfl (Or.inl rfl))
      (pss_one (ps_if (PW.pt (pw_and (pt_cmpR op_le (pe_ix (ixLT (K := K)) (pe_ix (ixLT (K := K)) (pv 0) (pv 4) (fun _ _ => rfl)) pe_int (fun _ _ => rfl)) (pv 6) (nomark _)) (pw_and1 (PW.pt (pw_or (pt_cmpR (oEq (K := K) hr.units) (pv 4) pe_int (nomark _)) (pw_or1 (pt_cmpR oLt (pv 6) (pe_ix (ixLT (K := K)) (pe_ix (ixLT (K := K)) (pv 0) (pe_op op_sub (pv 4) pe_int) (fun _ _ => rfl)) pe_int (fun _ _ => rfl)) (nomark _)))))))) (pss_one (ps_set (i := 5) sc_law_needed.nd rfl (Or.inl rfl) pe_bl)) pss_nil)))
    (pss_one (ps_if (PW.pt (pw_and (ptTruth (K := K) (pv 5) (by intro _; rfl)) (pw_and1 (PW.pt (pw_or (pt_cmpR oNotN (pe_ix (ixLT (K := K)) (pe_ix (ixLT (K := K)) (pv 0) (pv 4) (fun _ _ => rfl)) pe_int (fun _ _ => rfl)) pe_non (nomark _)) (pw_or1 (pt_cmpR op_gt (pe_callB (cLen (K := K)) (by rfl) T.z_len PySem.boot_len (pa_cons (pv 2) pa_nil)) pe_int (nomark _)))))))) (pss_one (ps_expr (peApp (K := K) (pe_bm PySem.F.plainAttrs_list PySem.F.slot_list_append PySem.F.type_list_append mt_append (pv 2) (pa_cons (pe_ix (ixLT (K := K)) (pe_ix (ixLT (K := K)) (pv 0) (pv 4) (fun _ _ => rfl)) pe_int (fun _ _ => rfl)) pa_nil))))) pss_nil))))))
    (pss_one (ps_ret (pv 2))))), ?_⟩
    walk_at "go"
    refine n_new (le_size (by simp)) fun f H1 n1 s1 h1 => ?_
    have hS1 := sl_ s1 hS
    walk_at "go"
    have few := hV.few
    refine i_rng ps.length (by omega) (by omega) (by have := hP.1; omega) ?_
    refine l_rng (fun i σ H' => (∃ y3 y4 y5 y6, σ = [some (.ref a), some (.ref b), some (.ref f), y3, y4, y5, y6]) ∧ Same H H' ∧ H' f = some (.lst (((xs.reverse.take i).foldl (keepF (dueS xs ns)) []).map V.int))) ⟨⟨none, none, none, none, rfl⟩, s1, h1⟩ (fun σ H' p => ?_) (fun i σ H' hi p => ?_)
    · obtain ⟨⟨y3, y4, y5, y6, rfl⟩, s5, h5⟩ := p
      have e5 : xs.reverse.take ps.length = xs.reverse := by
        rw [hP.1]
        exact List.take_of_length_le (by simp)
      rw [e5] at h5
      walk_at "go"
      exact k f H' n1 s5 h5
    · obtain ⟨⟨y3, y4, y5, y6, rfl⟩, s5, h5⟩ := p
      have hlen : ps.length = xs.length := hP.1
      have hj : xs.length - 1 - i < xs.length := by omega
      have er : xs.reverse[i]? = some xs[xs.length - 1 - i] := by
        rw [List.getElem?_reverse (by omega), List.getElem?_eq_getElem hj]
      have et : (xs.reverse.take (i + 1)).foldl (keepF (dueS xs ns)) [] = keepF (dueS xs ns) ((xs.reverse.take i).foldl (keepF (dueS xs ns)) []) xs[xs.length - 1 - i] := by
        rw [List.take_add_one, er, List.foldl_append]; rfl
      have hl2 := foldl_keep_len (dueS xs ns) (xs.reverse.take i) []
      have hacc : ((xs.reverse.take i).foldl (keepF (dueS xs ns)) []).length < 5000 := by simp at hl2; omega
      generalize (xs.reverse.take i).foldl (keepF (dueS xs ns)) [] = acc1 at *
      have eD := dueS_at hV hj ns
      have hS5 := sl_ s5 hS
      have hP5 := pa_ s5 hP
      have hB5 := st_ s5 hB
      have hv := hP5.at hj
      have ej : (((ps.length : Nat) : Int) - 1 - (i : Nat)) = ((xs.length - 1 - i : Nat) : Int) := by omega
      generalize hjj : xs.length - 1 - i = j at *
      walk_at "go"
      rw [ej]
      have ej0 : decide (((j : Nat) : Int) = 0) = decide (j = 0) := by
        by_cases q : j = 0
        · rw [decide_eq_true q, decide_eq_true (by omega)]
        · rw [decide_eq_false q, decide_eq_false (by omega)]
      rw [ej0]
      refine i_tup hB5 ?_
      refine l_tup (xs := ns.map V.int) (fun m σ H2 => (∃ y7, σ = [some (.ref a), some (.ref b), some (.ref f), some (.int (i : Nat)), some (.int (j : Nat)), some (.bl (decide (j = 0) || (ns.take m).any (isAt xs j))), y7]) ∧ H2 = H') ⟨⟨y6, by simp⟩, rfl⟩ (fun m σ H2 hm p => by rw [p.2]; exact hB5) (fun σ H2 p => ?_) (fun m x σ H2 hx p => ?_)
      · obtain ⟨⟨y7, rfl⟩, e2⟩ := p
        subst e2
        rw [List.length_map, List.take_length, ← eD]
        have app : keepF (dueS xs ns) acc1 xs[j] = acc1 ++ [xs[j].1] → ∀ H6, Oth f H2 H6 → H6 f = some (.lst (acc1.map V.int ++ [.int xs[j].1])) → Same H H6 ∧ H6 f = some (.lst (((xs.reverse.take (i + 1)).foldl (keepF (dueS xs ns)) []).map V.int)) := fun ek H6 o6 h6 => ⟨same_oth n1 s5 o6, by rw [h6, et, ek, List.map_append]; rfl⟩
        have skip : keepF (dueS xs ns) acc1 xs[j] = acc1 → H2 f = some (.lst (((xs.reverse.take (i + 1)).foldl (keepF (dueS xs ns)) []).map V.int)) := fun ek => by rw [h5, et, ek]
        cases e1 : dueS xs ns xs[j].1 with
        | false =>
          walk_at "go"
          exact ⟨⟨_, _, _, _, rfl⟩, s5, skip (by unfold keepF; rw [e1]; rfl)⟩
        | true =>
          walk_at "go"
          refine o_ixL hS5 (atI_ref j rfl (by omega)) ?_
          cases e2 : xs[j].2 with
          | some z =>
            rw [e2] at hv
            walk_at "go"
            refine o_ixL hS5 (atI_ref j rfl (by omega)) ?_
            walk_at "go"
            refine r_app h5 (by simp; omega) fun H6 o6 h6 => ⟨⟨_, _, _, _, rfl⟩, app (by unfold keepF; rw [e1, e2]; rfl) H6 o6 h6⟩
          | none =>
            rw [e2] at hv
            walk_at "go"
            cases acc1 with
            | nil =>
              walk_at "go"
              exact ⟨⟨_, _, _, _, rfl⟩, s5, skip (by unfold keepF; rw [e1, e2]; rfl)⟩
            | cons z r =>
              walk_at "go"
              refine o_ixL hS5 (atI_ref j rfl (by omega)) ?_
              walk_at "go"
              refine r_app h5 (by simp at *; omega) fun H6 o6 h6 => ⟨⟨_, _, _, _, rfl⟩, app (by unfold keepF; rw [e1, e2]; rfl) H6 o6 h6⟩
      · obtain ⟨⟨y7, rfl⟩, e2⟩ := p
        subst e2
        have hm : m < ns.length := by
          have := (List.getElem?_eq_some_iff.mp hx).1
          simpa using this
        have ex : x = .int ns[m] := by
          rw [List.getElem?_map, List.getElem?_eq_getElem hm] at hx
          exact (Option.some.inj hx).symm
        subst ex
        have ea : (ns.take (m + 1)).any (isAt xs j) = ((ns.take m).any (isAt xs j) || isAt xs j ns[m]) := by
          rw [List.take_add_one, List.getElem?_eq_getElem hm, List.any_append]; simp
        have yes : isAt xs j ns[m] = true → (decide (j = 0) || (ns.take (m + 1)).any (isAt xs j)) = true := fun q => by rw [ea, q]; simp
        have no : isAt xs j ns[m] = false → (decide (j = 0) || (ns.take (m + 1)).any (isAt xs j)) = (decide (j = 0) || (ns.take m).any (isAt xs j)) := fun q => by rw [ea, q]; simp
        have ei : isAt xs j ns[m] = (decide (xs[j].1 ≤ ns[m]) && (decide (j = 0) || decide (ns[m] < (xs.getD (j - 1) (0, none)).1))) := by unfold isAt; rw [getD_at hj]
        walk_at "go"
        refine o_ixL hS5 (atI_ref j rfl (by omega)) ?_
        walk_at "go"
        refine i_d (fun q1 => ?_) (fun q1 => ?_)
        · walk_at "go"
          refine i_d (fun q2 => ?_) (fun q2 => ?_)
          · walk_at "go"
            refine ⟨⟨some (.int ns[m]), ?_⟩, rfl⟩
            rw [yes (by rw [ei, decide_eq_true q1, decide_eq_true (show j = 0 by omega)]; rfl)]; rfl
          · have hj1 : j - 1 < xs.length := by omega
            have hv1 := hP5.at hj1
            walk_at "go"
            refine o_ixL hS5 (atI_ref (j - 1) (by omega) (by omega)) ?_
            walk_at "go"
            rw [getD_at hj1] at ei
            refine i_d (fun q3 => ?_) (fun q3 => ?_)
            · walk_at "go"
              refine ⟨⟨some (.int ns[m]), ?_⟩, rfl⟩
              rw [yes (by rw [ei, decide_eq_true q1, decide_eq_true q3]; simp)]; rfl
            · walk_at "go"
              refine ⟨⟨some (.int ns[m]), ?_⟩, rfl⟩
              rw [no (by rw [ei, decide_eq_true q1, decide_eq_false q3, decide_eq_false (show ¬ j = 0 by omega)]; rfl)]; rfl
        · walk_at "go"
          refine ⟨⟨some (.int ns[m]), ?_⟩, rfl⟩
          rw [no (by rw [ei, decide_eq_false q1]; rfl)]; rfl
end
end Vw

set_option Elab.async false
set_option linter.all false
set_option maxRecDepth 100000
set_option maxHeartbeats 4000000
namespace Vw
open PySem PySem.Spec PyProof.Rows L2 RT
local macro_rules | `(tactic| walk_at "s") => `(tactic| with_reducible first
  | refine' s_seq ?_ | refine' s_next ?_ | refine' s_set ?_ | refine' s_ret ?_ | refine' s_retN ?_ | refine' s_drop ?_ | refine' s_if ?_ | refine' s_ipI ?_
  | refine' e_c ?_ | refine' e_op ?_ | refine' e_un ?_ | refine' e_neg ?_ | refine' e_test ?_ | refine' e_tB ?_ | refine' e_bl ?_ | refine' e_and ?_ | refine' e_or ?_ | refine' e_not ?_
  | refine' e_andV ?_ | refine' e_orV ?_ | refine' e_notV ?_ | refine' e_kV ?_ | refine' e_ife ?_ | refine' e_nil ?_ | refine' e_cons ?_ | refine' e_cb ?_ | refine' e_call ?_ | refine' e_chain ?_
  | refine' o_addI ?_ | refine' o_eqI ?_ | refine' o_neI ?_ | refine' o_I0 ?_ | refine' o_pow16 ?_ | refine' o_pow17 ?_ | refine' o_pow18 ?_ | refine' o_pow19 ?_ | refine' o_pow30 ?_ | refine' o_pow31 ?_ | refine' o_pow1 ?_ | refine' o_pow2 ?_ | refine' o_pow3 ?_ | refine' o_pow4 ?_ | refine' o_pow5 ?_ | refine' o_pow6 ?_ | refine' o_pow9 ?_ | refine' o_pow10 ?_ | refine' o_pow12 ?_ | refine' o_pow15 ?_ | refine' o_pow20 ?_ | refine' e_lst ?_ | refine' e_tup ?_ | refine' iteT ?_ | refine' i_nt ?_ | refine' i_nf ?_ | refine' iteF ?_ | refine' c_int ?_ | refine' c_abs ?_ | refine' c_min2 ?_ | refine' c_max2 ?_ | refine' e_tru ?_ | refine' t_bl ?_ | refine' t_non ?_ | refine' t_int ?_ | refine' isN_non ?_ | refine' isN_int ?_ | refine' isN_ref ?_ | refine' isN_str ?_ | refine' isN_bl ?_ | refine' noN_non ?_ | refine' noN_int ?_ | refine' noN_ref ?_ | refine' noN_str ?_ | refine' noN_bl ?_
  | refine' s_brk ?_ | refine' s_cont ?_ | refine' s_for ?_ | refine' e_lc ?_ | refine' e_dc ?_ | refine' e_yes ?_ | refine' i_rng1 ?_ | refine' i_lst0 ?_ | refine' i_tup0 ?_ | refine' e_bm ?_ | refine' e_sl ?_ | refine' e_np ?_ | refine' e_pt ?_ | refine' e_ptI ?_ | refine' e_din ?_ | refine' i_enum0 ?_ | refine' i_rev0 ?_ | refine' g_sub ?_ | refine' s_asg ?_ | refine' i_zip0 ?_ | refine' e_revT ?_ | refine' isB_bl ?_ | refine' notB_bl ?_ | refine' o_neB ?_)
local macro_rules | `(tactic| walk_at "v") => `(tactic| ((with_reducible refine' e_var ?hv ?_); (case hv => exact rfl)))
local macro_rules | `(tactic| walk_at "a") => `(tactic| ((with_reducible refine' s_aug ?hv ?_); (case hv => exact rfl)))
local macro_rules | `(tactic| walk_at "m") => `(tactic| first
  | ((with_reducible refine' o_mod ?hv ?_); (case hv => first | decide | omega))
  | ((with_reducible refine' o_mulR ?hv ?_); (case hv => omega))
  | ((with_reducible refine' o_mulL ?hv ?_); (case hv => omega))
  | ((with_reducible refine' o_div ?hv ?hw ?_); (case hv => omega); (case hw => omega))
  | ((with_reducible refine' o_pow _ ?hv ?hw ?hx ?_); (case hv => exact rfl); (case hw => decide); (case hx => decide)))
local macro_rules | `(tactic| walk_at "i") => `(tactic| (first
  | ((with_reducible refine' isi_int true ?hv ?_); (case hv => exact (by decide +kernel)))
  | ((with_reducible refine' isi_int false ?hv ?_); (case hv => exact (by decide +kernel)))
  | ((with_reducible refine' isi_non true ?hv ?_); (case hv => exact (by decide +kernel)))
  | ((with_reducible refine' isi_non false ?hv ?_); (case hv => exact (by decide +kernel)))
  | ((with_reducible refine' isi_str true ?hv ?_); (case hv => exact (by decide +kernel)))
  | ((with_reducible refine' isi_str false ?hv ?_); (case hv => exact (by decide +kernel)))
  | ((with_reducible refine' isi_bl true ?hv ?_); (case hv => exact (by decide +kernel)))
  | ((with_reducible refine' isi_bl false ?hv ?_); (case hv => exact (by decide +kernel)))
  | ((with_reducible refine' isi_t true ?hw ?hv ?_); (case hw => assumption); (case hv => exact (by decide +kernel)))
  | ((with_reducible refine' isi_t false ?hw ?hv ?_); (case hw => assumption); (case hv => exact (by decide +kernel)))
  | ((with_reducible refine' isi_l true ?hw ?hv ?_); (case hw => assumption); (case hv => exact (by decide +kernel)))
  | ((with_reducible refine' isi_l false ?hw ?hv ?_); (case hw => assumption); (case hv => exact (by decide +kernel)))
  | ((with_reducible refine' isi_tup true ?hw ?hv ?_); (case hw => assumption); (case hv => exact (by decide +kernel)))
  | ((with_reducible refine' isi_tup false ?hw ?hv ?_); (case hw => assumption); (case hv => exact (by decide +kernel)))
  | ((with_reducible refine' isi_lst true ?hw ?hv ?_); (case hw => assumption); (case hv => exact (by decide +kernel)))
  | ((with_reducible refine' isi_lst false ?hw ?hv ?_); (case hw => assumption); (case hv => exact (by decide +kernel)))))
local macro_rules | `(tactic| walk_at "om") => `(tactic| first | omega | (simp only [List.length_cons, List.length_nil, List.length_map, List.length_append, List.length_range]; omega))
local macro_rules | `(tactic| walk_at "d") => `(tactic| (first
  | ((with_reducible refine' i_dt ?hv ?_); (case hv => walk_at "om"))
  | ((with_reducible refine' i_df ?hv ?_); (case hv => walk_at "om"))
  | ((with_reducible refine' i_ndt ?hv ?_); (case hv => walk_at "om"))
  | ((with_reducible refine' i_ndf ?hv ?_); (case hv => walk_at "om"))))
local macro_rules | `(tactic| walk_at "x") => `(tactic| first
  | ((with_reducible refine' o_ixA ?hv ?hw ?_); (case hv => assumption); (case hw => exact rfl))
  | ((with_reducible refine' o_ixU ?hv ?hw ?_); (case hv => assumption); (case hw => exact rfl))
  | ((with_reducible refine' o_ixL ?hv ?hw ?_); (case hv => assumption); (case hw => exact rfl))
  | ((with_reducible refine' o_ixT ?hv ?hw ?_); (case hv => assumption); (case hw => exact rfl))
  | ((with_reducible refine' set_ ?hv ?hw ?_); (case hv => assumption); (case hw => exact rfl))
  | ((with_reducible refine' e_lenM ?hv ?_); (case hv => first | assumption | exact slO (by assumption)))
  | ((with_reducible refine' e_lenN ?hv ?_); (case hv => first | assumption | exact stO (by assumption)))
  | ((with_reducible refine' e_lenL ?hv ?_); (case hv => first | assumption | exact slO (by assumption)))
  | ((with_reducible refine' e_lenT ?hv ?_); (case hv => first | assumption | exact stO (by assumption))))
local macro_rules | `(tactic| walk_at "c") => `(tactic| first
  | ((with_reducible refine' c_listL ?hv ?_); (case hv => assumption))
  | ((with_reducible refine' c_listT ?hv ?_); (case hv => assumption))
  | ((with_reducible refine' c_tupL ?hv ?_); (case hv => first | assumption | exact slO (by assumption)))
  | ((with_reducible refine' c_tupT ?hv ?_); (case hv => assumption))
  | ((with_reducible refine' t_lst ?hv ?_); (case hv => first | assumption | exact slO (by assumption)))
  | ((with_reducible refine' t_tup ?hv ?_); (case hv => assumption))
  | ((with_reducible refine' r_sl ?hv ?_); (case hv => first | assumption | exact slO (by assumption)))
  | ((with_reducible refine' o_inL ?hv ?_); (case hv => first | assumption | exact slO (by assumption)))
  | ((with_reducible refine' o_inT ?hv ?_); (case hv => first | assumption | exact stO (by assumption)))
  | ((with_reducible refine' o_niL ?hv ?_); (case hv => first | assumption | exact slO (by assumption)))
  | ((with_reducible refine' o_niT ?hv ?_); (case hv => first | assumption | exact stO (by assumption)))
  | ((with_reducible refine' ty_lst ?hv ?_); (case hv => assumption)))
local macro_rules | `(tactic| walk_at "mo") => `(tactic| repeat' (first | exact m_yes | exact m_var | exact m_c | exact m_I0 | exact m_I | exact m_ix | exact m_add | exact m_in | exact m_int1 | exact m_abs | exact m_nil | refine' m_and ?_ ?_ | refine' m_test ?_ | refine' m_tB ?_ | refine' m_op ?_ ?_ ?_ | refine' m_cons ?_ ?_ | refine' m_cb ?_ ?_))
local macro_rules | `(tactic| walk_at "go") => `(tactic| repeat' (first | walk_at "s" | walk_at "v" | walk_at "a" | walk_at "x" | walk_at "m" | walk_at "c" | walk_at "i" | walk_at "d"))

section
variable {P : Program} {w : World} {K : PySem.W.Frag} {mg : Str → Option Value} {base : Heap}
/-! ### what is enough, and what is needed -/
theorem keep_sub {S : Int → Bool} : ∀ (l : List (Int × Option Int)) (acc : List Int), ∃ t : List Int, l.foldl (keepF S) acc = acc ++ t ∧ t.Sublist (l.map (·.1))
  | [], acc => ⟨[], by simp, List.Sublist.refl _⟩
  | v :: l, acc => by
    rw [List.foldl_cons]
    obtain ⟨t, e, s⟩ := keep_sub (S := S) l (keepF S acc v)
    rw [e]
    rcases keepF_sub (S := S) (acc := acc) (v := v) with ⟨e2, _⟩ | e2
    · rw [e2]
      exact ⟨v.1 :: t, by simp, s.cons_cons _⟩
    · rw [e2]
      exact ⟨t, rfl, s.cons _⟩
theorem told_asc {S : Int → Bool} {xs : List (Int × Option Int)} (hV : Valid xs) : (keepC S xs).Pairwise (· < ·) ∧ ∀ c ∈ keepC S xs, c ∈ xs.map (·.1) := by
  obtain ⟨t, e, s⟩ := keep_sub (S := S) xs.reverse []
  have e : keepC S xs = t := by rw [show keepC S xs = xs.reverse.foldl (keepF S) [] from rfl, e]; rfl
  rw [e]
  refine ⟨List.Pairwise.sublist s ?_, fun c hc => ?_⟩
  · rw [List.map_reverse, List.pairwise_reverse, List.pairwise_map]
    exact hV.desc
  · have := s.subset hc
    rw [List.map_reverse, List.mem_reverse] at this
    exact this
theorem inAll_iff {xs : List (Int × Option Int)} {ms : List Int} : inAll xs ms = true ↔ ∀ m ∈ ms, m ∈ xs.map (·.1) := by
  unfold inAll
  rw [List.all_eq_true]
  exact ⟨fun h m hm => of_decide_eq_true (h m hm), fun h m hm => decide_eq_true (h m hm)⟩
theorem Valid.pos {xs : List (Int × Option Int)} (hV : Valid xs) {c : Int} (h : c ∈ xs.map (·.1)) : 1 ≤ c := by
  obtain ⟨v, hv, e⟩ := List.mem_map.mp h
  rw [← e]
  exact (hV.comm v hv).1
theorem toI_int (ms : List Int) : (ms.map V.int).map toI = ms := by
  rw [List.map_map]
  conv => rhs; rw [← List.map_id ms]
  rfl
/-- the law's own look at a lot -/
def lotL (cs : List Int) (a : Int) : List V → Bool
  | [] => true
  | .int i :: r => decide (a < i) && (decide (i ∈ cs) && lotL cs i r)
  | _ :: _ => false
theorem lotL_iff {cs : List Int} : ∀ {ys : List V} {a : Int}, lotL cs a ys = true ↔ ∃ ms : List Int, ys = ms.map V.int ∧ (∀ m ∈ ms, m ∈ cs) ∧ (a :: ms).Pairwise (· < ·)
  | [], a => ⟨fun _ => ⟨[], rfl, fun m hm => (nomatch hm), by simp⟩, fun _ => rfl⟩
  | y :: r, a => by
    constructor
    · intro h
      cases y with
      | int i =>
        have h : (decide (a < i) && (decide (i ∈ cs) && lotL cs i r)) = true := h
        rw [Bool.and_eq_true_iff, Bool.and_eq_true_iff, decide_eq_true_iff, decide_eq_true_iff] at h
        obtain ⟨ms, e, h1, h2⟩ := lotL_iff.mp h.2.2
        refine ⟨i :: ms, by rw [e]; rfl, fun m hm => ?_, List.pairwise_cons.mpr ⟨fun m hm => ?_, h2⟩⟩
        · rcases List.mem_cons.mp hm with q | q
          · rw [q]; exact h.2.1
          · exact h1 m q
        · rcases List.mem_cons.mp hm with q | q
          · rw [q]; exact h.1
          · have := (List.pairwise_cons.mp h2).1 m q
            have := h.1
            omega
      | _ => cases h
    · rintro ⟨ms, e, h1, h2⟩
      cases ms with
      | nil => cases e
      | cons m ms =>
        have e1 : y = .int m := (List.cons.inj e).1
        have e2 : r = ms.map V.int := (List.cons.inj e).2
        subst e1
        obtain ⟨p1, p2⟩ := List.pairwise_cons.mp h2
        show (decide (a < m) && (decide (m ∈ cs) && lotL cs m r)) = true
        rw [decide_eq_true (p1 m List.mem_cons_self), decide_eq_true (h1 m List.mem_cons_self), lotL_iff.mpr ⟨ms, e2, fun x hx => h1 x (List.mem_cons_of_mem _ hx), p2⟩]
        rfl
theorem lotB_of {ns : List Int} (h : ns.Pairwise (· < ·)) (h0 : ∀ z ∈ ns, 0 ≤ z) : lotB ns = true := asc_lot h h0
theorem lotL_eq {xs : List (Int × Option Int)} (hV : Valid xs) (ys : List V) : lotL (xs.map (·.1)) 0 ys = (lotV ys && inAll xs (ys.map toI)) := by
  rw [Bool.eq_iff_iff, lotL_iff, Bool.and_eq_true_iff]
  constructor
  · rintro ⟨ms, rfl, h1, h2⟩
    rw [lotV_int, toI_int]
    exact ⟨lotB_of (List.pairwise_cons.mp h2).2 fun z hz => by have := hV.pos (h1 z hz); omega, inAll_iff.mpr h1⟩
  · rintro ⟨h1, h2⟩
    have h3 := Bool.and_eq_true_iff.mp h1
    refine ⟨ys.map toI, ints_of h3.1, inAll_iff.mp h2, List.pairwise_cons.mpr ⟨fun m hm => ?_, lotB_asc h3.2⟩⟩
    have := hV.pos (inAll_iff.mp h2 m hm)
    omega
theorem fi_zero {xs : List (Int × Option Int)} {s : Int} (h : top xs ≤ s) : fi xs s = 0 := by
  cases xs with
  | nil => rfl
  | cons v r => exact Nat.le_zero.mp (fi_min (Nat.zero_lt_succ _) h)
theorem okS_last {xs ys : List (Int × Option Int)} {l l2 : Int} (h1 : top xs ≤ l) (h2 : top ys ≤ l) (h3 : l ≤ l2) : okS xs ys l2 = okS xs ys l := by
  unfold okS
  rw [fi_zero h1, fi_zero h2, fi_zero (s := l2) (by omega), fi_zero (xs := ys) (s := l2) (by omega)]
theorem keptR_ask {xs : List (Int × Option Int)} (hV : Valid xs) (h0 : 0 ≤ top xs) {ns : List Int} {l l2 : Int} (h1 : top xs ≤ l) (h3 : l ≤ l2) (d : Option (List V)) : keptR xs (ns ++ [l, l2]) d = keptR xs (ns ++ [l]) d := by
  cases d with
  | none => rfl
  | some ys =>
    show (lotV ys && (inAll xs (ys.map toI) && (ns ++ [l, l2]).all (okS xs (keptOf xs (ys.map toI))))) = (lotV ys && (inAll xs (ys.map toI) && (ns ++ [l]).all (okS xs (keptOf xs (ys.map toI)))))
    have h2 : top (keptOf xs (ys.map toI)) ≤ l := by have := top_kept hV (ys := keptOf xs (ys.map toI)) List.filter_sublist h0; omega
    have e : (ns ++ [l, l2]).all (okS xs (keptOf xs (ys.map toI))) = (ns ++ [l]).all (okS xs (keptOf xs (ys.map toI))) := by
      rw [List.all_append, List.all_append]
      have e2 := okS_last h1 h2 h3
      simp only [List.all_cons, List.all_nil, e2, Bool.and_true, Bool.and_self]
    rw [e]
theorem seenC_iff {xs : List (Int × Option Int)} {ask : List Int} {c : Int} : seenC xs ask c = true ↔ ∃ s ∈ ask, ∃ u, xs[fi xs s]? = some u ∧ u.1 = c := by
  unfold seenC
  rw [List.any_eq_true]
  refine ⟨fun ⟨s, hs, h⟩ => ⟨s, hs, ?_⟩, fun ⟨s, hs, u, hu, e⟩ => ⟨s, hs, ?_⟩⟩
  · unfold hit at h
    cases e : xs[fi xs s]? with
    | none => rw [e] at h; cases h
    | some u => rw [e] at h; exact ⟨u, rfl, of_decide_eq_true h⟩
  · unfold hit
    rw [hu]
    exact decide_eq_true e
/-- what a right lot leaves out is not needed -/
theorem told_in {xs : List (Int × Option Int)} (hV : Valid xs) {ask ms : List Int} (hok : ∀ s ∈ ask, okS xs (keptOf xs ms) s = true) : ∀ (l2 l1 : List (Int × Option Int)) (acc : List Int), xs.reverse = l1 ++ l2 → (∀ c ∈ acc, c ∈ ms ∧ c ∈ l1.map (·.1)) →
    ∀ c ∈ l2.foldl (keepF (seenC xs ask)) acc, c ∈ ms
  | [], _, acc, _, h, c, hc => (h c hc).1
  | v :: l2, l1, acc, e, h, c, hc => by
    rw [List.foldl_cons] at hc
    refine told_in hV hok l2 (l1 ++ [v]) (keepF (seenC xs ask) acc v) (by rw [e]; simp) (fun c hc => ?_) c hc
    rcases keepF_sub (S := seenC xs ask) (acc := acc) (v := v) with ⟨e2, e3, e4⟩ | e2
    · rw [e2] at hc
      rcases List.mem_append.mp hc with hc | hc
      · obtain ⟨g1, g2⟩ := h c hc
        exact ⟨g1, by rw [List.map_append]; exact List.mem_append_left _ g2⟩
      · have ec : c = v.1 := List.mem_singleton.mp hc
        refine ⟨?_, by rw [ec, List.map_append]; exact List.mem_append_right _ List.mem_cons_self⟩
        obtain ⟨s, hs, u, hu, eu⟩ := seenC_iff.mp e3
        have hv : v ∈ xs := List.mem_reverse.mp (by rw [e]; simp)
        obtain ⟨u1, u2⟩ := fi_mem hu
        have euv : u = v := hV.eq u1 hv eu
        subst euv
        have ok := hok s hs
        unfold okS at ok
        rw [hu] at ok
        cases ek : (keptOf xs ms)[fi (keptOf xs ms) s]? with
        | some z =>
          rw [ek] at ok
          have ez : some u = some z := of_decide_eq_true ok
          cases ez
          rw [ec]
          exact of_decide_eq_true (List.mem_filter.mp (fi_mem ek).1).2
        | none =>
          rw [ek] at ok
          have ok : u.2.isNone = true := ok
          have ne : acc.isEmpty = false := by
            cases hu2 : u.2 with
            | none => rw [hu2] at e4; simpa using e4
            | some z => rw [hu2] at ok; cases ok
          cases acc with
          | nil => cases ne
          | cons a r =>
            exfalso
            obtain ⟨g1, g2⟩ := h a List.mem_cons_self
            obtain ⟨y, hy, ey⟩ := List.mem_map.mp g2
            have hyx : y ∈ xs := List.mem_reverse.mp (by rw [e]; exact List.mem_append_left _ hy)
            have hlt : y.1 < u.1 := by
              have hp : xs.reverse.Pairwise (fun a b => a.1 < b.1) := List.pairwise_reverse.mpr hV.desc
              rw [e] at hp
              exact (List.pairwise_append.mp hp).2.2 y hy u List.mem_cons_self
            obtain ⟨z, hz⟩ := fi_some (xs := keptOf xs ms) (s := s) (List.mem_filter.mpr ⟨hyx, decide_eq_true (by rw [ey]; exact g1)⟩) (by omega)
            rw [ek] at hz; cases hz
    · rw [e2] at hc
      obtain ⟨g1, g2⟩ := h c hc
      exact ⟨g1, by rw [List.map_append]; exact List.mem_append_left _ g2⟩
theorem told_sub {xs : List (Int × Option Int)} (hV : Valid xs) {ask : List Int} {ys : List V} (h : keptR xs ask (some ys) = true) : ys = (ys.map toI).map V.int ∧ ∀ c ∈ keepC (seenC xs ask) xs, c ∈ ys.map toI := by
  have h : (lotV ys && (inAll xs (ys.map toI) && ask.all (okS xs (keptOf xs (ys.map toI))))) = true := h
  rw [Bool.and_eq_true_iff, Bool.and_eq_true_iff, List.all_eq_true] at h
  exact ⟨ints_of (Bool.and_eq_true_iff.mp h.1).1, told_in hV h.2.2 xs.reverse [] [] rfl fun c hc => (nomatch hc)⟩
/-- what is needed is enough -/
theorem told_ok {xs : List (Int × Option Int)} (hV : Valid xs) {ask : List Int} {s : Int} (hs : s ∈ ask) : okS xs (keptOf xs (keepC (seenC xs ask) xs)) s = true := by
  have hVK : Valid (keptOf xs (keepC (seenC xs ask) xs)) := hV.sub List.filter_sublist
  unfold okS
  cases eu : xs[fi xs s]? with
  | none =>
    cases ek : (keptOf xs (keepC (seenC xs ask) xs))[fi (keptOf xs (keepC (seenC xs ask) xs)) s]? with
    | none => rfl
    | some z =>
      obtain ⟨g1, g2⟩ := fi_mem ek
      obtain ⟨u, hu⟩ := fi_some (xs := xs) (List.mem_filter.mp g1).1 g2
      rw [eu] at hu; cases hu
  | some u =>
    obtain ⟨u1, u2⟩ := fi_mem eu
    have hS : seenC xs ask u.1 = true := seenC_iff.mpr ⟨s, hs, u, eu, rfl⟩
    cases ek : (keptOf xs (keepC (seenC xs ask) xs))[fi (keptOf xs (keepC (seenC xs ask) xs)) s]? with
    | some z =>
      obtain ⟨g1, g2⟩ := fi_mem ek
      show decide (some u = some z) = true
      refine decide_eq_true ?_
      by_cases q : z = u
      · rw [q]
      · exfalso
        have hz := fi_top hV eu (List.mem_filter.mp g1).1 g2
        have hne : z.1 ≠ u.1 := fun e => q (hV.eq (List.mem_filter.mp g1).1 u1 e)
        have hzt : z.1 ∈ keepC (seenC xs ask) xs := of_decide_eq_true (List.mem_filter.mp g1).2
        -- u lies behind z among the eldest first; z was kept, so u is
        have hu' : u.1 ∈ keepC (seenC xs ask) xs := by
          obtain ⟨l1, l2, e⟩ := List.append_of_mem (List.mem_reverse.mpr u1)
          have hp : xs.reverse.Pairwise (fun a b => a.1 < b.1) := List.pairwise_reverse.mpr hV.desc
          have eK : keepC (seenC xs ask) xs = (l1 ++ u :: l2).foldl (keepF (seenC xs ask)) [] := by rw [← e]; rfl
          rw [e] at hp
          rw [eK, List.foldl_append, List.foldl_cons]
          rw [eK, List.foldl_append, List.foldl_cons] at hzt
          refine foldl_acc ?_
          have hz2 : z.1 ∈ l1.foldl (keepF (seenC xs ask)) [] := by
            rcases foldl_mem hzt with h | ⟨⟨y, hy, ey⟩, _⟩
            · rcases keepF_sub (S := seenC xs ask) (acc := l1.foldl (keepF (seenC xs ask)) []) (v := u) with ⟨e2, _⟩ | e2
              · rw [e2] at h
                rcases List.mem_append.mp h with h | h
                · exact h
                · exact absurd (List.mem_singleton.mp h) hne
              · rw [e2] at h; exact h
            · exfalso
              have := (List.pairwise_cons.mp (List.pairwise_append.mp hp).2.1).1 y hy
              omega
          unfold keepF
          have : (l1.foldl (keepF (seenC xs ask)) []).isEmpty = false := by
            cases hh : l1.foldl (keepF (seenC xs ask)) [] with
            | nil => rw [hh] at hz2; cases hz2
            | cons a r => rfl
          unfold keepF at this
          rw [if_pos (by rw [hS, this]; simp)]
          exact List.mem_append_right _ List.mem_cons_self
        have := fi_top hVK ek (List.mem_filter.mpr ⟨u1, decide_eq_true hu'⟩) u2
        omega
    | none =>
      show u.2.isNone = true
      cases hu2 : u.2 with
      | none => rfl
      | some y =>
        exfalso
        have hu' : u.1 ∈ keepC (seenC xs ask) xs := by
          obtain ⟨l1, l2, e⟩ := List.append_of_mem (List.mem_reverse.mpr u1)
          have eK : keepC (seenC xs ask) xs = (l1 ++ u :: l2).foldl (keepF (seenC xs ask)) [] := by rw [← e]; rfl
          rw [eK, List.foldl_append, List.foldl_cons]
          refine foldl_acc ?_
          unfold keepF
          rw [if_pos (by rw [hS, hu2]; rfl)]
          exact List.mem_append_right _ List.mem_cons_self
        obtain ⟨z, hz⟩ := fi_some (xs := keptOf xs (keepC (seenC xs ask) xs)) (List.mem_filter.mpr ⟨u1, decide_eq_true hu'⟩) u2
        rw [ek] at hz; cases hz
theorem told_right {xs : List (Int × Option Int)} (hV : Valid xs) (ask : List Int) : keptR xs ask (some ((keepC (seenC xs ask) xs).map V.int)) = true := by
  show (lotV _ && (inAll xs _ && ask.all (okS xs (keptOf xs _)))) = true
  obtain ⟨h1, h2⟩ := told_asc (S := seenC xs ask) hV
  rw [lotV_int, toI_int, lotB_of h1 fun z hz => by have := hV.pos (h2 z hz); omega, inAll_iff.mpr h2, List.all_eq_true.mpr fun s hs => told_ok hV hs]
  rfl
end
end Vw

set_option Elab.async false
set_option linter.all false
set_option maxRecDepth 100000
set_option maxHeartbeats 4000000
namespace Vw
open PySem PySem.Spec PyProof.Rows L2 RT
local macro_rules | `(tactic| walk_at "s") => `(tactic| with_reducible first
  | refine' s_seq ?_ | refine' s_next ?_ | refine' s_set ?_ | refine' s_ret ?_ | refine' s_retN ?_ | refine' s_drop ?_ | refine' s_if ?_ | refine' s_ipI ?_
  | refine' e_c ?_ | refine' e_op ?_ | refine' e_un ?_ | refine' e_neg ?_ | refine' e_test ?_ | refine' e_tB ?_ | refine' e_bl ?_ | refine' e_and ?_ | refine' e_or ?_ | refine' e_not ?_
  | refine' e_andV ?_ | refine' e_orV ?_ | refine' e_notV ?_ | refine' e_kV ?_ | refine' e_ife ?_ | refine' e_nil ?_ | refine' e_cons ?_ | refine' e_cb ?_ | refine' e_call ?_ | refine' e_chain ?_
  | refine' o_addI ?_ | refine' o_eqI ?_ | refine' o_neI ?_ | refine' o_I0 ?_ | refine' o_pow16 ?_ | refine' o_pow17 ?_ | refine' o_pow18 ?_ | refine' o_pow19 ?_ | refine' o_pow30 ?_ | refine' o_pow31 ?_ | refine' o_pow1 ?_ | refine' o_pow2 ?_ | refine' o_pow3 ?_ | refine' o_pow4 ?_ | refine' o_pow5 ?_ | refine' o_pow6 ?_ | refine' o_pow9 ?_ | refine' o_pow10 ?_ | refine' o_pow12 ?_ | refine' o_pow15 ?_ | refine' o_pow20 ?_ | refine' e_lst ?_ | refine' e_tup ?_ | refine' iteT ?_ | refine' i_nt ?_ | refine' i_nf ?_ | refine' iteF ?_ | refine' c_int ?_ | refine' c_abs ?_ | refine' c_min2 ?_ | refine' c_max2 ?_ | refine' e_tru ?_ | refine' t_bl ?_ | refine' t_non ?_ | refine' t_int ?_ | refine' isN_non ?_ | refine' isN_int ?_ | refine' isN_ref ?_ | refine' isN_str ?_ | refine' isN_bl ?_ | refine' noN_non ?_ | refine' noN_int ?_ | refine' noN_ref ?_ | refine' noN_str ?_ | refine' noN_bl ?_
  | refine' s_brk ?_ | refine' s_cont ?_ | refine' s_for ?_ | refine' e_lc ?_ | refine' e_dc ?_ | refine' e_yes ?_ | refine' i_rng1 ?_ | refine' i_lst0 ?_ | refine' i_tup0 ?_ | refine' e_bm ?_ | refine' e_sl ?_ | refine' e_np ?_ | refine' e_pt ?_ | refine' e_ptI ?_ | refine' e_din ?_ | refine' i_enum0 ?_ | refine' i_rev0 ?_ | refine' g_sub ?_ | refine' s_asg ?_ | refine' i_zip0 ?_ | refine' e_revT ?_ | refine' isB_bl ?_ | refine' notB_bl ?_ | refine' o_neB ?_)
local macro_rules | `(tactic| walk_at "v") => `(tactic| ((with_reducible refine' e_var ?hv ?_); (case hv => exact rfl)))
local macro_rules | `(tactic| walk_at "a") => `(tactic| ((with_reducible refine' s_aug ?hv ?_); (case hv => exact rfl)))
local macro_rules | `(tactic| walk_at "m") => `(tactic| first
  | ((with_reducible refine' o_mod ?hv ?_); (case hv => first | decide | omega))
  | ((with_reducible refine' o_mulR ?hv ?_); (case hv => omega))
  | ((with_reducible refine' o_mulL ?hv ?_); (case hv => omega))
  | ((with_reducible refine' o_div ?hv ?hw ?_); (case hv => omega); (case hw => omega))
  | ((with_reducible refine' o_pow _ ?hv ?hw ?hx ?_); (case hv => exact rfl); (case hw => decide); (case hx => decide)))
local macro_rules | `(tactic| walk_at "i") => `(tactic| (first
  | ((with_reducible refine' isi_int true ?hv ?_); (case hv => exact (by decide +kernel)))
  | ((with_reducible refine' isi_int false ?hv ?_); (case hv => exact (by decide +kernel)))
  | ((with_reducible refine' isi_non true ?hv ?_); (case hv => exact (by decide +kernel)))
  | ((with_reducible refine' isi_non false ?hv ?_); (case hv => exact (by decide +kernel)))
  | ((with_reducible refine' isi_str true ?hv ?_); (case hv => exact (by decide +kernel)))
  | ((with_reducible refine' isi_str false ?hv ?_); (case hv => exact (by decide +kernel)))
  | ((with_reducible refine' isi_bl true ?hv ?_); (case hv => exact (by decide +kernel)))
  | ((with_reducible refine' isi_bl false ?hv ?_); (case hv => exact (by decide +kernel)))
  | ((with_reducible refine' isi_t true ?hw ?hv ?_); (case hw => assumption); (case hv => exact (by decide +kernel)))
  | ((with_reducible refine' isi_t false ?hw ?hv ?_); (case hw => assumption); (case hv => exact (by decide +kernel)))
  | ((with_reducible refine' isi_l true ?hw ?hv ?_); (case hw => assumption); (case hv => exact (by decide +kernel)))
  | ((with_reducible refine' isi_l false ?hw ?hv ?_); (case hw => assumption); (case hv => exact (by decide +kernel)))
  | ((with_reducible refine' isi_tup true ?hw ?hv ?_); (case hw => assumption); (case hv => exact (by decide +kernel)))
  | ((with_reducible refine' isi_tup false ?hw ?hv ?_); (case hw => assumption); (case hv => exact (by decide +kernel)))
  | ((with_reducible refine' isi_lst true ?hw ?hv ?_); (case hw => assumption); (case hv => exact (by decide +kernel)))
  | ((with_reducible refine' isi_lst false ?hw ?hv ?_); (case hw => assumption); (case hv => exact (by decide +kernel)))))
local macro_rules | `(tactic| walk_at "om") => `(tactic| first | omega | (simp only [List.length_cons, List.length_nil, List.length_map, List.length_append, List.length_range]; omega))
local macro_rules | `(tactic| walk_at "d") => `(tactic| (first
  | ((with_reducible refine' i_dt ?hv ?_); (case hv => walk_at "om"))
  | ((with_reducible refine' i_df ?hv ?_); (case hv => walk_at "om"))
  | ((with_reducible refine' i_ndt ?hv ?_); (case hv => walk_at "om"))
  | ((with_reducible refine' i_ndf ?hv ?_); (case hv => walk_at "om"))))
local macro_rules | `(tactic| walk_at "x") => `(tactic| first
  | ((with_reducible refine' o_ixA ?hv ?hw ?_); (case hv => assumption); (case hw => exact rfl))
  | ((with_reducible refine' o_ixU ?hv ?hw ?_); (case hv => assumption); (case hw => exact rfl))
  | ((with_reducible refine' o_ixL ?hv ?hw ?_); (case hv => assumption); (case hw => exact rfl))
  | ((with_reducible refine' o_ixT ?hv ?hw ?_); (case hv => assumption); (case hw => exact rfl))
  | ((with_reducible refine' set_ ?hv ?hw ?_); (case hv => assumption); (case hw => exact rfl))
  | ((with_reducible refine' e_lenM ?hv ?_); (case hv => first | assumption | exact slO (by assumption)))
  | ((with_reducible refine' e_lenN ?hv ?_); (case hv => first | assumption | exact stO (by assumption)))
  | ((with_reducible refine' e_lenL ?hv ?_); (case hv => first | assumption | exact slO (by assumption)))
  | ((with_reducible refine' e_lenT ?hv ?_); (case hv => first | assumption | exact stO (by assumption))))
local macro_rules | `(tactic| walk_at "c") => `(tactic| first
  | ((with_reducible refine' c_listL ?hv ?_); (case hv => assumption))
  | ((with_reducible refine' c_listT ?hv ?_); (case hv => assumption))
  | ((with_reducible refine' c_tupL ?hv ?_); (case hv => first | assumption | exact slO (by assumption)))
  | ((with_reducible refine' c_tupT ?hv ?_); (case hv => assumption))
  | ((with_reducible refine' t_lst ?hv ?_); (case hv => first | assumption | exact slO (by assumption)))
  | ((with_reducible refine' t_tup ?hv ?_); (case hv => assumption))
  | ((with_reducible refine' r_sl ?hv ?_); (case hv => first | assumption | exact slO (by assumption)))
  | ((with_reducible refine' o_inL ?hv ?_); (case hv => first | assumption | exact slO (by assumption)))
  | ((with_reducible refine' o_inT ?hv ?_); (case hv => first | assumption | exact stO (by assumption)))
  | ((with_reducible refine' o_niL ?hv ?_); (case hv => first | assumption | exact slO (by assumption)))
  | ((with_reducible refine' o_niT ?hv ?_); (case hv => first | assumption | exact stO (by assumption)))
  | ((with_reducible refine' ty_lst ?hv ?_); (case hv => assumption)))
local macro_rules | `(tactic| walk_at "mo") => `(tactic| repeat' (first | exact m_yes | exact m_var | exact m_c | exact m_I0 | exact m_I | exact m_ix | exact m_add | exact m_in | exact m_int1 | exact m_abs | exact m_nil | refine' m_and ?_ ?_ | refine' m_test ?_ | refine' m_tB ?_ | refine' m_op ?_ ?_ ?_ | refine' m_cons ?_ ?_ | refine' m_cb ?_ ?_))
local macro_rules | `(tactic| walk_at "go") => `(tactic| repeat' (first | walk_at "s" | walk_at "v" | walk_at "a" | walk_at "x" | walk_at "m" | walk_at "c" | walk_at "i" | walk_at "d"))

section
variable {P : Program} {w : World} {K : PySem.W.Frag} {mg : Str → Option Value} {base : Heap}
def sp_some (K : PySem.W.Frag) : Sp := fun vs H Q _ => ∃ (B : Bg) (a : Addr) (ns : List Int) (c : Int), vs = [.ref B.hd, .ref a, .int c] ∧ BagAt K H B ∧ SqL K H a (ns.map V.int) ∧ a ≠ B.hd ∧ ns.length ≤ 100 ∧
  ∀ p (ms : List Int) H', Hs K B H H' → H p = none → H' p = some (.lst (ms.map V.int)) → ms.length ≤ ns.length → Q (.ref p) H'
theorem ok_law_some (T : Txt K mg) : FnOk P w K mg base CX0 3 T.law_some.f T.law_some.fd ["bag", "row", "share"] (sp_some K) := by
  refine T.law_some.F.ok sc_law_some (fun vs H Q E h => ?_) (fun cdv A outer s H vs Q E hr h => ?_)
  · obtain ⟨B, a, ns, c, rfl, _⟩ := h
    rfl
  · obtain ⟨B, a, ns, c, rfl, b, hS, ha, hl, k⟩ := h
    refine ⟨_, (pss_cons (ps_set (i := 3) sc_law_some.nd rfl (Or.inl rfl) (pe_lst pa_nil))
    (pss_cons (ps_for PassesOwn.never rfl (piL (K := K) (pv 1)) (pg_name (i := 4) sc_law_some.nd rfl (Or.inl rfl))
      (pss_one (ps_if (pt_cmpR oLt (pe_call (ok_law_draw T) (hr.mono (by decide)) (by rfl) T.law_draw.g T.law_draw.F.kp T.law_draw.b .nil pass0 (pa_cons (pv 0) (pa_cons pe_int pa_nil))) (pv 2) (nomark _)) (pss_one (ps_expr (peApp (K := K) (pe_bm PySem.F.plainAttrs_list PySem.F.slot_list_append PySem.F.type_list_append mt_append (pv 3) (pa_cons (pv 4) pa_nil))))) pss_nil)))
    (pss_one (ps_ret (pv 3))))), ?_⟩
    walk_at "go"
    refine n_new (le_size (by simp)) fun f H1 n1 s1 h1 => ?_
    have hs1 := Hs.of b s1
    have fne : f ≠ B.hd := new_ne b n1
    walk_at "go"
    refine i_lst (hs1.sl ha hS) ?_
    refine l_lst (xs := ns.map V.int) (fun i σ H' => Hs K B H H' ∧ ∃ (ms : List Int) (y : Option V), σ = [some (.ref B.hd), some (.ref a), some (.int c), some (.ref f), y] ∧ H' f = some (.lst (ms.map V.int)) ∧ ms.length ≤ i) ⟨hs1, [], none, rfl, h1, by simp⟩ (fun i σ H' hi p => p.1.sl ha hS) (fun σ H' p => ?_) (fun i x σ H' hx p => ?_)
    · obtain ⟨hh, ms, y, rfl, hf, hm⟩ := p
      rw [List.length_map] at hm
      walk_at "go"
      exact k f ms H' hh n1 hf hm
    · obtain ⟨hh, ms, y, rfl, hf, hm⟩ := p
      have hi : i < ns.length := by
        have := (List.getElem?_eq_some_iff.mp hx).1
        simpa using this
      have ex : x = .int ns[i] := by
        rw [List.getElem?_map, List.getElem?_eq_getElem hi] at hx
        exact (Option.some.inj hx).symm
      subst ex
      walk_at "go"
      refine ⟨B, _, rfl, hh.b, by omega, by omega, fun r2 H2 r20 r21 hs2 => ?_⟩
      have hf2 := hs2.ls fne hf
      walk_at "go"
      refine i_d (fun q => ?_) (fun q => ?_)
      · walk_at "go"
        refine r_app hf2 (by simp; omega) fun H3 o3 h3 => ?_
        exact ⟨(hh.trans hs2).mut b n1 o3, ms ++ [ns[i]], _, rfl, by rw [h3, List.map_append]; rfl, by simp; omega⟩
      · walk_at "go"
        exact ⟨hh.trans hs2, ms, _, rfl, hf2, by omega⟩
/-- a comprehension that takes some of a list of whole numbers -/
theorem c_some {H : Hp} {σ : L2.St} {vs : List Nat} {j : Nat} {tt : TT} {te : TE} {Q : VK} {a : Addr} {ns : List Int} (hS : SqL K H a (ns.map V.int)) (hl : ns.length ≤ 1000) (hw : ∀ x, wipe ((wipe σ vs).set j x) vs = wipe σ vs)
    (hd : ∀ (ms : List Int) D H', H D = none → Same H H' → H' D = some (.lst (ms.map V.int)) → ms.length ≤ ns.length → Q (.ref D) H')
    (hs : ∀ (i : Nat) (hi : i < ns.length) (QB : Bool → Hp → Prop) H1, Same H H1 → (∀ b, QB b H1) → tt ((wipe σ vs).set j (some (.int ns[i]))) H1 QB) (he : te = tVar j) (hj : j < σ.length) : LQ (Itl K a) (gName j) tt te vs σ H Q := by
  subst he
  refine c_lst (xs := ns.map V.int) (fun i acc H1 => Same H H1 ∧ ∃ ms : List Int, acc = ms.map V.int ∧ ms.length ≤ i) (fun D hD => ⟨upd_free (Same.refl _) hD, [], rfl, by simp⟩) (fun i acc H1 hi p => sl_ p.1 hS) (fun acc D H1 hD hp p => ?_) hw (fun i x acc H1 D hx hD hp p => ?_)
  · obtain ⟨s1, ms, rfl, hm⟩ := p
    rw [List.length_map] at hm
    exact hd ms D H1 hD s1 hp hm
  · obtain ⟨s1, ms, rfl, hm⟩ := p
    have hi : i < ns.length := by
      have := (List.getElem?_eq_some_iff.mp hx).1
      simpa using this
    have ex : x = .int ns[i] := by
      rw [List.getElem?_map, List.getElem?_eq_getElem hi] at hx
      exact (Option.some.inj hx).symm
    subst ex
    refine hs i hi _ H1 s1 fun b => ?_
    cases b with
    | true =>
      refine i_t rfl ?_
      refine ⟨.int ns[i], ?_, _, hp, lt_size (by simp; omega), _, upd_same, upd_free s1 hD, ms ++ [ns[i]], by rw [List.map_append]; rfl, by simp; omega⟩
      rw [List.getElem?_set_self (by rw [wipe_length]; exact hj)]
    | false => exact i_f rfl ⟨_, hp, s1, ms, rfl, by omega⟩
def sp_lot (K : PySem.W.Frag) : Sp := fun vs H Q _ => ∃ (B : Bg) (a : Addr) (ps : List Addr) (xs : List (Int × Option Int)) (d : Addr) (due : List Int), vs = [.ref B.hd, .ref a, .ref d] ∧ BagAt K H B ∧ SqL K H a (ps.map V.ref) ∧ a ≠ B.hd ∧ PairsAt K H ps xs ∧ xs.length ≤ 40 ∧ SqL K H d (due.map V.int) ∧ d ≠ B.hd ∧ due.length ≤ 40 ∧
  ∀ p (ms : List Int) H', Hs K B H H' → SqT K H' p (ms.map V.int) → ms.length ≤ 40 → Q (.ref p) H'
theorem ok_law_lot (T : Txt K mg) : FnOk P w K mg base CX0 4 T.law_lot.f T.law_lot.fd ["bag", "versions", "due"] (sp_lot K) := by
  refine T.law_lot.F.ok sc_law_lot (fun vs H Q E h => ?_) (fun cdv A outer s H vs Q E hr h => ?_)
  · obtain ⟨B, a, ps, xs, d, due, rfl, _⟩ := h
    rfl
  · obtain ⟨B, a, ps, xs, d, due, rfl, b, hS, ha, hP, hx40, hD, hd, hd40, k⟩ := h
    refine ⟨_, (pss_cons (ps_set (i := 3) sc_law_lot.nd rfl (Or.inl rfl) (pe_call (ok_law_draw T) (hr.mono (by decide)) (by rfl) T.law_draw.g T.law_draw.F.kp T.law_draw.b .nil pass0 (pa_cons (pv 0) (pa_cons pe_int pa_nil))))
    (pss_cons (ps_set (i := 4) sc_law_lot.nd rfl (Or.inl rfl) (pe_callB (cSortI (K := K)) (by rfl) T.z_sorted (by decide +kernel) (pa_cons (pe_lc (own := [("pair", 7)]) rfl sc_law_lot.nd (piL (K := K) (pv 1)) (blkOk_by (N := n_law_lot) (sc := defScope s_law_lot) (by decide +kernel)) (fun _ _ _ _ _ => (pg_name (i := 7) sc_law_lot.nd rfl (Or.inl rfl))) (fun _ _ _ _ _ => pts_nil) (fun _ _ _ _ _ => (pe_ix (ixLT (K := K)) (pv 7) pe_int (fun _ _ => rfl)))) pa_nil)))
    (pss_cons (ps_if (PW.pt (pw_or (pt_cmpR (oEq (K := K) hr.units) (pv 3) pe_int (nomark _)) (pw_or1 (pt_cmpR (oEq (K := K) hr.units) (pe_callB (cLen (K := K)) (by rfl) T.z_len PySem.boot_len (pa_cons (pv 4) pa_nil)) pe_int (nomark _))))) (pss_one (ps_ret (pe_callTy (cTupOf (K := K)) (by rfl) T.z_tuple (by decide +kernel) (pa_cons (pv 2) pa_nil)))) pss_nil)
    (pss_cons (ps_if (pt_cmpR (oEq (K := K) hr.units) (pv 3) pe_int (nomark _)) (pss_one (ps_ret (pe_callTy (cTupOf (K := K)) (by rfl) T.z_tuple (by decide +kernel) (pa_cons (pe_call (ok_law_some T) (hr.mono (by decide)) (by rfl) T.law_some.g T.law_some.F.kp T.law_some.b .nil pass0 (pa_cons (pv 0) (pa_cons (pv 4) (pa_cons (pe_op oAdd pe_int (pe_call (ok_law_draw T) (hr.mono (by decide)) (by rfl) T.law_draw.g T.law_draw.F.kp T.law_draw.b .nil pass0 (pa_cons (pv 0) (pa_cons pe_int pa_nil)))) pa_nil)))) pa_nil)))) pss_nil)
    (pss_cons (ps_if (pt_cmpR (oEq (K := K) hr.units) (pv 3) pe_int (nomark _)) (pss_cons (ps_set (i := 5) sc_law_lot.nd rfl (Or.inr rfl) (pe_ix (ixLT (K := K)) (pv 4) (pe_call (ok_law_draw T) (hr.mono (by decide)) (by rfl) T.law_draw.g T.law_draw.F.kp T.law_draw.b .nil pass0 (pa_cons (pv 0) (pa_cons (pe_callB (cLen (K := K)) (by rfl) T.z_len PySem.boot_len (pa_cons (pv 4) pa_nil)) pa_nil))) (fun _ _ => rfl)))
    (pss_one (ps_ret (pe_callTy (cTupOf (K := K)) (by rfl) T.z_tuple (by decide +kernel) (pa_cons (pe_lc (own := [("commit", 8)]) rfl sc_law_lot.nd (piL (K := K) (pv 4)) (blkOk_by (N := n_law_lot) (sc := defScope s_law_lot) (by decide +kernel)) (fun _ _ _ _ _ => (pg_name (i := 8) sc_law_lot.nd rfl (Or.inl rfl))) (fun _ _ _ _ _ => (pts_one (PW.pt (pw_or (pt_cmpR (oIn (K := K)) (pv 8) (pv 2) (by rfl)) (pw_or1 (pt_cmpR (oEq (K := K) hr.units) (pv 8) (pv 5) (nomark _))))))) (fun _ _ _ _ _ => (pv 8))) pa_nil))))) pss_nil)
    (pss_cons (ps_if (pt_cmpR (oEq (K := K) hr.units) (pv 3) pe_int (nomark _)) (pss_cons (ps_set (i := 5) sc_law_lot.nd rfl (Or.inr rfl) (pe_ix (ixLT (K := K)) (pv 4) (pe_call (ok_law_draw T) (hr.mono (by decide)) (by rfl) T.law_draw.g T.law_draw.F.kp T.law_draw.b .nil pass0 (pa_cons (pv 0) (pa_cons (pe_callB (cLen (K := K)) (by rfl) T.z_len PySem.boot_len (pa_cons (pv 4) pa_nil)) pa_nil))) (fun _ _ => rfl)))
    (pss_one (ps_ret (pe_callTy (cTupOf (K := K)) (by rfl) T.z_tuple (by decide +kernel) (pa_cons (pe_lc (own := [("commit", 8)]) rfl sc_law_lot.nd (piL (K := K) (pv 2)) (blkOk_by (N := n_law_lot) (sc := defScope s_law_lot) (by decide +kernel)) (fun _ _ _ _ _ => (pg_name (i := 8) sc_law_lot.nd rfl (Or.inl rfl))) (fun _ _ _ _ _ => (pts_one (pt_cmpR (oNe (K := K) hr.units) (pv 8) (pv 5) (nomark _)))) (fun _ _ _ _ _ => (pv 8))) pa_nil))))) pss_nil)
    (pss_cons (ps_if (pt_cmpR (oEq (K := K) hr.units) (pv 3) pe_int (nomark _)) (pss_cons (ps_set (i := 6) sc_law_lot.nd rfl (Or.inr rfl) (pe_call (ok_law_some T) (hr.mono (by decide)) (by rfl) T.law_some.g T.law_some.F.kp T.law_some.b .nil pass0 (pa_cons (pv 0) (pa_cons (pe_lc (own := [("pair", 7)]) rfl sc_law_lot.nd (piL (K := K) (pv 1)) (blkOk_by (N := n_law_lot) (sc := defScope s_law_lot) (by decide +kernel)) (fun _ _ _ _ _ => (pg_name (i := 7) sc_law_lot.nd rfl (Or.inl rfl))) (fun _ _ _ _ _ => (pts_one (pt_cmpR oIsN (pe_ix (ixLT (K := K)) (pv 7) pe_int (fun _ _ => rfl)) pe_non (nomark _)))) (fun _ _ _ _ _ => (pe_ix (ixLT (K := K)) (pv 7) pe_int (fun _ _ => rfl)))) (pa_cons pe_int pa_nil)))))
    (pss_one (ps_ret (pe_callTy (cTupOf (K := K)) (by rfl) T.z_tuple (by decide +kernel) (pa_cons (pe_lc (own := [("commit", 8)]) rfl sc_law_lot.nd (piL (K := K) (pv 4)) (blkOk_by (N := n_law_lot) (sc := defScope s_law_lot) (by decide +kernel)) (fun _ _ _ _ _ => (pg_name (i := 8) sc_law_lot.nd rfl (Or.inl rfl))) (fun _ _ _ _ _ => (pts_one (PW.pt (pw_or (pt_cmpR (oIn (K := K)) (pv 8) (pv 2) (by rfl)) (pw_or1 (pt_cmpR (oIn (K := K)) (pv 8) (pv 6) (by rfl))))))) (fun _ _ _ _ _ => (pv 8))) pa_nil))))) pss_nil)
    (pss_one (ps_ret (pe_callTy (cTupOf (K := K)) (by rfl) T.z_tuple (by decide +kernel) (pa_cons (pv 4) pa_nil))))))))))), ?_⟩
    have hlen : ps.length = xs.length := hP.1
    walk_at "go"
    refine ⟨B, _, rfl, b, by omega, by omega, fun r1 H1 r10 r11 hs1 => ?_⟩
    walk_at "go"
    have hS1 := hs1.sl ha hS
    have hP1 := hs1.pa b hP
    refine i_lst hS1 ?_
    refine c_lst (xs := ps.map V.ref) (fun i acc H' => Same H1 H' ∧ acc = ((xs.take i).map (·.1)).map V.int) (fun D hD => ⟨upd_free (Same.refl _) hD, rfl⟩) (fun i acc H' hi p => sl_ p.1 hS1) (fun acc D H2 hD2 hp p => ?_) (fun _ => rfl) (fun i x acc H' D hx hD2 hp p => ?_)
    rotate_left 1
    · obtain ⟨s2, rfl⟩ := p
      have hi : i < ps.length := by
        have := (List.getElem?_eq_some_iff.mp hx).1
        simpa using this
      have ex : x = .ref ps[i] := by
        rw [List.getElem?_map, List.getElem?_eq_getElem hi] at hx
        exact (Option.some.inj hx).symm
      subst ex
      have hv := (pa_ s2 hP1).at (show i < xs.length by omega)
      walk_at "go"
      refine ⟨_, hp, lt_size (by simp; omega), _, upd_same, upd_free s2 hD2, ?_⟩
      rw [List.take_add_one, List.getElem?_eq_getElem (show i < xs.length by omega), List.map_append, List.map_append]; rfl
    · obtain ⟨s2, rfl⟩ := p
      rw [List.length_map, hlen, List.take_length] at hp
      walk_at "go"
      refine c_sortI (slO hp) fun cs pc H3 c1 c2 n3 s3 h3 => ?_
      have hh3 := hs1.trans (Hs.of hs1.b (s2.trans s3))
      have cne : pc ≠ B.hd := new_ne (bag_same hs1.b s2) n3
      have cl : cs.length ≤ 40 := by rw [c1.length_eq, List.length_map]; exact hx40
      have hC3 : SqL K H3 pc (cs.map V.int) := slO h3
      have hD3 := hh3.sl hd hD
      have hS3 := hh3.sl ha hS
      have hP3 := hh3.pa b hP
      clear hp h3 c1 c2 s2 s3 hS1 hP1
      have fin0 : ∀ H4 (ms : List Int), Hs K B H3 H4 → ms.length ≤ 40 → NewQ (.tup (ms.map V.int)) H4 Q := fun H4 ms hs4 hm p hp => k p ms _ (hh3.trans (hs4.trans (Hs.of hs4.b (Same.new hp)))) (stO upd_same) hm
      have hs0 : Hs K B H3 H3 := ⟨fun _ _ _ z => z, hh3.b⟩
      walk_at "go"
      refine i_d (fun q => ?_) (fun q => ?_)
      · walk_at "go"
        exact fin0 H3 due hs0 hd40
      walk_at "go"
      refine i_d (fun q2 => ?_) (fun q2 => ?_)
      · walk_at "go"
        exact fin0 H3 due hs0 hd40
      have pos : 0 < cs.length := by omega
      walk_at "go"
      refine i_d (fun q3 => ?_) (fun q3 => ?_)
      · walk_at "go"
        refine ⟨B, _, rfl, hh3.b, by omega, by omega, fun r4 H4 r40 r41 hs4 => ?_⟩
        walk_at "go"
        refine ⟨B, pc, cs, _, rfl, hs4.b, hs4.sl cne hC3, cne, by omega, fun p5 ms H5 hs5 n5 h5 l5 => ?_⟩
        walk_at "go"
        exact fin0 H5 ms (hs4.trans hs5) (by omega)
      walk_at "go"
      refine i_d (fun q4 => ?_) (fun q4 => ?_)
      · walk_at "go"
        refine ⟨B, _, rfl, hh3.b, by omega, by omega, fun r4 H4 r40 r41 hs4 => ?_⟩
        have hC4 := hs4.sl cne hC3
        have hD4 := hs4.sl hd hD3
        walk_at "go"
        refine o_ixL hC4 (atI_map r4.toNat (by omega) (by omega)) ?_
        walk_at "go"
        refine i_lst hC4 ?_
        refine c_some hC4 (by omega) (fun _ => rfl) (fun ms D H5 n5 s5 h5 l5 => ?_) (fun i hi QB H5 s5 hq => ?_) rfl (by show 8 < 9; decide)
        · walk_at "go"
          exact fin0 H5 ms (hs4.trans (Hs.of hs4.b s5)) (by omega)
        · have hD5 := sl_ s5 hD4
          walk_at "go"
          refine i_d (fun z => ?_) (fun z => ?_)
          · walk_at "go"
            exact hq _
          · walk_at "go"
            exact hq _
      walk_at "go"
      refine i_d (fun q5 => ?_) (fun q5 => ?_)
      · walk_at "go"
        refine ⟨B, _, rfl, hh3.b, by omega, by omega, fun r4 H4 r40 r41 hs4 => ?_⟩
        have hC4 := hs4.sl cne hC3
        have hD4 := hs4.sl hd hD3
        walk_at "go"
        refine o_ixL hC4 (atI_map r4.toNat (by omega) (by omega)) ?_
        walk_at "go"
        refine i_lst hD4 ?_
        refine c_some hD4 (by omega) (fun _ => rfl) (fun ms D H5 n5 s5 h5 l5 => ?_) (fun i hi QB H5 s5 hq => ?_) rfl (by show 8 < 9; decide)
        · walk_at "go"
          exact fin0 H5 ms (hs4.trans (Hs.of hs4.b s5)) (by omega)
        · walk_at "go"
          exact hq _
      walk_at "go"
      refine i_d (fun q6 => ?_) (fun q6 => ?_)
      · walk_at "go"
        refine i_lst hS3 ?_
        refine c_lst (xs := ps.map V.ref) (fun i acc H' => Same H3 H' ∧ ∃ ms : List Int, acc = ms.map V.int ∧ ms.length ≤ i) (fun D hD => ⟨upd_free (Same.refl _) hD, [], rfl, by simp⟩) (fun i acc H' hi p => sl_ p.1 hS3) (fun acc D H4 hD4 hp p => ?_) (fun _ => rfl) (fun i x acc H' D hx hD4 hp p => ?_)
        rotate_left 1
        · obtain ⟨s4, ms, rfl, lm⟩ := p
          have hi : i < ps.length := by
            have := (List.getElem?_eq_some_iff.mp hx).1
            simpa using this
          have ex : x = .ref ps[i] := by
            rw [List.getElem?_map, List.getElem?_eq_getElem hi] at hx
            exact (Option.some.inj hx).symm
          subst ex
          have hv := (pa_ s4 hP3).at (show i < xs.length by omega)
          cases e2 : xs[i].2 with
          | some z =>
            rw [e2] at hv
            walk_at "go"
            exact ⟨_, hp, s4, ms, rfl, by omega⟩
          | none =>
            rw [e2] at hv
            walk_at "go"
            exact ⟨_, hp, lt_size (by simp; omega), _, upd_same, upd_free s4 hD4, ms ++ [xs[i].1], by rw [List.map_append]; rfl, by simp; omega⟩
        · obtain ⟨s4, ms, rfl, lm⟩ := p
          rw [List.length_map] at lm
          have hs4 := Hs.of hh3.b s4
          walk_at "go"
          refine ⟨B, D, ms, _, rfl, hs4.b, slO hp, new_ne hh3.b hD4, by omega, fun p5 gs H5 hs5 n5 h5 l5 => ?_⟩
          have hC5 := (hs4.trans hs5).sl cne hC3
          have hD5 := (hs4.trans hs5).sl hd hD3
          walk_at "go"
          refine i_lst hC5 ?_
          refine c_some hC5 (by omega) (fun _ => rfl) (fun ms D H6 n6 s6 h6 l6 => ?_) (fun i hi QB H6 s6 hq => ?_) rfl (by show 8 < 9; decide)
          · walk_at "go"
            exact fin0 H6 ms ((hs4.trans hs5).trans (Hs.of hs5.b s6)) (by omega)
          · have hD6 := sl_ s6 hD5
            have h56 := at_ s6 h5
            walk_at "go"
            refine i_d (fun z => ?_) (fun z => ?_)
            · walk_at "go"
              exact hq _
            · walk_at "go"
              exact hq _
      walk_at "go"
      exact fin0 H3 cs hs0 cl
end
end Vw

set_option Elab.async false
set_option linter.all false
set_option maxRecDepth 100000
set_option maxHeartbeats 4000000
namespace Vw
open PySem PySem.Spec PyProof.Rows L2 RT
local macro_rules | `(tactic| walk_at "s") => `(tactic| with_reducible first
  | refine' s_seq ?_ | refine' s_next ?_ | refine' s_set ?_ | refine' s_ret ?_ | refine' s_retN ?_ | refine' s_drop ?_ | refine' s_if ?_ | refine' s_ipI ?_
  | refine' e_c ?_ | refine' e_op ?_ | refine' e_un ?_ | refine' e_neg ?_ | refine' e_test ?_ | refine' e_tB ?_ | refine' e_bl ?_ | refine' e_and ?_ | refine' e_or ?_ | refine' e_not ?_
  | refine' e_andV ?_ | refine' e_orV ?_ | refine' e_notV ?_ | refine' e_kV ?_ | refine' e_ife ?_ | refine' e_nil ?_ | refine' e_cons ?_ | refine' e_cb ?_ | refine' e_call ?_ | refine' e_chain ?_
  | refine' o_addI ?_ | refine' o_eqI ?_ | refine' o_neI ?_ | refine' o_I0 ?_ | refine' o_pow16 ?_ | refine' o_pow17 ?_ | refine' o_pow18 ?_ | refine' o_pow19 ?_ | refine' o_pow30 ?_ | refine' o_pow31 ?_ | refine' o_pow1 ?_ | refine' o_pow2 ?_ | refine' o_pow3 ?_ | refine' o_pow4 ?_ | refine' o_pow5 ?_ | refine' o_pow6 ?_ | refine' o_pow9 ?_ | refine' o_pow10 ?_ | refine' o_pow12 ?_ | refine' o_pow15 ?_ | refine' o_pow20 ?_ | refine' e_lst ?_ | refine' e_tup ?_ | refine' iteT ?_ | refine' i_nt ?_ | refine' i_nf ?_ | refine' iteF ?_ | refine' c_int ?_ | refine' c_abs ?_ | refine' c_min2 ?_ | refine' c_max2 ?_ | refine' e_tru ?_ | refine' t_bl ?_ | refine' t_non ?_ | refine' t_int ?_ | refine' isN_non ?_ | refine' isN_int ?_ | refine' isN_ref ?_ | refine' isN_str ?_ | refine' isN_bl ?_ | refine' noN_non ?_ | refine' noN_int ?_ | refine' noN_ref ?_ | refine' noN_str ?_ | refine' noN_bl ?_
  | refine' s_brk ?_ | refine' s_cont ?_ | refine' s_for ?_ | refine' e_lc ?_ | refine' e_dc ?_ | refine' e_yes ?_ | refine' i_rng1 ?_ | refine' i_lst0 ?_ | refine' i_tup0 ?_ | refine' e_bm ?_ | refine' e_sl ?_ | refine' e_np ?_ | refine' e_pt ?_ | refine' e_ptI ?_ | refine' e_din ?_ | refine' i_enum0 ?_ | refine' i_rev0 ?_ | refine' g_sub ?_ | refine' s_asg ?_ | refine' i_zip0 ?_ | refine' e_revT ?_ | refine' isB_bl ?_ | refine' notB_bl ?_ | refine' o_neB ?_)
local macro_rules | `(tactic| walk_at "v") => `(tactic| ((with_reducible refine' e_var ?hv ?_); (case hv => exact rfl)))
local macro_rules | `(tactic| walk_at "a") => `(tactic| ((with_reducible refine' s_aug ?hv ?_); (case hv => exact rfl)))
local macro_rules | `(tactic| walk_at "m") => `(tactic| first
  | ((with_reducible refine' o_mod ?hv ?_); (case hv => first | decide | omega))
  | ((with_reducible refine' o_mulR ?hv ?_); (case hv => omega))
  | ((with_reducible refine' o_mulL ?hv ?_); (case hv => omega))
  | ((with_reducible refine' o_div ?hv ?hw ?_); (case hv => omega); (case hw => omega))
  | ((with_reducible refine' o_pow _ ?hv ?hw ?hx ?_); (case hv => exact rfl); (case hw => decide); (case hx => decide)))
local macro_rules | `(tactic| walk_at "i") => `(tactic| (first
  | ((with_reducible refine' isi_int true ?hv ?_); (case hv => exact (by decide +kernel)))
  | ((with_reducible refine' isi_int false ?hv ?_); (case hv => exact (by decide +kernel)))
  | ((with_reducible refine' isi_non true ?hv ?_); (case hv => exact (by decide +kernel)))
  | ((with_reducible refine' isi_non false ?hv ?_); (case hv => exact (by decide +kernel)))
  | ((with_reducible refine' isi_str true ?hv ?_); (case hv => exact (by decide +kernel)))
  | ((with_reducible refine' isi_str false ?hv ?_); (case hv => exact (by decide +kernel)))
  | ((with_reducible refine' isi_bl true ?hv ?_); (case hv => exact (by decide +kernel)))
  | ((with_reducible refine' isi_bl false ?hv ?_); (case hv => exact (by decide +kernel)))
  | ((with_reducible refine' isi_t true ?hw ?hv ?_); (case hw => assumption); (case hv => exact (by decide +kernel)))
  | ((with_reducible refine' isi_t false ?hw ?hv ?_); (case hw => assumption); (case hv => exact (by decide +kernel)))
  | ((with_reducible refine' isi_l true ?hw ?hv ?_); (case hw => assumption); (case hv => exact (by decide +kernel)))
  | ((with_reducible refine' isi_l false ?hw ?hv ?_); (case hw => assumption); (case hv => exact (by decide +kernel)))
  | ((with_reducible refine' isi_tup true ?hw ?hv ?_); (case hw => assumption); (case hv => exact (by decide +kernel)))
  | ((with_reducible refine' isi_tup false ?hw ?hv ?_); (case hw => assumption); (case hv => exact (by decide +kernel)))
  | ((with_reducible refine' isi_lst true ?hw ?hv ?_); (case hw => assumption); (case hv => exact (by decide +kernel)))
  | ((with_reducible refine' isi_lst false ?hw ?hv ?_); (case hw => assumption); (case hv => exact (by decide +kernel)))))
local macro_rules | `(tactic| walk_at "om") => `(tactic| first | omega | (simp only [List.length_cons, List.length_nil, List.length_map, List.length_append, List.length_range]; omega))
local macro_rules | `(tactic| walk_at "d") => `(tactic| (first
  | ((with_reducible refine' i_dt ?hv ?_); (case hv => walk_at "om"))
  | ((with_reducible refine' i_df ?hv ?_); (case hv => walk_at "om"))
  | ((with_reducible refine' i_ndt ?hv ?_); (case hv => walk_at "om"))
  | ((with_reducible refine' i_ndf ?hv ?_); (case hv => walk_at "om"))))
local macro_rules | `(tactic| walk_at "x") => `(tactic| first
  | ((with_reducible refine' o_ixA ?hv ?hw ?_); (case hv => assumption); (case hw => exact rfl))
  | ((with_reducible refine' o_ixU ?hv ?hw ?_); (case hv => assumption); (case hw => exact rfl))
  | ((with_reducible refine' o_ixL ?hv ?hw ?_); (case hv => assumption); (case hw => exact rfl))
  | ((with_reducible refine' o_ixT ?hv ?hw ?_); (case hv => assumption); (case hw => exact rfl))
  | ((with_reducible refine' set_ ?hv ?hw ?_); (case hv => assumption); (case hw => exact rfl))
  | ((with_reducible refine' e_lenM ?hv ?_); (case hv => first | assumption | exact slO (by assumption)))
  | ((with_reducible refine' e_lenN ?hv ?_); (case hv => first | assumption | exact stO (by assumption)))
  | ((with_reducible refine' e_lenL ?hv ?_); (case hv => first | assumption | exact slO (by assumption)))
  | ((with_reducible refine' e_lenT ?hv ?_); (case hv => first | assumption | exact stO (by assumption))))
local macro_rules | `(tactic| walk_at "c") => `(tactic| first
  | ((with_reducible refine' c_listL ?hv ?_); (case hv => assumption))
  | ((with_reducible refine' c_listT ?hv ?_); (case hv => assumption))
  | ((with_reducible refine' c_tupL ?hv ?_); (case hv => first | assumption | exact slO (by assumption)))
  | ((with_reducible refine' c_tupT ?hv ?_); (case hv => assumption))
  | ((with_reducible refine' t_lst ?hv ?_); (case hv => first | assumption | exact slO (by assumption)))
  | ((with_reducible refine' t_tup ?hv ?_); (case hv => assumption))
  | ((with_reducible refine' r_sl ?hv ?_); (case hv => first | assumption | exact slO (by assumption)))
  | ((with_reducible refine' o_inL ?hv ?_); (case hv => first | assumption | exact slO (by assumption)))
  | ((with_reducible refine' o_inT ?hv ?_); (case hv => first | assumption | exact stO (by assumption)))
  | ((with_reducible refine' o_niL ?hv ?_); (case hv => first | assumption | exact slO (by assumption)))
  | ((with_reducible refine' o_niT ?hv ?_); (case hv => first | assumption | exact stO (by assumption)))
  | ((with_reducible refine' ty_lst ?hv ?_); (case hv => assumption)))
local macro_rules | `(tactic| walk_at "mo") => `(tactic| repeat' (first | exact m_yes | exact m_var | exact m_c | exact m_I0 | exact m_I | exact m_ix | exact m_add | exact m_in | exact m_int1 | exact m_abs | exact m_nil | refine' m_and ?_ ?_ | refine' m_test ?_ | refine' m_tB ?_ | refine' m_op ?_ ?_ ?_ | refine' m_cons ?_ ?_ | refine' m_cb ?_ ?_))
local macro_rules | `(tactic| walk_at "go") => `(tactic| repeat' (first | walk_at "s" | walk_at "v" | walk_at "a" | walk_at "x" | walk_at "m" | walk_at "c" | walk_at "i" | walk_at "d"))

section
variable {P : Program} {w : World} {K : PySem.W.Frag} {mg : Str → Option Value} {base : Heap}
def sp_no_lot (K : PySem.W.Frag) : Sp := fun vs H Q _ => ∃ (B : Bg) (a : Addr) (ms : List Int), vs = [.ref B.hd, .ref a] ∧ BagAt K H B ∧ SqT K H a (ms.map V.int) ∧ ms.length ≤ 40 ∧
  ∀ x d H', Hs K B H H' → ThingOk K B.hd H' x d → Q x H'
theorem items_int {hd : Addr} {H : Hp} {ms : List Int} : ∀ y ∈ ms.map V.int, ItemOk K hd H y := fun y hy => by
  obtain ⟨i, _, e⟩ := List.mem_map.mp hy
  subst e; exact .int
theorem thing_of {hd a : Addr} {H : Hp} {ys : List V} (h : SqT K H a ys) (hl : ys.length ≤ 1000) (hi : ∀ y ∈ ys, ItemOk K hd H y) : ThingOk K hd H (.ref a) (some ys) := ⟨a, rfl, h, hl, hi⟩
theorem ok_law_no_lot (T : Txt K mg) : FnOk P w K mg base CX0 3 T.law_no_lot.f T.law_no_lot.fd ["bag", "lot"] (sp_no_lot K) := by
  refine T.law_no_lot.F.ok sc_law_no_lot (fun vs H Q E h => ?_) (fun cdv A outer s H vs Q E hr h => ?_)
  · obtain ⟨B, a, ms, rfl, _⟩ := h
    rfl
  · obtain ⟨B, a, ms, rfl, b, hS, hl, k⟩ := h
    refine ⟨_, (pss_cons (ps_set (i := 2) sc_law_no_lot.nd rfl (Or.inl rfl) (pe_call (ok_law_draw T) (hr.mono (by decide)) (by rfl) T.law_draw.g T.law_draw.F.kp T.law_draw.b .nil pass0 (pa_cons (pv 0) (pa_cons pe_int pa_nil))))
    (pss_cons (ps_set (i := 3) sc_law_no_lot.nd rfl (Or.inl rfl) (pe_call (ok_law_draw T) (hr.mono (by decide)) (by rfl) T.law_draw.g T.law_draw.F.kp T.law_draw.b .nil pass0 (pa_cons (pv 0) (pa_cons (pe_op (oAddT (K := K)) (pe_callB (cLen (K := K)) (by rfl) T.z_len PySem.boot_len (pa_cons (pv 1) pa_nil)) pe_int) pa_nil))))
    (pss_cons (ps_if (pt_cmpR (oEq (K := K) hr.units) (pv 2) pe_int (nomark _)) (pss_one (ps_ret (pe_callTy (cListOf (K := K)) (by rfl) T.z_list (by decide +kernel) (pa_cons (pv 1) pa_nil)))) pss_nil)
    (pss_cons (ps_if (pt_cmpR (oEq (K := K) hr.units) (pv 2) pe_int (nomark _)) (pss_one (ps_ret (pe_revT (K := K) (pv 1)))) pss_nil)
    (pss_cons (ps_if (pt_cmpR (oEq (K := K) hr.units) (pv 2) pe_int (nomark _)) (pss_one (ps_ret (pe_op (oAddT (K := K)) (pe_slice (slA (K := K)) (pv 1) po_none (po_some (pv 3))) (pe_slice (slA (K := K)) (pv 1) (po_some (pe_callB (cMax2 rfl) (by rfl) T.z_max (by decide +kernel) (pa_cons pe_int (pa_cons (pe_op op_sub (pv 3) pe_int) pa_nil)))) po_none)))) pss_nil)
    (pss_cons (ps_if (pt_cmpR (oEq (K := K) hr.units) (pv 2) pe_int (nomark _)) (pss_cons (ps_set (i := 4) sc_law_no_lot.nd rfl (Or.inl rfl) (pe_ix (ixLT (K := K)) (pe_lst (pa_cons pe_int (pa_cons (pe_un un_neg pe_int) (pa_cons (pe_op op_pow pe_int pe_int) (pa_cons (pe_op op_pow pe_int pe_int) pa_nil))))) (pe_call (ok_law_draw T) (hr.mono (by decide)) (by rfl) T.law_draw.g T.law_draw.F.kp T.law_draw.b .nil pass0 (pa_cons (pv 0) (pa_cons pe_int pa_nil))) (fun _ _ => rfl)))
    (pss_one (ps_ret (pe_callTy (cTupOf (K := K)) (by rfl) T.z_tuple (by decide +kernel) (pa_cons (pe_callB (cSortI (K := K)) (by rfl) T.z_sorted (by decide +kernel) (pa_cons (pe_op (oAddT (K := K)) (pe_callTy (cListOf (K := K)) (by rfl) T.z_list (by decide +kernel) (pa_cons (pv 1) pa_nil)) (pe_lst (pa_cons (pv 4) pa_nil))) pa_nil)) pa_nil))))) pss_nil)
    (pss_cons (ps_if (pt_cmpR (oEq (K := K) hr.units) (pv 2) pe_int (nomark _)) (pss_one (ps_ret (pe_op (oAddT (K := K)) (pe_tup (pa_cons pe_bl pa_nil)) (pe_slice (slA (K := K)) (pv 1) (po_some pe_int) po_none)))) pss_nil)
    (pss_cons (ps_if (pt_cmpR (oEq (K := K) hr.units) (pv 2) pe_int (nomark _)) (pss_one (ps_ret (pe_op (oAddT (K := K)) (pe_op (oAddT (K := K)) (pe_slice (slA (K := K)) (pv 1) po_none (po_some (pv 3))) (pe_tup (pa_cons (pe_ix (ixLT (K := K)) (pe_lst (pa_cons pe_str (pa_cons pe_non (pa_cons (pe_tup (pa_cons pe_int pa_nil)) (pa_cons (pe_lst (pa_cons pe_int pa_nil)) (pa_cons (pe_tup pa_nil) pa_nil)))))) (pe_call (ok_law_draw T) (hr.mono (by decide)) (by rfl) T.law_draw.g T.law_draw.F.kp T.law_draw.b .nil pass0 (pa_cons (pv 0) (pa_cons pe_int pa_nil))) (fun _ _ => rfl)) pa_nil))) (pe_slice (slA (K := K)) (pv 1) (po_some (pv 3)) po_none)))) pss_nil)
    (pss_cons (ps_if (pt_cmpR (oEq (K := K) hr.units) (pv 2) pe_int (nomark _)) (pss_one (ps_ret (pe_op (oAddT (K := K)) (pe_op (oAddT (K := K)) (pe_slice (slA (K := K)) (pv 1) po_none (po_some (pv 3))) (pe_tup (pa_cons (pe_call (ok_law_draw T) (hr.mono (by decide)) (by rfl) T.law_draw.g T.law_draw.F.kp T.law_draw.b .nil pass0 (pa_cons (pv 0) (pa_cons pe_int pa_nil))) pa_nil))) (pe_slice (slA (K := K)) (pv 1) (po_some (pe_op (oAddT (K := K)) (pv 3) pe_int)) po_none)))) pss_nil)
    (pss_cons (ps_if (pt_cmpR (oEq (K := K) hr.units) (pv 2) pe_int (nomark _)) (pss_one (ps_ret (pe_tup (pa_cons (pv 1) pa_nil)))) pss_nil)
    (pss_one (ps_ret (pe_ix (ixLT (K := K)) (pe_lst (pa_cons pe_non (pa_cons pe_bl (pa_cons pe_int (pa_cons pe_str (pa_cons pe_str (pa_cons pe_dnewK (pa_cons (pe_disp (pps_cons pe_int pe_int pps_nil) (by rfl) (by rfl) (fun z => by cases z) (by decide)) pa_nil)))))))) (pe_call (ok_law_draw T) (hr.mono (by decide)) (by rfl) T.law_draw.g T.law_draw.F.kp T.law_draw.b .nil pass0 (pa_cons (pv 0) (pa_cons pe_int pa_nil))) (fun _ _ => rfl)))))))))))))), ?_⟩
    walk_at "go"
    refine ⟨B, _, rfl, b, by omega, by omega, fun r1 H1 r10 r11 hs1 => ?_⟩
    have hS1 := hs1.st b hS
    walk_at "go"
    refine ⟨B, _, rfl, hs1.b, by omega, by omega, fun r2 H2 r20 r21 hs2 => ?_⟩
    have hS2 := hs2.st hs1.b hS1
    have hh2 := hs1.trans hs2
    have b2 := hh2.b
    have ml : (ms.map V.int).length ≤ 40 := by rw [List.length_map]; exact hl
    walk_at "go"
    refine i_d (fun q0 => ?_) (fun q0 => ?_)
    · walk_at "go"
      refine n_new0 fun p H3 n3 s3 h3 => ?_
      exact k _ none H3 (hh2.trans (Hs.of b2 s3)) (.inr ⟨p, rfl, .inl ⟨_, slO h3, new_ne b2 n3⟩⟩)
    walk_at "go"
    refine i_d (fun q1 => ?_) (fun q1 => ?_)
    · walk_at "go"
      refine r_revT hS2 (n_new0 fun p H3 n3 s3 h3 => ?_)
      exact k _ (some _) H3 (hh2.trans (Hs.of b2 s3)) (thing_of (stO h3) (by rw [List.length_reverse]; omega) fun y hy => items_int y (List.mem_reverse.mp hy))
    walk_at "go"
    refine i_d (fun q2 => ?_) (fun q2 => ?_)
    · walk_at "go"
      refine r_slA hS2 fun p3 H3 y3 s3 h3 l3 m3 => ?_
      have hS3 := st_ s3 hS2
      walk_at "go"
      refine r_slA hS3 fun p4 H4 y4 s4 h4 l4 m4 => ?_
      walk_at "go"
      refine o_catA (st_ s4 h3) h4 (by omega) fun p5 H5 s5 h5 => ?_
      exact k _ (some _) H5 (hh2.trans (Hs.of b2 (s3.trans (s4.trans s5)))) (thing_of h5 (by rw [List.length_append]; omega) fun y hy => items_int y ((List.mem_append.mp hy).elim (m3 y) (m4 y)))
    walk_at "go"
    refine i_d (fun q3 => ?_) (fun q3 => ?_)
    · walk_at "go"
      refine n_new (le_size (by simp)) fun p3 H3 n3 s3 h3 => ?_
      have b3 := bag_same b2 s3
      walk_at "go"
      refine ⟨B, _, rfl, b3, by omega, by omega, fun r4 H4 r40 r41 hs4 => ?_⟩
      have h4 := hs4.ls (new_ne b2 n3) h3
      have hh4 := hh2.trans ((Hs.of b2 s3).trans hs4)
      have hS4 := hs4.st b3 (st_ s3 hS2)
      obtain ⟨M, hM⟩ : ∃ M : Int, atI [V.int 0, V.int (-1), V.int 1000000000000000000, V.int 1000000000000000000000000000000] r4 = some (.int M) := by
        rcases (show r4 = 0 ∨ r4 = 1 ∨ r4 = 2 ∨ r4 = 3 by omega) with e | e | e | e <;> subst e <;> exact ⟨_, rfl⟩
      refine o_ixA h4 hM ?_
      walk_at "go"
      refine n_new0 fun p5 H5 n5 s5 h5 => ?_
      walk_at "go"
      refine n_new (le_size (by simp)) fun p6 H6 n6 s6 h6 => ?_
      have h56 := at_ s6 h5
      walk_at "go"
      refine o_cat h56 h6 (by simp; omega) (n_new0 fun p7 H7 n7 s7 h7 => ?_)
      rw [show ms.map V.int ++ [V.int M] = (ms ++ [M]).map V.int by rw [List.map_append]; rfl] at h7
      walk_at "go"
      refine c_sortI (slO h7) fun ns p8 H8 w1 w2 n8 s8 h8 => ?_
      walk_at "go"
      refine n_new0 fun p9 H9 n9 s9 h9 => ?_
      exact k _ (some _) H9 (hh4.trans (Hs.of hh4.b (s5.trans (s6.trans (s7.trans (s8.trans s9)))))) (thing_of (stO h9) (by rw [List.length_map, w1.length_eq]; simp; omega) items_int)
    walk_at "go"
    refine i_d (fun q4 => ?_) (fun q4 => ?_)
    · walk_at "go"
      refine n_new (le_size (by simp)) fun p3 H3 n3 s3 h3 => ?_
      have hS3 := st_ s3 hS2
      walk_at "go"
      refine r_slA hS3 fun p4 H4 y4 s4 h4 l4 m4 => ?_
      walk_at "go"
      refine o_catA (stO (at_ s4 h3)) h4 (by simp; omega) fun p5 H5 s5 h5 => ?_
      exact k _ (some _) H5 (hh2.trans (Hs.of b2 (s3.trans (s4.trans s5)))) (thing_of h5 (by rw [List.length_append]; simp; omega) fun y hy => (List.mem_append.mp hy).elim (fun e => by rw [List.mem_singleton.mp e]; exact .inl rfl) fun e => items_int y (m4 y e))
    walk_at "go"
    refine i_d (fun q5 => ?_) (fun q5 => ?_)
    · walk_at "go"
      refine r_slA hS2 fun p3 H3 y3 s3 h3 l3 m3 => ?_
      have hS3 := st_ s3 hS2
      have b3 := bag_same b2 s3
      walk_at "go"
      refine n_new (le_size (by simp)) fun u1 G1 un1 us1 uh1 => ?_
      walk_at "go"
      refine n_new (le_size (by simp)) fun u2 G2 un2 us2 uh2 => ?_
      walk_at "go"
      refine n_new (le_size (by simp)) fun u3 G3 un3 us3 uh3 => ?_
      walk_at "go"
      refine n_new (le_size (by simp)) fun u4 G4 un4 us4 uh4 => ?_
      have bG := bag_same b3 (us1.trans (us2.trans (us3.trans us4)))
      have bG1 := bag_same b3 us1
      walk_at "go"
      refine ⟨B, _, rfl, bG, by omega, by omega, fun r5 H5 r50 r51 hs5 => ?_⟩
      have hu4 := hs5.ls (new_ne (bag_same b3 (us1.trans (us2.trans us3))) un4) uh4
      have hu1 := hs5.st bG (st_ (us2.trans (us3.trans us4)) (stO uh1))
      have hu2 := hs5.sl (new_ne bG1 un2) (sl_ (us3.trans us4) (slO uh2))
      have hu3 := hs5.st bG (st_ us4 (stO uh3))
      have hh5 := hh2.trans ((Hs.of b2 (s3.trans (us1.trans (us2.trans (us3.trans us4))))).trans hs5)
      have hx3 := hs5.st bG (st_ (us1.trans (us2.trans (us3.trans us4))) h3)
      have hS5 := hs5.st bG (st_ (us1.trans (us2.trans (us3.trans us4))) hS3)
      obtain ⟨y, hy, hyI⟩ : ∃ y, atI [V.str "1", V.non, V.ref u1, V.ref u2, V.ref u3] r5 = some y ∧ ItemOk K B.hd H5 y := by
        rcases (show r5 = 0 ∨ r5 = 1 ∨ r5 = 2 ∨ r5 = 3 ∨ r5 = 4 by omega) with e | e | e | e | e <;> subst e
        · exact ⟨_, rfl, .inl rfl⟩
        · exact ⟨_, rfl, .inl rfl⟩
        · exact ⟨_, rfl, .inr ⟨_, rfl, .inl ⟨_, hu1⟩⟩⟩
        · exact ⟨_, rfl, .inr ⟨_, rfl, .inr ⟨_, hu2, new_ne bG1 un2⟩⟩⟩
        · exact ⟨_, rfl, .inr ⟨_, rfl, .inl ⟨_, hu3⟩⟩⟩
      refine o_ixA hu4 hy ?_
      walk_at "go"
      refine n_new (le_size (by simp)) fun p6 H6 n6 s6 h6 => ?_
      walk_at "go"
      refine o_catA (st_ s6 hx3) (stO h6) (by simp; omega) fun p7 H7 s7 h7 => ?_
      have hS7 := st_ (s6.trans s7) hS5
      walk_at "go"
      refine r_slA hS7 fun p8 H8 y8 s8 h8 l8 m8 => ?_
      walk_at "go"
      refine o_catA (st_ s8 h7) h8 (by simp; omega) fun p9 H9 s9 h9 => ?_
      have s59 := s6.trans (s7.trans (s8.trans s9))
      exact k _ (some _) H9 (hh5.trans (Hs.of hh5.b s59)) (thing_of h9 (by simp; omega) fun z hz => (List.mem_append.mp hz).elim (fun e => (List.mem_append.mp e).elim (fun e => items_int z (m3 z e)) fun e => by rw [List.mem_singleton.mp e]; exact hyI.same s59) fun e => items_int z (m8 z e))
    walk_at "go"
    refine i_d (fun q6 => ?_) (fun q6 => ?_)
    · walk_at "go"
      refine r_slA hS2 fun p3 H3 y3 s3 h3 l3 m3 => ?_
      have b3 := bag_same b2 s3
      walk_at "go"
      refine ⟨B, _, rfl, b3, by omega, by omega, fun r5 H5 r50 r51 hs5 => ?_⟩
      have hh5 := hh2.trans ((Hs.of b2 s3).trans hs5)
      have hx3 := hs5.st b3 h3
      have hS5 := hs5.st b3 (st_ s3 hS2)
      walk_at "go"
      refine n_new (le_size (by simp)) fun p6 H6 n6 s6 h6 => ?_
      walk_at "go"
      refine o_catA (st_ s6 hx3) (stO h6) (by simp; omega) fun p7 H7 s7 h7 => ?_
      have hS7 := st_ (s6.trans s7) hS5
      walk_at "go"
      refine r_slA hS7 fun p8 H8 y8 s8 h8 l8 m8 => ?_
      walk_at "go"
      refine o_catA (st_ s8 h7) h8 (by simp; omega) fun p9 H9 s9 h9 => ?_
      have s59 := s6.trans (s7.trans (s8.trans s9))
      exact k _ (some _) H9 (hh5.trans (Hs.of hh5.b s59)) (thing_of h9 (by simp; omega) fun z hz => (List.mem_append.mp hz).elim (fun e => (List.mem_append.mp e).elim (fun e => items_int z (m3 z e)) fun e => by rw [List.mem_singleton.mp e]; exact .int) fun e => items_int z (m8 z e))
    walk_at "go"
    refine i_d (fun q7 => ?_) (fun q7 => ?_)
    · walk_at "go"
      refine n_new (le_size (by simp)) fun p3 H3 n3 s3 h3 => ?_
      exact k _ (some _) H3 (hh2.trans (Hs.of b2 s3)) (thing_of (stO h3) (by simp) fun z hz => by rw [List.mem_singleton.mp hz]; exact .inr ⟨a, rfl, .inl ⟨_, st_ s3 hS2⟩⟩)
    walk_at "go"
    refine e_dnew fun p3 H3 n3 s3 h3 => ?_
    refine e_disp1 fun p4 H4 n4 s4 h4 => ?_
    walk_at "go"
    refine n_new (le_size (by simp)) fun p5 H5 n5 s5 h5 => ?_
    have b5 := bag_same b2 (s3.trans (s4.trans s5))
    walk_at "go"
    refine ⟨B, _, rfl, b5, by omega, by omega, fun r6 H6 r60 r61 hs6 => ?_⟩
    have hu5 := hs6.ls (new_ne (bag_same b2 (s3.trans s4)) n5) h5
    have u3 := new_ne b2 n3
    have u4 := new_ne (bag_same b2 s3) n4
    have hu3 := hs6.o _ _ u3 (at_ (s4.trans s5) h3)
    have hu4 := hs6.o _ _ u4 (at_ s5 h4)
    have hh6 := hh2.trans ((Hs.of b2 (s3.trans (s4.trans s5))).trans hs6)
    have fin : ∀ x, NoTup K B.hd H6 x → atI [V.non, V.bl true, V.int 1, V.str "", V.str "(1,)", V.ref p3, V.ref p4] r6 = some x → rIxLT K (.ref p5) (.int r6) H6 Q := fun x h e => o_ixA hu5 e (k x none H6 hh6 h)
    rcases (show r6 = 0 ∨ r6 = 1 ∨ r6 = 2 ∨ r6 = 3 ∨ r6 = 4 ∨ r6 = 5 ∨ r6 = 6 by omega) with e | e | e | e | e | e | e <;> subst e
    · exact fin _ (.inl rfl) rfl
    · exact fin _ (.inl rfl) rfl
    · exact fin _ (.inl rfl) rfl
    · exact fin _ (.inl rfl) rfl
    · exact fin _ (.inl rfl) rfl
    · exact fin _ (.inr ⟨p3, rfl, .inr ⟨_, hu3, u3⟩⟩) rfl
    · exact fin _ (.inr ⟨p4, rfl, .inr ⟨_, hu4, u4⟩⟩) rfl
end
end Vw

set_option Elab.async false
set_option linter.all false
set_option maxRecDepth 100000
set_option maxHeartbeats 4000000
namespace Vw
open PySem PySem.Spec PyProof.Rows L2 RT
local macro_rules | `(tactic| walk_at "s") => `(tactic| with_reducible first
  | refine' s_seq ?_ | refine' s_next ?_ | refine' s_set ?_ | refine' s_ret ?_ | refine' s_retN ?_ | refine' s_drop ?_ | refine' s_if ?_ | refine' s_ipI ?_
  | refine' e_c ?_ | refine' e_op ?_ | refine' e_un ?_ | refine' e_neg ?_ | refine' e_test ?_ | refine' e_tB ?_ | refine' e_bl ?_ | refine' e_and ?_ | refine' e_or ?_ | refine' e_not ?_
  | refine' e_andV ?_ | refine' e_orV ?_ | refine' e_notV ?_ | refine' e_kV ?_ | refine' e_ife ?_ | refine' e_nil ?_ | refine' e_cons ?_ | refine' e_cb ?_ | refine' e_call ?_ | refine' e_chain ?_
  | refine' o_addI ?_ | refine' o_eqI ?_ | refine' o_neI ?_ | refine' o_I0 ?_ | refine' o_pow16 ?_ | refine' o_pow17 ?_ | refine' o_pow18 ?_ | refine' o_pow19 ?_ | refine' o_pow30 ?_ | refine' o_pow31 ?_ | refine' o_pow1 ?_ | refine' o_pow2 ?_ | refine' o_pow3 ?_ | refine' o_pow4 ?_ | refine' o_pow5 ?_ | refine' o_pow6 ?_ | refine' o_pow9 ?_ | refine' o_pow10 ?_ | refine' o_pow12 ?_ | refine' o_pow15 ?_ | refine' o_pow20 ?_ | refine' e_lst ?_ | refine' e_tup ?_ | refine' iteT ?_ | refine' i_nt ?_ | refine' i_nf ?_ | refine' iteF ?_ | refine' c_int ?_ | refine' c_abs ?_ | refine' c_min2 ?_ | refine' c_max2 ?_ | refine' e_tru ?_ | refine' t_bl ?_ | refine' t_non ?_ | refine' t_int ?_ | refine' isN_non ?_ | refine' isN_int ?_ | refine' isN_ref ?_ | refine' isN_str ?_ | refine' isN_bl ?_ | refine' noN_non ?_ | refine' noN_int ?_ | refine' noN_ref ?_ | refine' noN_str ?_ | refine' noN_bl ?_
  | refine' s_brk ?_ | refine' s_cont ?_ | refine' s_for ?_ | refine' e_lc ?_ | refine' e_dc ?_ | refine' e_yes ?_ | refine' i_rng1 ?_ | refine' i_lst0 ?_ | refine' i_tup0 ?_ | refine' e_bm ?_ | refine' e_sl ?_ | refine' e_np ?_ | refine' e_pt ?_ | refine' e_ptI ?_ | refine' e_din ?_ | refine' i_enum0 ?_ | refine' i_rev0 ?_ | refine' g_sub ?_ | refine' s_asg ?_ | refine' i_zip0 ?_ | refine' e_revT ?_ | refine' isB_bl ?_ | refine' notB_bl ?_ | refine' o_neB ?_)
local macro_rules | `(tactic| walk_at "v") => `(tactic| ((with_reducible refine' e_var ?hv ?_); (case hv => exact rfl)))
local macro_rules | `(tactic| walk_at "a") => `(tactic| ((with_reducible refine' s_aug ?hv ?_); (case hv => exact rfl)))
local macro_rules | `(tactic| walk_at "m") => `(tactic| first
  | ((with_reducible refine' o_mod ?hv ?_); (case hv => first | decide | omega))
  | ((with_reducible refine' o_mulR ?hv ?_); (case hv => omega))
  | ((with_reducible refine' o_mulL ?hv ?_); (case hv => omega))
  | ((with_reducible refine' o_div ?hv ?hw ?_); (case hv => omega); (case hw => omega))
  | ((with_reducible refine' o_pow _ ?hv ?hw ?hx ?_); (case hv => exact rfl); (case hw => decide); (case hx => decide)))
local macro_rules | `(tactic| walk_at "i") => `(tactic| (first
  | ((with_reducible refine' isi_int true ?hv ?_); (case hv => exact (by decide +kernel)))
  | ((with_reducible refine' isi_int false ?hv ?_); (case hv => exact (by decide +kernel)))
  | ((with_reducible refine' isi_non true ?hv ?_); (case hv => exact (by decide +kernel)))
  | ((with_reducible refine' isi_non false ?hv ?_); (case hv => exact (by decide +kernel)))
  | ((with_reducible refine' isi_str true ?hv ?_); (case hv => exact (by decide +kernel)))
  | ((with_reducible refine' isi_str false ?hv ?_); (case hv => exact (by decide +kernel)))
  | ((with_reducible refine' isi_bl true ?hv ?_); (case hv => exact (by decide +kernel)))
  | ((with_reducible refine' isi_bl false ?hv ?_); (case hv => exact (by decide +kernel)))
  | ((with_reducible refine' isi_t true ?hw ?hv ?_); (case hw => assumption); (case hv => exact (by decide +kernel)))
  | ((with_reducible refine' isi_t false ?hw ?hv ?_); (case hw => assumption); (case hv => exact (by decide +kernel)))
  | ((with_reducible refine' isi_l true ?hw ?hv ?_); (case hw => assumption); (case hv => exact (by decide +kernel)))
  | ((with_reducible refine' isi_l false ?hw ?hv ?_); (case hw => assumption); (case hv => exact (by decide +kernel)))
  | ((with_reducible refine' isi_tup true ?hw ?hv ?_); (case hw => assumption); (case hv => exact (by decide +kernel)))
  | ((with_reducible refine' isi_tup false ?hw ?hv ?_); (case hw => assumption); (case hv => exact (by decide +kernel)))
  | ((with_reducible refine' isi_lst true ?hw ?hv ?_); (case hw => assumption); (case hv => exact (by decide +kernel)))
  | ((with_reducible refine' isi_lst false ?hw ?hv ?_); (case hw => assumption); (case hv => exact (by decide +kernel)))))
local macro_rules | `(tactic| walk_at "om") => `(tactic| first | omega | (simp only [List.length_cons, List.length_nil, List.length_map, List.length_append, List.length_range]; omega))
local macro_rules | `(tactic| walk_at "d") => `(tactic| (first
  | ((with_reducible refine' i_dt ?hv ?_); (case hv => walk_at "om"))
  | ((with_reducible refine' i_df ?hv ?_); (case hv => walk_at "om"))
  | ((with_reducible refine' i_ndt ?hv ?_); (case hv => walk_at "om"))
  | ((with_reducible refine' i_ndf ?hv ?_); (case hv => walk_at "om"))))
local macro_rules | `(tactic| walk_at "x") => `(tactic| first
  | ((with_reducible refine' o_ixA ?hv ?hw ?_); (case hv => assumption); (case hw => exact rfl))
  | ((with_reducible refine' o_ixU ?hv ?hw ?_); (case hv => assumption); (case hw => exact rfl))
  | ((with_reducible refine' o_ixL ?hv ?hw ?_); (case hv => assumption); (case hw => exact rfl))
  | ((with_reducible refine' o_ixT ?hv ?hw ?_); (case hv => assumption); (case hw => exact rfl))
  | ((with_reducible refine' set_ ?hv ?hw ?_); (case hv => assumption); (case hw => exact rfl))
  | ((with_reducible refine' e_lenM ?hv ?_); (case hv => first | assumption | exact slO (by assumption)))
  | ((with_reducible refine' e_lenN ?hv ?_); (case hv => first | assumption | exact stO (by assumption)))
  | ((with_reducible refine' e_lenL ?hv ?_); (case hv => first | assumption | exact slO (by assumption)))
  | ((with_reducible refine' e_lenT ?hv ?_); (case hv => first | assumption | exact stO (by assumption))))
local macro_rules | `(tactic| walk_at "c") => `(tactic| first
  | ((with_reducible refine' c_listL ?hv ?_); (case hv => assumption))
  | ((with_reducible refine' c_listT ?hv ?_); (case hv => assumption))
  | ((with_reducible refine' c_tupL ?hv ?_); (case hv => first | assumption | exact slO (by assumption)))
  | ((with_reducible refine' c_tupT ?hv ?_); (case hv => assumption))
  | ((with_reducible refine' t_lst ?hv ?_); (case hv => first | assumption | exact slO (by assumption)))
  | ((with_reducible refine' t_tup ?hv ?_); (case hv => assumption))
  | ((with_reducible refine' r_sl ?hv ?_); (case hv => first | assumption | exact slO (by assumption)))
  | ((with_reducible refine' o_inL ?hv ?_); (case hv => first | assumption | exact slO (by assumption)))
  | ((with_reducible refine' o_inT ?hv ?_); (case hv => first | assumption | exact stO (by assumption)))
  | ((with_reducible refine' o_niL ?hv ?_); (case hv => first | assumption | exact slO (by assumption)))
  | ((with_reducible refine' o_niT ?hv ?_); (case hv => first | assumption | exact stO (by assumption)))
  | ((with_reducible refine' ty_lst ?hv ?_); (case hv => assumption)))
local macro_rules | `(tactic| walk_at "mo") => `(tactic| repeat' (first | exact m_yes | exact m_var | exact m_c | exact m_I0 | exact m_I | exact m_ix | exact m_add | exact m_in | exact m_int1 | exact m_abs | exact m_nil | refine' m_and ?_ ?_ | refine' m_test ?_ | refine' m_tB ?_ | refine' m_op ?_ ?_ ?_ | refine' m_cons ?_ ?_ | refine' m_cb ?_ ?_))
local macro_rules | `(tactic| walk_at "go") => `(tactic| repeat' (first | walk_at "s" | walk_at "v" | walk_at "a" | walk_at "x" | walk_at "m" | walk_at "c" | walk_at "i" | walk_at "d"))

section
variable {P : Program} {w : World} {K : PySem.W.Frag} {mg : Str → Option Value} {base : Heap}
def lotLD (cs : List Int) : Option (List V) → Bool
  | none => false
  | some ys => lotL cs 0 ys
def sp_law_is_lot (K : PySem.W.Frag) : Sp := fun vs H Q _ => ∃ x hd d b, ∃ cs : List Int, vs = [x, .ref b] ∧ ThingOk K hd H x d ∧ SqL K H b (cs.map V.int) ∧ Q (.bl (lotLD cs d)) H
theorem ok_law_is_lot (T : Txt K mg) : FnOk P w K mg base CX0 1 T.law_is_lot.f T.law_is_lot.fd ["thing", "commits"] (sp_law_is_lot K) := by
  refine T.law_is_lot.F.ok sc_law_is_lot (fun vs H Q E h => ?_) (fun cdv A outer s H vs Q E hr h => ?_)
  · obtain ⟨x, hd, d, b, cs, rfl, _⟩ := h
    rfl
  · obtain ⟨x, hd, d, b, cs, rfl, hT, hC, k⟩ := h
    refine ⟨_, (pss_cons (ps_if (pt_not (ptTruth (K := K) (pe_callB (cIsi (K := K)) (by rfl) T.z_isinstance (by decide +kernel) (pa_cons (pv 0) (pa_cons (pe_bltn (v := .ty "tuple") (by rfl) T.z_tuple (by decide +kernel) rfl) pa_nil))) (by intro _; rfl))) (pss_one (ps_ret pe_bl)) pss_nil)
    (pss_cons (ps_set (i := 2) sc_law_is_lot.nd rfl (Or.inl rfl) pe_int)
    (pss_cons (ps_for PassesOwn.never rfl (piT (K := K) (pv 0)) (pg_name (i := 3) sc_law_is_lot.nd rfl (Or.inl rfl))
      (pss_cons (ps_if (PW.pt (pw_or (pt_not (ptTruth (K := K) (pe_callB (cIsi (K := K)) (by rfl) T.z_isinstance (by decide +kernel) (pa_cons (pv 3) (pa_cons (pe_bltn (v := .ty "int") (by rfl) T.z_int (by decide +kernel) rfl) pa_nil))) (by intro _; rfl))) (pw_or (ptTruth (K := K) (pe_callB (cIsi (K := K)) (by rfl) T.z_isinstance (by decide +kernel) (pa_cons (pv 3) (pa_cons (pe_bltn (v := .ty "bool") (by rfl) T.z_bool (by decide +kernel) rfl) pa_nil))) (by intro _; rfl)) (pw_or (pt_cmpR op_le (pv 3) (pv 2) (nomark _)) (pw_or1 (pt_cmpR (oNotIn (K := K)) (pv 3) (pv 1) (by rfl))))))) (pss_one (ps_ret pe_bl)) pss_nil)
    (pss_one (ps_set (i := 2) sc_law_is_lot.nd rfl (Or.inl rfl) (pv 3)))))
    (pss_one (ps_ret pe_bl))))), ?_⟩
    walk_at "go"
    cases d with
    | none =>
      rcases hT with hp | ⟨a, rfl, ⟨ys, hp, _⟩ | ⟨kvs, hp, _⟩⟩
      · cases x with
        | int a => walk_at "go"; exact k
        | non => walk_at "go"; exact k
        | bl b => walk_at "go"; exact k
        | str z => walk_at "go"; exact k
        | _ => cases hp
      · walk_at "go"
        exact k
      · refine isi_dk false hp (by decide +kernel) ?_
        walk_at "go"
        exact k
    | some ys =>
      obtain ⟨a, rfl, hS, hl, hI⟩ := hT
      walk_at "go"
      refine i_tup hS ?_
      refine l_tup (xs := ys) (fun i σ H' => H' = H ∧ ∃ (A : Int) (y : Option V), σ = [some (.ref a), some (.ref b), some (.int A), y] ∧ lotL cs A (ys.drop i) = lotL cs 0 ys) ⟨rfl, 0, none, rfl, rfl⟩ (fun i σ H' hi p => by rw [p.1]; exact hS) (fun σ H' p => ?_) (fun i x σ H' hx p => ?_)
      · obtain ⟨e1, A, y, rfl, e2⟩ := p
        subst e1
        rw [List.drop_length] at e2
        have e3 : lotLD cs (some ys) = true := e2.symm
        rw [e3] at k
        walk_at "go"
        exact k
      · obtain ⟨e1, A, y, rfl, e2⟩ := p
        subst e1
        have hi : i < ys.length := (List.getElem?_eq_some_iff.mp hx).1
        have ex : ys[i] = x := (List.getElem?_eq_some_iff.mp hx).2
        rw [List.drop_eq_getElem_cons hi, ex] at e2
        have no : lotL cs A (x :: ys.drop (i + 1)) = false → Q (.bl false) H' := fun z => by
          have e3 : lotLD cs (some ys) = false := by rw [← z, e2]; rfl
          rw [← e3]; exact k
        rcases hI x (List.mem_of_getElem? hx) with hp | ⟨c, rfl, ⟨zs, hp⟩ | ⟨zs, hp, _⟩⟩
        · cases x with
          | int n =>
            have e4 : lotL cs A (V.int n :: ys.drop (i + 1)) = (decide (A < n) && (decide (n ∈ cs) && lotL cs n (ys.drop (i + 1)))) := rfl
            rw [e4] at e2 no
            walk_at "go"
            refine i_d (fun q1 => ?_) (fun q1 => ?_)
            · walk_at "go"
              exact no (by rw [decide_eq_false (show ¬ A < n by omega)]; rfl)
            · walk_at "go"
              refine i_d (fun q2 => ?_) (fun q2 => ?_)
              · walk_at "go"
                exact no (by rw [decide_eq_false q2]; simp)
              · rw [decide_eq_true (show A < n by omega), decide_eq_true (Decidable.of_not_not q2), Bool.true_and, Bool.true_and] at e2
                walk_at "go"
                exact ⟨rfl, n, _, rfl, e2⟩
          | non => walk_at "go"; exact no rfl
          | bl b => walk_at "go"; exact no rfl
          | str z => walk_at "go"; exact no rfl
          | _ => cases hp
        · walk_at "go"
          exact no rfl
        · walk_at "go"
          exact no rfl
def sp_law_seen (K : PySem.W.Frag) : Sp := fun vs H Q _ => ∃ a ps xs s, vs = [.ref a, .int s] ∧ SqL K H a (ps.map V.ref) ∧ PairsAt K H ps xs ∧ Valid xs ∧ Q (seenV ps xs s) H
theorem ok_law_seen (T : Txt K mg) : FnOk P w K mg base CX0 1 T.law_seen.f T.law_seen.fd ["versions", "snapshot"] (sp_law_seen K) := by
  refine T.law_seen.F.ok sc_law_seen (fun vs H Q E h => ?_) (fun cdv A outer s H vs Q E hr h => ?_)
  · obtain ⟨a, ps, xs, s, rfl, _⟩ := h
    rfl
  · obtain ⟨a, ps, xs, s, rfl, hS, hP, hV, k⟩ := h
    refine ⟨_, (pss_cons (ps_for PassesOwn.never rfl (piL (K := K) (pv 0)) (pg_name (i := 2) sc_law_seen.nd rfl (Or.inl rfl))
      (pss_one (ps_if (pt_cmpR op_le (pe_ix (ixLT (K := K)) (pv 2) pe_int (fun _ _ => rfl)) (pv 1) (nomark _)) (pss_one (ps_ret (pv 2))) pss_nil)))
    (pss_one (ps_ret pe_non))), ?_⟩
    have hlen : ps.length = xs.length := hP.1
    walk_at "go"
    refine i_lst hS ?_
    refine l_lst (xs := ps.map V.ref) (fun i σ H' => H' = H ∧ i ≤ fi xs s ∧ ∃ y, σ = [some (.ref a), some (.int s), y]) ⟨rfl, Nat.zero_le _, none, rfl⟩ (fun i σ H' hi p => by rw [p.1]; exact hS) (fun σ H' p => ?_) (fun i x σ H' hx p => ?_)
    · obtain ⟨e1, hf, y, rfl⟩ := p
      subst e1
      rw [List.length_map] at hf
      have e : seenV ps xs s = .non := by unfold seenV; rw [List.getElem?_eq_none hf]
      rw [e] at k
      walk_at "go"
      exact k
    · obtain ⟨e1, hf, y, rfl⟩ := p
      subst e1
      have hi : i < ps.length := by
        have := (List.getElem?_eq_some_iff.mp hx).1
        simpa using this
      have ex : x = .ref ps[i] := by
        rw [List.getElem?_map, List.getElem?_eq_getElem hi] at hx
        exact (Option.some.inj hx).symm
      subst ex
      have hi' : i < xs.length := by omega
      have hv := hP.at hi'
      walk_at "go"
      refine i_d (fun q => ?_) (fun q => ?_)
      · have e0 : fi xs s = i := Nat.le_antisymm (fi_min hi' q) hf
        have e : seenV ps xs s = .ref ps[i] := by unfold seenV; rw [e0, List.getElem?_eq_getElem hi]
        rw [e] at k
        walk_at "go"
        exact k
      · walk_at "go"
        refine ⟨rfl, Nat.lt_of_le_of_ne hf fun z => q ?_, _, rfl⟩
        have := fi_behind hV (s := s) (j := i) (by omega) hi'
        exact this
def sp_enough (K : PySem.W.Frag) : Sp := fun vs H Q _ => ∃ a ps xs b x hd d, ∃ as : List Int, vs = [.ref a, .ref b, x] ∧ SqL K H a (ps.map V.ref) ∧ PairsAt K H ps xs ∧ Valid xs ∧ SqL K H b (as.map V.int) ∧ ThingOk K hd H x d ∧
  ∀ H', Same H H' → Q (.bl (keptR xs as d)) H'
theorem ok_law_is_enough (T : Txt K mg) : FnOk P w K mg base CX0 2 T.law_is_enough.f T.law_is_enough.fd ["versions", "asked", "thing"] (sp_enough K) := by
  refine T.law_is_enough.F.ok sc_law_is_enough (fun vs H Q E h => ?_) (fun cdv A outer s H vs Q E hr h => ?_)
  · obtain ⟨a, ps, xs, b, x, hd, d, as, rfl, _⟩ := h
    rfl
  · obtain ⟨a, ps, xs, b, x, hd, d, as, rfl, hS, hP, hV, hA, hT, k⟩ := h
    refine ⟨_, (pss_cons (ps_if (pt_not (ptTruth (K := K) (pe_call (ok_law_is_lot T) (hr.mono (by decide)) (by rfl) T.law_is_lot.g T.law_is_lot.F.kp T.law_is_lot.b .nil pass0 (pa_cons (pv 2) (pa_cons (pe_lc (own := [("pair", 7)]) rfl sc_law_is_enough.nd (piL (K := K) (pv 0)) (blkOk_by (N := n_law_is_enough) (sc := defScope s_law_is_enough) (by decide +kernel)) (fun _ _ _ _ _ => (pg_name (i := 7) sc_law_is_enough.nd rfl (Or.inl rfl))) (fun _ _ _ _ _ => pts_nil) (fun _ _ _ _ _ => (pe_ix (ixLT (K := K)) (pv 7) pe_int (fun _ _ => rfl)))) pa_nil))) (by intro _; rfl))) (pss_one (ps_ret pe_bl)) pss_nil)
    (pss_cons (ps_setLc (i := 3) (own := [("pair", 7)]) rfl sc_law_is_enough.nd rfl rfl (sw_true rfl rfl rfl (by decide +kernel)) (piL (K := K) (pv 0)) (blkOk_by (N := n_law_is_enough) (sc := defScope s_law_is_enough) (by decide +kernel)) (fun _ _ _ _ _ => (pg_name (i := 7) sc_law_is_enough.nd rfl (Or.inl rfl))) (fun _ _ _ _ _ => (pts_one (pt_cmpR (oIn (K := K)) (pe_ix (ixLT (K := K)) (pv 7) pe_int (fun _ _ => rfl)) (pv 2) (by rfl)))) (fun _ _ _ _ _ => (pv 7)))
    (pss_cons (ps_for PassesOwn.never rfl (piL (K := K) (pv 1)) (pg_name (i := 4) sc_law_is_enough.nd rfl (Or.inl rfl))
      (pss_cons (ps_set (i := 5) sc_law_is_enough.nd rfl (Or.inl rfl) (pe_call (ok_law_seen T) (hr.mono (by decide)) (by rfl) T.law_seen.g T.law_seen.F.kp T.law_seen.b .nil pass0 (pa_cons (pv 0) (pa_cons (pv 4) pa_nil))))
    (pss_cons (ps_set (i := 6) sc_law_is_enough.nd rfl (Or.inl rfl) (pe_call (ok_law_seen T) (hr.mono (by decide)) (by rfl) T.law_seen.g T.law_seen.F.kp T.law_seen.b .nil pass0 (pa_cons (pv 3) (pa_cons (pv 4) pa_nil))))
    (pss_one (ps_if (pt_cmpR oIsN (pv 6) pe_non (nomark _)) (pss_one (ps_if (PW.pt (pw_and (pt_cmpR oNotN (pv 5) pe_non (nomark _)) (pw_and1 (pt_cmpR oNotN (pe_ix (ixLT (K := K)) (pv 5) pe_int (fun _ _ => rfl)) pe_non (nomark _))))) (pss_one (ps_ret pe_bl)) pss_nil)) (pss_one (ps_if (pt_cmpR (oNe (K := K) hr.units) (pe_ix (ixLT (K := K)) (pv 5) pe_int (fun _ _ => rfl)) (pe_ix (ixLT (K := K)) (pv 6) pe_int (fun _ _ => rfl)) (nomark _)) (pss_one (ps_ret pe_bl)) pss_nil)))))))
    (pss_one (ps_ret pe_bl))))), ?_⟩
    have hlen : ps.length = xs.length := hP.1
    have few := hV.few
    walk_at "go"
    refine i_lst hS ?_
    refine c_lst (xs := ps.map V.ref) (fun i acc H' => Same H H' ∧ acc = ((xs.take i).map (·.1)).map V.int) (fun D hD => ⟨upd_free (Same.refl _) hD, rfl⟩) (fun i acc H' hi p => sl_ p.1 hS) (fun acc D H2 hD2 hp p => ?_) (fun _ => rfl) (fun i x acc H' D hx hD2 hp p => ?_)
    rotate_left 1
    · obtain ⟨s2, rfl⟩ := p
      have hi : i < ps.length := by
        have := (List.getElem?_eq_some_iff.mp hx).1
        simpa using this
      have ex : x = .ref ps[i] := by
        rw [List.getElem?_map, List.getElem?_eq_getElem hi] at hx
        exact (Option.some.inj hx).symm
      subst ex
      have hv := (pa_ s2 hP).at (show i < xs.length by omega)
      walk_at "go"
      refine ⟨_, hp, lt_size (by simp; omega), _, upd_same, upd_free s2 hD2, ?_⟩
      rw [List.take_add_one, List.getElem?_eq_getElem (show i < xs.length by omega), List.map_append, List.map_append]; rfl
    obtain ⟨s2, rfl⟩ := p
    rw [List.length_map, hlen, List.take_length] at hp
    walk_at "go"
    refine ⟨x, hd, d, D, xs.map (·.1), rfl, hT.same s2, slO hp, ?_⟩
    have eL : lotLD (xs.map (·.1)) d = match d with | none => false | some ys => (lotV ys && inAll xs (ys.map toI)) := by
      cases d with
      | none => rfl
      | some ys => exact lotL_eq hV ys
    rw [eL]
    cases d with
    | none =>
      walk_at "go"
      exact k _ s2
    | some ys =>
      dsimp only
      have eR : keptR xs as (some ys) = (lotV ys && (inAll xs (ys.map toI) && as.all (okS xs (keptOf xs (ys.map toI))))) := rfl
      rw [eR] at k
      cases e1 : (lotV ys && inAll xs (ys.map toI)) with
      | false =>
        rw [← Bool.and_assoc, e1] at k
        walk_at "go"
        exact k _ s2
      | true =>
        rw [← Bool.and_assoc, e1, Bool.true_and] at k
        obtain ⟨t, rfl, hY, yl, _⟩ := hT.same s2
        have hi := ints_of (Bool.and_eq_true_iff.mp (Bool.and_eq_true_iff.mp e1).1).1
        rw [hi] at hY
        generalize ys.map toI = ms at *
        clear hi e1 eL eR yl
        have hS2 := sl_ s2 hS
        walk_at "go"
        refine i_lst hS2 ?_
        refine c_lst (xs := ps.map V.ref) (fun i acc H' => Same H2 H' ∧ acc = ((((ps.zip xs).take i).filter fun z => decide (z.2.1 ∈ ms)).map (·.1)).map V.ref) (fun D hD => ⟨upd_free (Same.refl _) hD, rfl⟩) (fun i acc H' hi p => sl_ p.1 hS2) (fun acc D2 H3 hD3 hp3 p => ?_) (fun _ => rfl) (fun i x acc H' D2 hx hD3 hp3 p => ?_)
        rotate_left 1
        · obtain ⟨s3, rfl⟩ := p
          have hi : i < ps.length := by
            have := (List.getElem?_eq_some_iff.mp hx).1
            simpa using this
          have ex : x = .ref ps[i] := by
            rw [List.getElem?_map, List.getElem?_eq_getElem hi] at hx
            exact (Option.some.inj hx).symm
          subst ex
          have hz : (ps.zip xs)[i]? = some (ps[i], xs[i]) := by rw [List.getElem?_zip_eq_some]; exact ⟨List.getElem?_eq_getElem hi, List.getElem?_eq_getElem (by omega)⟩
          have hv := (pa_ (s2.trans s3) hP).at (show i < xs.length by omega)
          have hY3 := st_ s3 hY
          have few2 : ((ps.zip xs).take i).length ≤ 1000 := by simp; omega
          walk_at "go"
          refine i_d (fun q => ?_) (fun q => ?_)
          · walk_at "go"
            refine ⟨_, hp3, lt_size (by have := List.length_filter_le (fun z : Addr × (Int × Option Int) => decide (z.2.1 ∈ ms)) ((ps.zip xs).take i); simp at *; omega), _, upd_same, upd_free s3 hD3, ?_⟩
            rw [List.take_add_one, hz, List.filter_append, List.map_append, List.map_append]
            have e : List.filter (fun z : Addr × (Int × Option Int) => decide (z.2.1 ∈ ms)) [(ps[i], xs[i])] = [(ps[i], xs[i])] := by rw [List.filter_cons, if_pos (decide_eq_true q)]; rfl
            show _ = _ ++ List.map V.ref (List.map (·.1) (List.filter _ [(ps[i], xs[i])]))
            rw [e]; rfl
          · refine ⟨_, hp3, s3, ?_⟩
            rw [List.take_add_one, hz, List.filter_append, List.map_append, List.map_append]
            have e : List.filter (fun z : Addr × (Int × Option Int) => decide (z.2.1 ∈ ms)) [(ps[i], xs[i])] = [] := by rw [List.filter_cons, if_neg (by simpa using q)]; rfl
            show _ = _ ++ List.map V.ref (List.map (·.1) (List.filter _ [(ps[i], xs[i])]))
            rw [e]; simp
        obtain ⟨s3, rfl⟩ := p
        have s13 := s2.trans s3
        rw [show (ps.zip xs).take (ps.map V.ref).length = ps.zip xs from List.take_of_length_le (by simp; omega)] at hp3
        have hP3 := pa_ s13 hP
        have PK := pairs_zip hP3 ((ps.zip xs).filter fun z => decide (z.2.1 ∈ ms)) fun z hz => (List.mem_filter.mp hz).1
        rw [kept_zip hlen] at PK
        generalize hkp : ((ps.zip xs).filter fun z => decide (z.2.1 ∈ ms)).map (·.1) = kp at *
        have hVK : Valid (keptOf xs ms) := hV.sub List.filter_sublist
        have hS3 := sl_ s13 hS
        have hA3 := sl_ s13 hA
        walk_at "go"
        refine i_lst hA3 ?_
        refine l_lst (xs := as.map V.int) (fun i σ H' => H' = H3 ∧ (∃ y4 y5 y6 y7, σ = [some (.ref a), some (.ref b), some (.ref t), some (.ref D2), y4, y5, y6, y7]) ∧ (as.take i).all (okS xs (keptOf xs ms)) = true) ⟨rfl, ⟨none, none, none, none, rfl⟩, rfl⟩ (fun i σ H' hi p => by rw [p.1]; exact hA3) (fun σ H' p => ?_) (fun i x σ H' hx p => ?_)
        · obtain ⟨e1, ⟨y4, y5, y6, y7, rfl⟩, e2⟩ := p
          subst e1
          rw [List.length_map, List.take_length] at e2
          rw [e2] at k
          walk_at "go"
          exact k _ s13
        · obtain ⟨e1, ⟨y4, y5, y6, y7, rfl⟩, e2⟩ := p
          subst e1
          have hi : i < as.length := by
            have := (List.getElem?_eq_some_iff.mp hx).1
            simpa using this
          have ex : x = .int as[i] := by
            rw [List.getElem?_map, List.getElem?_eq_getElem hi] at hx
            exact (Option.some.inj hx).symm
          subst ex
          have et : (as.take (i + 1)).all (okS xs (keptOf xs ms)) = okS xs (keptOf xs ms) as[i] := by
            rw [List.take_add_one, List.getElem?_eq_getElem hi, List.all_append, e2]; simp
          have no : okS xs (keptOf xs ms) as[i] = false → Q (.bl false) H' := fun z => by
            have e3 : as.all (okS xs (keptOf xs ms)) = false := Bool.eq_false_iff.mpr fun y => by
              rw [List.all_eq_true.mp y _ (List.getElem_mem hi)] at z; cases z
            rw [← e3]; exact k _ s13
          have w1 := seen_at hP3 as[i]
          have w2 := seen_at PK as[i]
          have imp : xs[fi xs as[i]]? = none → (keptOf xs ms)[fi (keptOf xs ms) as[i]]? = none := fun z => by
            cases e : (keptOf xs ms)[fi (keptOf xs ms) as[i]]? with
            | none => rfl
            | some v =>
              obtain ⟨g1, g2⟩ := fi_mem e
              obtain ⟨u, hu⟩ := fi_some (xs := xs) (List.mem_filter.mp g1).1 g2
              rw [z] at hu; cases hu
          have eo : okS xs (keptOf xs ms) as[i] = sameO xs[fi xs as[i]]? (keptOf xs ms)[fi (keptOf xs ms) as[i]]? := rfl
          walk_at "go"
          refine ⟨a, ps, xs, as[i], rfl, hS3, hP3, hV, ?_⟩
          walk_at "go"
          refine ⟨D2, kp, keptOf xs ms, as[i], rfl, slO hp3, PK, hVK, ?_⟩
          walk_at "go"
          generalize seenV ps xs as[i] = v1 at *
          generalize seenV kp (keptOf xs ms) as[i] = v2 at *
          cases e5 : (keptOf xs ms)[fi (keptOf xs ms) as[i]]? with
          | none =>
            rw [e5] at w2 eo
            have w2 : v2 = .non := w2
            subst w2
            cases e4 : xs[fi xs as[i]]? with
            | none =>
              rw [e4] at w1 eo
              have w1 : v1 = .non := w1
              subst w1
              walk_at "go"
              exact ⟨rfl, ⟨_, _, _, _, rfl⟩, by rw [et, eo]; rfl⟩
            | some u =>
              rw [e4] at w1 eo
              obtain ⟨p, rfl, hp⟩ := w1
              have eo : okS xs (keptOf xs ms) as[i] = u.2.isNone := eo
              cases e6 : u.2 with
              | none =>
                rw [e6] at hp eo
                walk_at "go"
                exact ⟨rfl, ⟨_, _, _, _, rfl⟩, by rw [et, eo]; rfl⟩
              | some z =>
                rw [e6] at hp eo
                walk_at "go"
                exact no eo
          | some v =>
            rw [e5] at w2 eo
            obtain ⟨q, rfl, hq⟩ := w2
            cases e4 : xs[fi xs as[i]]? with
            | none => rw [imp e4] at e5; cases e5
            | some u =>
              rw [e4] at w1 eo
              obtain ⟨p, rfl, hp⟩ := w1
              have eo : okS xs (keptOf xs ms) as[i] = decide (u.1 = v.1) := by
                rw [eo]
                show decide (some u = some v) = _
                rw [Bool.eq_iff_iff, decide_eq_true_iff, decide_eq_true_iff]
                exact ⟨fun z => by rw [Option.some.inj z], fun z => by rw [hV.eq (fi_mem e4).1 (List.mem_filter.mp (fi_mem e5).1).1 z]⟩
              walk_at "go"
              refine i_d (fun z => ?_) (fun z => ?_)
              · walk_at "go"
                exact no (by rw [eo]; exact decide_eq_false z)
              · walk_at "go"
                exact ⟨rfl, ⟨_, _, _, _, rfl⟩, by rw [et, eo]; exact decide_eq_true (Decidable.of_not_not z)⟩
end
end Vw

set_option Elab.async false
set_option linter.all false
set_option maxRecDepth 100000
set_option maxHeartbeats 4000000
namespace Vw
open PySem PySem.Spec PyProof.Rows L2 RT
local macro_rules | `(tactic| walk_at "s") => `(tactic| with_reducible first
  | refine' s_seq ?_ | refine' s_next ?_ | refine' s_set ?_ | refine' s_ret ?_ | refine' s_retN ?_ | refine' s_drop ?_ | refine' s_if ?_ | refine' s_ipI ?_
  | refine' e_c ?_ | refine' e_op ?_ | refine' e_un ?_ | refine' e_neg ?_ | refine' e_test ?_ | refine' e_tB ?_ | refine' e_bl ?_ | refine' e_and ?_ | refine' e_or ?_ | refine' e_not ?_
  | refine' e_andV ?_ | refine' e_orV ?_ | refine' e_notV ?_ | refine' e_kV ?_ | refine' e_ife ?_ | refine' e_nil ?_ | refine' e_cons ?_ | refine' e_cb ?_ | refine' e_call ?_ | refine' e_chain ?_
  | refine' o_addI ?_ | refine' o_eqI ?_ | refine' o_neI ?_ | refine' o_I0 ?_ | refine' o_pow16 ?_ | refine' o_pow17 ?_ | refine' o_pow18 ?_ | refine' o_pow19 ?_ | refine' o_pow30 ?_ | refine' o_pow31 ?_ | refine' o_pow1 ?_ | refine' o_pow2 ?_ | refine' o_pow3 ?_ | refine' o_pow4 ?_ | refine' o_pow5 ?_ | refine' o_pow6 ?_ | refine' o_pow9 ?_ | refine' o_pow10 ?_ | refine' o_pow12 ?_ | refine' o_pow15 ?_ | refine' o_pow20 ?_ | refine' e_lst ?_ | refine' e_tup ?_ | refine' iteT ?_ | refine' i_nt ?_ | refine' i_nf ?_ | refine' iteF ?_ | refine' c_int ?_ | refine' c_abs ?_ | refine' c_min2 ?_ | refine' c_max2 ?_ | refine' e_tru ?_ | refine' t_bl ?_ | refine' t_non ?_ | refine' t_int ?_ | refine' isN_non ?_ | refine' isN_int ?_ | refine' isN_ref ?_ | refine' isN_str ?_ | refine' isN_bl ?_ | refine' noN_non ?_ | refine' noN_int ?_ | refine' noN_ref ?_ | refine' noN_str ?_ | refine' noN_bl ?_
  | refine' s_brk ?_ | refine' s_cont ?_ | refine' s_for ?_ | refine' e_lc ?_ | refine' e_dc ?_ | refine' e_yes ?_ | refine' i_rng1 ?_ | refine' i_lst0 ?_ | refine' i_tup0 ?_ | refine' e_bm ?_ | refine' e_sl ?_ | refine' e_np ?_ | refine' e_pt ?_ | refine' e_ptI ?_ | refine' e_din ?_ | refine' i_enum0 ?_ | refine' i_rev0 ?_ | refine' g_sub ?_ | refine' s_asg ?_ | refine' i_zip0 ?_ | refine' e_revT ?_ | refine' isB_bl ?_ | refine' notB_bl ?_ | refine' o_neB ?_ | refine' i_nrr ?_)
local macro_rules | `(tactic| walk_at "v") => `(tactic| ((with_reducible refine' e_var ?hv ?_); (case hv => exact rfl)))
local macro_rules | `(tactic| walk_at "a") => `(tactic| ((with_reducible refine' s_aug ?hv ?_); (case hv => exact rfl)))
local macro_rules | `(tactic| walk_at "m") => `(tactic| first
  | ((with_reducible refine' o_mod ?hv ?_); (case hv => first | decide | omega))
  | ((with_reducible refine' o_mulR ?hv ?_); (case hv => omega))
  | ((with_reducible refine' o_mulL ?hv ?_); (case hv => omega))
  | ((with_reducible refine' o_div ?hv ?hw ?_); (case hv => omega); (case hw => omega))
  | ((with_reducible refine' o_pow _ ?hv ?hw ?hx ?_); (case hv => exact rfl); (case hw => decide); (case hx => decide)))
local macro_rules | `(tactic| walk_at "i") => `(tactic| (first
  | ((with_reducible refine' isi_int true ?hv ?_); (case hv => exact (by decide +kernel)))
  | ((with_reducible refine' isi_int false ?hv ?_); (case hv => exact (by decide +kernel)))
  | ((with_reducible refine' isi_non true ?hv ?_); (case hv => exact (by decide +kernel)))
  | ((with_reducible refine' isi_non false ?hv ?_); (case hv => exact (by decide +kernel)))
  | ((with_reducible refine' isi_str true ?hv ?_); (case hv => exact (by decide +kernel)))
  | ((with_reducible refine' isi_str false ?hv ?_); (case hv => exact (by decide +kernel)))
  | ((with_reducible refine' isi_bl true ?hv ?_); (case hv => exact (by decide +kernel)))
  | ((with_reducible refine' isi_bl false ?hv ?_); (case hv => exact (by decide +kernel)))
  | ((with_reducible refine' isi_t true ?hw ?hv ?_); (case hw => assumption); (case hv => exact (by decide +kernel)))
  | ((with_reducible refine' isi_t false ?hw ?hv ?_); (case hw => assumption); (case hv => exact (by decide +kernel)))
  | ((with_reducible refine' isi_l true ?hw ?hv ?_); (case hw => assumption); (case hv => exact (by decide +kernel)))
  | ((with_reducible refine' isi_l false ?hw ?hv ?_); (case hw => assumption); (case hv => exact (by decide +kernel)))
  | ((with_reducible refine' isi_tup true ?hw ?hv ?_); (case hw => assumption); (case hv => exact (by decide +kernel)))
  | ((with_reducible refine' isi_tup false ?hw ?hv ?_); (case hw => assumption); (case hv => exact (by decide +kernel)))
  | ((with_reducible refine' isi_lst true ?hw ?hv ?_); (case hw => assumption); (case hv => exact (by decide +kernel)))
  | ((with_reducible refine' isi_lst false ?hw ?hv ?_); (case hw => assumption); (case hv => exact (by decide +kernel)))))
local macro_rules | `(tactic| walk_at "om") => `(tactic| first | omega | (simp only [List.length_cons, List.length_nil, List.length_map, List.length_append, List.length_range]; omega))
local macro_rules | `(tactic| walk_at "d") => `(tactic| (first
  | ((with_reducible refine' i_dt ?hv ?_); (case hv => walk_at "om"))
  | ((with_reducible refine' i_df ?hv ?_); (case hv => walk_at "om"))
  | ((with_reducible refine' i_ndt ?hv ?_); (case hv => walk_at "om"))
  | ((with_reducible refine' i_ndf ?hv ?_); (case hv => walk_at "om"))))
local macro_rules | `(tactic| walk_at "x") => `(tactic| first
  | ((with_reducible refine' o_ixA ?hv ?hw ?_); (case hv => assumption); (case hw => exact rfl))
  | ((with_reducible refine' o_ixU ?hv ?hw ?_); (case hv => assumption); (case hw => exact rfl))
  | ((with_reducible refine' o_ixL ?hv ?hw ?_); (case hv => assumption); (case hw => exact rfl))
  | ((with_reducible refine' o_ixT ?hv ?hw ?_); (case hv => assumption); (case hw => exact rfl))
  | ((with_reducible refine' set_ ?hv ?hw ?_); (case hv => assumption); (case hw => exact rfl))
  | ((with_reducible refine' e_lenM ?hv ?_); (case hv => first | assumption | exact slO (by assumption)))
  | ((with_reducible refine' e_lenN ?hv ?_); (case hv => first | assumption | exact stO (by assumption)))
  | ((with_reducible refine' e_lenL ?hv ?_); (case hv => first | assumption | exact slO (by assumption)))
  | ((with_reducible refine' e_lenT ?hv ?_); (case hv => first | assumption | exact stO (by assumption))))
local macro_rules | `(tactic| walk_at "c") => `(tactic| first
  | ((with_reducible refine' c_listL ?hv ?_); (case hv => assumption))
  | ((with_reducible refine' c_listT ?hv ?_); (case hv => assumption))
  | ((with_reducible refine' c_tupL ?hv ?_); (case hv => first | assumption | exact slO (by assumption)))
  | ((with_reducible refine' c_tupT ?hv ?_); (case hv => assumption))
  | ((with_reducible refine' t_lst ?hv ?_); (case hv => first | assumption | exact slO (by assumption)))
  | ((with_reducible refine' t_tup ?hv ?_); (case hv => assumption))
  | ((with_reducible refine' r_sl ?hv ?_); (case hv => first | assumption | exact slO (by assumption)))
  | ((with_reducible refine' o_inL ?hv ?_); (case hv => first | assumption | exact slO (by assumption)))
  | ((with_reducible refine' o_inT ?hv ?_); (case hv => first | assumption | exact stO (by assumption)))
  | ((with_reducible refine' o_niL ?hv ?_); (case hv => first | assumption | exact slO (by assumption)))
  | ((with_reducible refine' o_niT ?hv ?_); (case hv => first | assumption | exact stO (by assumption)))
  | ((with_reducible refine' ty_lst ?hv ?_); (case hv => assumption)))
local macro_rules | `(tactic| walk_at "mo") => `(tactic| repeat' (first | exact m_yes | exact m_var | exact m_c | exact m_I0 | exact m_I | exact m_ix | exact m_add | exact m_in | exact m_int1 | exact m_abs | exact m_nil | refine' m_and ?_ ?_ | refine' m_test ?_ | refine' m_tB ?_ | refine' m_op ?_ ?_ ?_ | refine' m_cons ?_ ?_ | refine' m_cb ?_ ?_))
local macro_rules | `(tactic| walk_at "go") => `(tactic| repeat' (first | walk_at "s" | walk_at "v" | walk_at "a" | walk_at "x" | walk_at "m" | walk_at "c" | walk_at "i" | walk_at "d"))

section
variable {P : Program} {w : World} {K : PySem.W.Frag} {mg : Str → Option Value} {base : Heap}
structure LawAt (K : PySem.W.Frag) (H : Hp) (B : Bg) (v o d q t : Addr) (ps : List Addr) (xs : List (Int × Option Int)) (ns due ask told : List Int) : Prop where
  v : SqL K H v (ps.map V.ref)
  p : PairsAt K H ps xs
  o : SqT K H o (ns.map V.int)
  d : SqL K H d (due.map V.int)
  q : SqL K H q (ask.map V.int)
  t : SqT K H t (told.map V.int)
  b : BagAt K H B
theorem LawAt.hs {H H' : Hp} {B : Bg} {v o d q t : Addr} {ps : List Addr} {xs : List (Int × Option Int)} {ns due ask told : List Int} (A : LawAt K H B v o d q t ps xs ns due ask told) (h : Hs K B H H') (n1 : v ≠ B.hd) (n2 : d ≠ B.hd) (n3 : q ≠ B.hd) : LawAt K H' B v o d q t ps xs ns due ask told :=
  ⟨h.sl n1 A.v, h.pa A.b A.p, h.st A.b A.o, h.sl n2 A.d, h.sl n3 A.q, h.st A.b A.t, h.b⟩
def sp_law (K : PySem.W.Frag) : Sp := fun vs H Q _ => ∃ (a : Addr) (ns : List Int), vs = [.ref a] ∧ SqL K H a (ns.map V.int) ∧ ns.length ≤ 63 ∧ ∀ H', Q (.bl true) H'
theorem ok_law (F : Fun K "law" "law" s_law f fd) (T : Txt K mg) : FnOk P w K mg base CX0 9 f fd ["script"] (sp_law K) := by
  refine F.ok sc_law (fun vs H Q E h => ?_) (fun cdv A outer s H vs Q E hr h => ?_)
  · obtain ⟨a, ns, rfl, _⟩ := h
    rfl
  · obtain ⟨a, ns0, rfl, hS, hl, k⟩ := h
    refine ⟨_, (pss_cons (ps_set (i := 1) sc_law.nd rfl (Or.inl rfl) (pe_call (ok_law_bag T) (hr.mono (by decide)) (by rfl) T.law_bag.g T.law_bag.F.kp T.law_bag.b .nil pass0 (pa_cons (pv 0) pa_nil)))
    (pss_cons (ps_set (i := 2) sc_law.nd rfl (Or.inl rfl) (pe_call (ok_law_versions T) (hr.mono (by decide)) (by rfl) T.law_versions.g T.law_versions.F.kp T.law_versions.b .nil pass0 (pa_cons (pv 1) pa_nil)))
    (pss_cons (ps_set (i := 3) sc_law.nd rfl (Or.inl rfl) pe_int)
    (Evl.pss_cut (ps_if (pt_cmpR op_gt (pe_callB (cLen (K := K)) (by rfl) T.z_len PySem.boot_len (pa_cons (pv 2) pa_nil)) pe_int (nomark _)) (pss_one (ps_set (i := 3) sc_law.nd rfl (Or.inl rfl) (pe_ix (ixLT (K := K)) (pe_ix (ixLT (K := K)) (pv 2) pe_int (fun _ _ => rfl)) pe_int (fun _ _ => rfl)))) pss_nil)
    (pss_cons (ps_set (i := 3) sc_law.nd rfl (Or.inl rfl) (pe_op oAdd (pv 3) (pe_call (ok_law_draw T) (hr.mono (by decide)) (by rfl) T.law_draw.g T.law_draw.F.kp T.law_draw.b .nil pass0 (pa_cons (pv 1) (pa_cons pe_int pa_nil)))))
    (pss_cons (ps_set (i := 4) sc_law.nd rfl (Or.inl rfl) (pe_call (ok_law_open T) (hr.mono (by decide)) (by rfl) T.law_open.g T.law_open.F.kp T.law_open.b .nil pass0 (pa_cons (pv 1) (pa_cons (pv 2) (pa_cons (pv 3) pa_nil)))))
    (pss_cons (ps_set (i := 5) sc_law.nd rfl (Or.inl rfl) (pe_call (ok_law_needed T) (hr.mono (by decide)) (by rfl) T.law_needed.g T.law_needed.F.kp T.law_needed.b .nil pass0 (pa_cons (pv 2) (pa_cons (pv 4) pa_nil))))
    (pss_cons (ps_set (i := 6) sc_law.nd rfl (Or.inl rfl) (pe_op oAdd (pe_callTy (cListOf (K := K)) (by rfl) T.z_list (by decide +kernel) (pa_cons (pv 4) pa_nil)) (pe_lst (pa_cons (pv 3) (pa_cons (pe_op oAdd (pe_op oAdd (pv 3) pe_int) (pe_call (ok_law_draw T) (hr.mono (by decide)) (by rfl) T.law_draw.g T.law_draw.F.kp T.law_draw.b .nil pass0 (pa_cons (pv 1) (pa_cons pe_int pa_nil)))) pa_nil)))))
    (pss_cons (ps_set (i := 7) sc_law.nd rfl (Or.inl rfl) (pe_call (ok_needed T) (hr.mono (by decide)) (by rfl) T.needed.g T.needed.F.kp T.needed.b .nil pass0 (pa_cons (pe_callTy (cListOf (K := K)) (by rfl) T.z_list (by decide +kernel) (pa_cons (pv 2) pa_nil)) (pa_cons (pv 4) (pa_cons (pv 3) pa_nil)))))
    (pss_cons (ps_if (PW.pt (pw_or (pt_not (ptTruth (K := K) (pe_call (ok_law_is_enough T) (hr.mono (by decide)) (by rfl) T.law_is_enough.g T.law_is_enough.F.kp T.law_is_enough.b .nil pass0 (pa_cons (pv 2) (pa_cons (pv 6) (pa_cons (pv 7) pa_nil)))) (by intro _; rfl))) (pw_or1 (pt_cmpR op_notBl (pe_call (ok_is_kept_right T) (hr.mono (by decide)) (by rfl) T.is_kept_right.g T.is_kept_right.F.kp T.is_kept_right.b .nil pass0 (pa_cons (pe_callTy (cTupOf (K := K)) (by rfl) T.z_tuple (by decide +kernel) (pa_cons (pv 2) pa_nil)) (pa_cons (pv 4) (pa_cons (pv 3) (pa_cons (pv 7) pa_nil))))) pe_bl (nomark _))))) (pss_one (ps_ret pe_bl)) pss_nil)
    (pss_cons (ps_for PassesOwn.never rfl (pi_range1 (by rfl) T.z_range (pa_cons pe_int pa_nil)) (pg_name (i := 8) sc_law.nd rfl (Or.inl rfl))
      (pss_cons (ps_set (i := 9) sc_law.nd rfl (Or.inl rfl) (pe_call (ok_law_lot T) (hr.mono (by decide)) (by rfl) T.law_lot.g T.law_lot.F.kp T.law_lot.b .nil pass0 (pa_cons (pv 1) (pa_cons (pv 2) (pa_cons (pv 5) pa_nil)))))
    (Evl.pss_cut (ps_if (pt_cmpR (oEq (K := K) hr.units) (pe_call (ok_law_draw T) (hr.mono (by decide)) (by rfl) T.law_draw.g T.law_draw.F.kp T.law_draw.b .nil pass0 (pa_cons (pv 1) (pa_cons pe_int pa_nil))) pe_int (nomark _)) (pss_one (ps_set (i := 9) sc_law.nd rfl (Or.inl rfl) (pe_call (ok_law_no_lot T) (hr.mono (by decide)) (by rfl) T.law_no_lot.g T.law_no_lot.F.kp T.law_no_lot.b .nil pass0 (pa_cons (pv 1) (pa_cons (pv 9) pa_nil))))) pss_nil)
    (pss_cons (ps_set (i := 10) sc_law.nd rfl (Or.inl rfl) (pe_callTy (cListOf (K := K)) (by rfl) T.z_list (by decide +kernel) (pa_cons (pv 2) pa_nil)))
    (pss_cons (ps_set (i := 11) sc_law.nd rfl (Or.inl rfl) (pe_call (ok_is_kept_right T) (hr.mono (by decide)) (by rfl) T.is_kept_right.g T.is_kept_right.F.kp T.is_kept_right.b .nil pass0 (pa_cons (pv 10) (pa_cons (pv 4) (pa_cons (pv 3) (pa_cons (pv 9) pa_nil))))))
    (pss_cons (ps_if (PW.pt (pw_or (pt_cmpR (oNe (K := K) hr.units) (pv 10) (pv 2) (nomark _)) (pw_or (pt_not (ptTruth (K := K) (pe_callB (cIsi (K := K)) (by rfl) T.z_isinstance (by decide +kernel) (pa_cons (pv 11) (pa_cons (pe_bltn (v := .ty "bool") (by rfl) T.z_bool (by decide +kernel) rfl) pa_nil))) (by intro _; rfl))) (pw_or1 (pt_cmpR (oNe (K := K) hr.units) (pv 11) (pe_call (ok_law_is_enough T) (hr.mono (by decide)) (by rfl) T.law_is_enough.g T.law_is_enough.F.kp T.law_is_enough.b .nil pass0 (pa_cons (pv 2) (pa_cons (pv 6) (pa_cons (pv 9) pa_nil)))) (nomark _)))))) (pss_one (ps_ret pe_bl)) pss_nil)
    (pss_one (ps_if (ptTruth (K := K) (pv 11) (by intro _; rfl)) (pss_one (ps_for PassesOwn.never rfl (piT (K := K) (pv 7)) (pg_name (i := 12) sc_law.nd rfl (Or.inl rfl))
      (pss_one (ps_if (pt_cmpR (oNotIn (K := K)) (pv 12) (pv 9) (by rfl)) (pss_one (ps_ret pe_bl)) pss_nil)))) pss_nil))))))))
    (pss_one (ps_ret pe_bl))))))))))))), ?_⟩
    walk_at "go"
    refine ⟨a, ns0, rfl, hS, hl, fun B H1 nB s1 b1 => ?_⟩
    walk_at "go"
    refine ⟨B, rfl, b1, fun v ps xs H2 hs2 nv hv2 V2 => ?_⟩
    obtain ⟨P2, hV, lx, t0, t1⟩ := V2
    have vne : v ≠ B.hd := new_ne b1 nv
    have vS2 : SqL K H2 v (ps.map V.ref) := slO hv2
    have hlen : ps.length = xs.length := P2.1
    walk_at "go"
    refine s_cut (fun σ2 H' => H' = H2 ∧ σ2 = [some (.ref a), some (.ref B.hd), some (.ref v), some (.int (top xs)), none, none, none, none, none, none, none, none, none]) ?_ ?_
    · walk_at "go"
      refine i_d (fun q => ?_) (fun q => ?_)
      · have hx : 0 < xs.length := by omega
        have hv0 := P2.at hx
        walk_at "go"
        refine o_ixL vS2 (atI_ref 0 rfl (by omega)) ?_
        walk_at "go"
        refine ⟨rfl, ?_⟩
        have et : top xs = xs[0].1 := by
          cases xs with
          | nil => simp at hx
          | cons v r => rfl
        rw [et]; rfl
      · walk_at "go"
        refine ⟨rfl, ?_⟩
        have et : top xs = 0 := by
          cases xs with
          | nil => rfl
          | cons v r => exact absurd (show (0 : Int) < ps.length by rw [hlen]; simp) q
        rw [et]; rfl
    rintro σ2 H' ⟨e1, rfl⟩
    subst e1
    walk_at "go"
    refine ⟨B, _, rfl, hs2.b, by omega, by omega, fun r3 H3 r30 r31 hs3 => ?_⟩
    have vS3 := hs3.sl vne vS2
    have P3 := hs3.pa hs2.b P2
    generalize hL : top xs + r3 = L
    have l0 : 0 ≤ L := by omega
    have lt : top xs ≤ L := by omega
    have lM : L ≤ 500000000000000000 := by omega
    walk_at "go"
    rw [hL]
    refine ⟨B, v, ps, xs, L, rfl, hs3.b, vS3, vne, P3, hV, by omega, by omega, fun o ns H4 hs4 no ho asc bnd few => ?_⟩
    have vS4 := hs4.sl vne vS3
    have P4 := hs4.pa hs3.b P3
    have lot : lotB ns = true := asc_lot asc fun z hz => (bnd z hz).1
    have nle : ∀ z ∈ ns, z ≤ L := fun z hz => (bnd z hz).2
    have kl : ∀ S : Int → Bool, (keepC S xs).length ≤ 40 := fun S => by
      have h1 := foldl_keep_len S xs.reverse []
      rw [List.length_reverse, List.length_nil] at h1
      show (xs.reverse.foldl (keepF S) []).length ≤ 40
      omega
    walk_at "go"
    refine ⟨v, ps, xs, o, ns, rfl, vS4, P4, hV, stO ho, fun d H5 nd s5 hd5 => ?_⟩
    have dl := kl (dueS xs ns)
    generalize keepC (dueS xs ns) xs = due at *
    have dne : d ≠ B.hd := new_ne hs4.b nd
    have b5 := bag_same hs4.b s5
    walk_at "go"
    refine c_listT (stO (at_ s5 ho)) (n_new0 fun p6 H6 n6 s6 h6 => ?_)
    have b6 := bag_same b5 s6
    walk_at "go"
    refine ⟨B, _, rfl, b6, by omega, by omega, fun r7 H7 r70 r71 hs7 => ?_⟩
    have h67 := hs7.ls (new_ne b5 n6) h6
    have hs47 := (Hs.of hs4.b (s5.trans s6)).trans hs7
    generalize hL2 : L + 1 + r7 = L2
    have lt2 : L ≤ L2 := by omega
    walk_at "go"
    rw [hL2]
    refine n_new (le_size (by simp)) fun p8 H8 n8 s8 h8 => ?_
    have h68 := at_ s8 h67
    walk_at "go"
    refine o_cat h68 h8 (by simp; omega) (n_new0 fun q H9 n9 s9 h9 => ?_)
    rw [show ns.map V.int ++ [V.int L, V.int L2] = (ns ++ [L, L2]).map V.int by rw [List.map_append]; rfl] at h9
    have hs49 := hs47.trans (Hs.of hs47.b (s8.trans s9))
    have qne : q ≠ B.hd := new_ne (bag_same hs47.b s8) n9
    have hd9 := ((Hs.of b5 s6).trans hs7).ls dne hd5
    have hd9 := at_ (s8.trans s9) hd9
    have v9 := hs49.sl vne vS4
    have P9 := hs49.pa hs4.b P4
    have o9 := hs49.st hs4.b (stO ho)
    have b9 := hs49.b
    clear vS4 P4 vS3 P3 vS2 P2 hv2 hd5 h6 h67 h68 h8
    walk_at "go"
    refine n_new0 fun p10 H10 n10 s10 h10 => ?_
    walk_at "go"
    refine ⟨p10, ps, xs, o, L, ns, rfl, .inl (slO h10), pa_ s10 P9, hV, st_ s10 o9, by omega, lot, nle, lt, by show L ≤ 1000000000000000000; omega, fun t H11 n11 s11 h11 => ?_⟩
    have tR := told_right hV (ns ++ [L])
    have tS : ∀ ys : List V, keptR xs (ns ++ [L]) (some ys) = true → ys = (ys.map toI).map V.int ∧ ∀ c ∈ keepC (seenC xs (ns ++ [L])) xs, c ∈ ys.map toI := fun ys => told_sub hV
    have tl := kl (seenC xs (ns ++ [L]))
    generalize keepC (seenC xs (ns ++ [L])) xs = told at *
    have s9_11 := s10.trans s11
    have A : LawAt K H11 B v o d q t ps xs ns due (ns ++ [L, L2]) told := ⟨sl_ s9_11 v9, pa_ s9_11 P9, st_ s9_11 o9, slO (at_ s9_11 hd9), slO (at_ s9_11 h9), stO h11, bag_same b9 s9_11⟩
    have eK : ∀ d', keptR xs (ns ++ [L, L2]) d' = keptR xs (ns ++ [L]) d' := keptR_ask hV t0 lt lt2
    clear v9 P9 o9 b9 hd9 h9 h10 h11 s10 s11 s9_11
    walk_at "go"
    refine ⟨v, ps, xs, q, .ref t, B.hd, some (told.map V.int), ns ++ [L, L2], rfl, A.v, A.p, hV, A.q, thing_int A.t (by omega), fun H12 s12 => ?_⟩
    rw [eK, tR]
    have A12 := A.hs (Hs.of A.b s12) vne dne qne
    walk_at "go"
    refine c_tupL A12.v (n_new0 fun tp H13 n13 s13 h13 => ?_)
    have A13 := A12.hs (Hs.of A12.b s13) vne dne qne
    walk_at "go"
    refine ⟨tp, ps, xs, o, L, .ref t, B.hd, some (told.map V.int), ns, rfl, .inr (stO h13), A13.p, hV, A13.o, by omega, lot, nle, lt, by show L ≤ 1000000000000000000; omega, thing_int A13.t (by omega), fun H14 s14 => ?_⟩
    rw [tR]
    have A14 := A13.hs (Hs.of A13.b s14) vne dne qne
    clear A A12 A13 h13
    walk_at "go"
    refine i_rng 8 (by omega) (by omega) (by omega) ?_
    refine l_rng (fun i σ H' => Hs K B H14 H' ∧ ∃ y8 y9 y10 y11 y12 : Option V, σ = [some (.ref a), some (.ref B.hd), some (.ref v), some (.int L), some (.ref o), some (.ref d), some (.ref q), some (.ref t), y8, y9, y10, y11, y12]) ⟨⟨fun _ _ _ z => z, A14.b⟩, none, none, none, none, none, rfl⟩ (fun σ H' p => ?_) (fun i σ H' hi p => ?_)
    · obtain ⟨hh, y8, y9, y10, y11, y12, rfl⟩ := p
      walk_at "go"
      exact k _
    · obtain ⟨hh, y8, y9, y10, y11, y12, rfl⟩ := p
      have A15 := A14.hs hh vne dne qne
      walk_at "go"
      refine ⟨B, v, ps, xs, d, due, rfl, A15.b, A15.v, vne, A15.p, lx, A15.d, dne, dl, fun p1 ms G1 hs1 m1 ml => ?_⟩
      have A16 := A15.hs hs1 vne dne qne
      walk_at "go"
      refine s_cut (fun σ2 G2 => Hs K B G1 G2 ∧ ∃ x d', σ2 = [some (.ref a), some (.ref B.hd), some (.ref v), some (.int L), some (.ref o), some (.ref d), some (.ref q), some (.ref t), some (.int (i : Nat)), some x, y10, y11, y12] ∧ ThingOk K B.hd G2 x d') ?_ ?_
      · walk_at "go"
        refine ⟨B, _, rfl, A16.b, by omega, by omega, fun r2 G2 r20 r21 hs2 => ?_⟩
        have m2 := hs2.st A16.b m1
        walk_at "go"
        refine i_d (fun z => ?_) (fun z => ?_)
        · walk_at "go"
          refine ⟨B, p1, ms, rfl, hs2.b, m2, ml, fun x d' G3 hs3 hT => ?_⟩
          exact ⟨hs2.trans hs3, x, d', rfl, hT⟩
        · walk_at "go"
          exact ⟨hs2, _, some (ms.map V.int), rfl, thing_int m2 (by omega)⟩
      · rintro σ2 G2 ⟨hs2, x, d', rfl, hT⟩
        have A17 := A16.hs hs2 vne dne qne
        walk_at "go"
        refine c_listL A17.v (n_new0 fun pp G3 n3 s3 h3 => ?_)
        have A18 := A17.hs (Hs.of A17.b s3) vne dne qne
        walk_at "go"
        refine ⟨pp, ps, xs, o, L, x, B.hd, d', ns, rfl, .inl (slO h3), A18.p, hV, A18.o, by omega, lot, nle, lt, by show L ≤ 1000000000000000000; omega, hT.same s3, fun G4 s4 => ?_⟩
        have A19 := A18.hs (Hs.of A18.b s4) vne dne qne
        walk_at "go"
        refine o_neV (slO (at_ s4 h3)) A19.v A19.p ?_
        walk_at "go"
        refine ⟨v, ps, xs, q, x, B.hd, d', ns ++ [L, L2], rfl, A19.v, A19.p, hV, A19.q, hT.same (s3.trans s4), fun G5 s5 => ?_⟩
        rw [eK]
        have A20 := A19.hs (Hs.of A19.b s5) vne dne qne
        have hhe := hh.trans (hs1.trans (hs2.trans (Hs.of A17.b (s3.trans (s4.trans s5)))))
        walk_at "go"
        cases e1 : keptR xs (ns ++ [L]) d' with
        | false =>
          walk_at "go"
          exact ⟨hhe, _, _, _, _, _, rfl⟩
        | true =>
          cases d' with
          | none => cases e1
          | some ys =>
            obtain ⟨g1, g2⟩ := tS ys e1
            obtain ⟨tt, rfl, hY, yl, _⟩ := hT.same (s3.trans (s4.trans s5))
            rw [g1] at hY
            walk_at "go"
            refine i_tup A20.t ?_
            refine l_tup (xs := told.map V.int) (fun j σ G6 => G6 = G5 ∧ ∃ y12 : Option V, σ = [some (.ref a), some (.ref B.hd), some (.ref v), some (.int L), some (.ref o), some (.ref d), some (.ref q), some (.ref t), some (.int (i : Nat)), some (.ref tt), some (.ref pp), some (.bl true), y12]) ⟨rfl, y12, rfl⟩ (fun j σ G6 hj p => by rw [p.1]; exact A20.t) (fun σ G6 p => ?_) (fun j x σ G6 hx p => ?_)
            · obtain ⟨e2, y12, rfl⟩ := p
              subst e2
              exact ⟨hhe, _, _, _, _, _, rfl⟩
            · obtain ⟨e2, y12, rfl⟩ := p
              subst e2
              have hj : j < told.length := by
                have := (List.getElem?_eq_some_iff.mp hx).1
                simpa using this
              have ex : x = .int told[j] := by
                rw [List.getElem?_map, List.getElem?_eq_getElem hj] at hx
                exact (Option.some.inj hx).symm
              subst ex
              have hin := g2 _ (List.getElem_mem hj)
              generalize ys.map toI = zs at *
              walk_at "go"
              refine i_d (fun z => absurd hin z) (fun z => ?_)
              walk_at "go"
              exact ⟨rfl, _, rfl⟩
end
theorem law_mk {l : PySem.W.OpenLaw} {w : World} {K : PySem.W.Frag} {h : Heap} {mg : Str → Option Value} {fa f : Addr} {od an : Option Addr} {sl : Array (Option Value)} {oc kV dc pm cd ct : Value} (X : K.In h) (G : h.Ns mainGlobals mg) (hfa : mg "law" = some (.ref fa))
    (a : PySem.W.nsIn K mainGlobals "law" = some (some (.ref f))) (lk : K.lookup f = some ⟨oc, od, .func (PySem.W.fnOf "law" "law" (defArgs s_law) (defBody s_law) (defScope s_law) .none kV dc pm an cd ct), sl⟩) (c : PySem.W.codeIn K cd "law" = true) (kp : PySem.W.keepIn K (.ref f) = true) (T : Txt K mg) :
    ∃ fd : FuncData, (∀ (s : Shared) (v : Value), BindsTo s fd ⟨[v], []⟩ [("script", v)]) ∧ ∀ base : Heap, K.In base → base.Ns mainGlobals mg → FnOk l.prog w K mg base CX0 9 fa fd ["script"] (sp_law K) := by
  have e := hfa.symm.trans (PySem.W.mg_of X G a)
  cases e
  have F := fun_mk (st := s_law) lk c kp
  exact ⟨PySem.W.fnOf "law" "law" (defArgs s_law) (defBody s_law) (defScope s_law) .none kV dc pm an cd ct, fun s v => .of_eq rfl, fun base _ _ => ok_law F T⟩
end Vw

set_option Elab.async false
open PySem PySem.W PyProof.Rows
set_option maxRecDepth 100000 in
set_option maxHeartbeats 0 in
theorem PySem.Challenge.cw_wholeways_k42_whole_lots_that_are_enough_holds : PySem.Challenge.rw_wholeways_k42_whole_lots_that_are_enough.Holds := by
  w_on; o_law; k_head; (case hw => w_witness2)
  k_fill
  refine L2.walk_of (l := PySem.Challenge.rw_wholeways_k42_whole_lots_that_are_enough) (n := 63) (k := 9) (x := "script") (CX := fun _ => L2.CX0) (sp := fun w => Vw.sp_law _) rfl (by decide) rfl ⟨rfl, by decide, by decide⟩ (fun w h Y => PySem.W.kIn_of Y) ?F (fun _ _ a ns hl _ hS => ⟨a, ns, rfl, hS, hl, fun _ => rfl⟩) (fun _ _ _ _ _ h => h)
  case F =>
    intro w mg fa h KX G hmg
    refine' Vw.law_mk KX G hmg ?aL ?lL ?cL ?kL (T := {
      is_integer := (Vw.defAt_mk KX G ?a0 ?l0 ?c0 ?k0 (fun _ _ _ _ _ _ us hl => match us, hl with | [_], _ => rfl)),
      is_within := (Vw.defAt_mk KX G ?a1 ?l1 ?c1 ?k1 (fun _ _ _ _ _ _ us hl => match us, hl with | [_, _, _], _ => rfl)),
      is_number := (Vw.defAt_mk KX G ?a2 ?l2 ?c2 ?k2 (fun _ _ _ _ _ _ us hl => match us, hl with | [_], _ => rfl)),
      is_worth := (Vw.defAt_mk KX G ?a3 ?l3 ?c3 ?k3 (fun _ _ _ _ _ _ us hl => match us, hl with | [_], _ => rfl)),
      is_mark := (Vw.defAt_mk KX G ?a4 ?l4 ?c4 ?k4 (fun _ _ _ _ _ _ us hl => match us, hl with | [_], _ => rfl)),
      is_ascending := (Vw.defAt_mk KX G ?a5 ?l5 ?c5 ?k5 (fun _ _ _ _ _ _ us hl => match us, hl with | [_], _ => rfl)),
      is_lot := (Vw.defAt_mk KX G ?a6 ?l6 ?c6 ?k6 (fun _ _ _ _ _ _ us hl => match us, hl with | [_], _ => rfl)),
      is_version := (Vw.defAt_mk KX G ?a7 ?l7 ?c7 ?k7 (fun _ _ _ _ _ _ us hl => match us, hl with | [_], _ => rfl)),
      need_versions := (Vw.defAt_mk KX G ?a8 ?l8 ?c8 ?k8 (fun _ _ _ _ _ _ us hl => match us, hl with | [_], _ => rfl)),
      need_last := (Vw.defAt_mk KX G ?a9 ?l9 ?c9 ?k9 (fun _ _ _ _ _ _ us hl => match us, hl with | [_, _], _ => rfl)),
      need_snapshots := (Vw.defAt_mk KX G ?a10 ?l10 ?c10 ?k10 (fun _ _ _ _ _ _ us hl => match us, hl with | [_, _], _ => rfl)),
      need_all := (Vw.defAt_mk KX G ?a11 ?l11 ?c11 ?k11 (fun _ _ _ _ _ _ us hl => match us, hl with | [_, _, _], _ => rfl)),
      asked_of := (Vw.defAt_mk KX G ?a12 ?l12 ?c12 ?k12 (fun _ _ _ _ _ _ us hl => match us, hl with | [_, _], _ => rfl)),
      seen_each := (Vw.defAt_mk KX G ?a13 ?l13 ?c13 ?k13 (fun _ _ _ _ _ _ us hl => match us, hl with | [_, _], _ => rfl)),
      needed := (Vw.defAt_mk KX G ?a14 ?l14 ?c14 ?k14 (fun _ _ _ _ _ _ us hl => match us, hl with | [_, _, _], _ => rfl)),
      needed_commits := (Vw.defAt_mk KX G ?a15 ?l15 ?c15 ?k15 (fun _ _ _ _ _ _ us hl => match us, hl with | [_, _, _], _ => rfl)),
      is_kept_right := (Vw.defAt_mk KX G ?a16 ?l16 ?c16 ?k16 (fun _ _ _ _ _ _ us hl => match us, hl with | [_, _, _, _], _ => rfl)),
      is_same := (Vw.defAt_mk KX G ?a17 ?l17 ?c17 ?k17 (fun _ _ _ _ _ _ us hl => match us, hl with | [_, _], _ => rfl)),
      law_mixed := (Vw.defAt_mk KX G ?a18 ?l18 ?c18 ?k18 (fun _ _ _ _ _ _ us hl => match us, hl with | [_, _], _ => rfl)),
      law_bag := (Vw.defAt_mk KX G ?a19 ?l19 ?c19 ?k19 (fun _ _ _ _ _ _ us hl => match us, hl with | [_], _ => rfl)),
      law_draw := (Vw.defAt_mk KX G ?a20 ?l20 ?c20 ?k20 (fun _ _ _ _ _ _ us hl => match us, hl with | [_, _], _ => rfl)),
      law_versions := (Vw.defAt_mk KX G ?a21 ?l21 ?c21 ?k21 (fun _ _ _ _ _ _ us hl => match us, hl with | [_], _ => rfl)),
      law_open := (Vw.defAt_mk KX G ?a22 ?l22 ?c22 ?k22 (fun _ _ _ _ _ _ us hl => match us, hl with | [_, _, _], _ => rfl)),
      law_needed := (Vw.defAt_mk KX G ?a23 ?l23 ?c23 ?k23 (fun _ _ _ _ _ _ us hl => match us, hl with | [_, _], _ => rfl)),
      law_some := (Vw.defAt_mk KX G ?a24 ?l24 ?c24 ?k24 (fun _ _ _ _ _ _ us hl => match us, hl with | [_, _, _], _ => rfl)),
      law_lot := (Vw.defAt_mk KX G ?a25 ?l25 ?c25 ?k25 (fun _ _ _ _ _ _ us hl => match us, hl with | [_, _, _], _ => rfl)),
      law_no_lot := (Vw.defAt_mk KX G ?a26 ?l26 ?c26 ?k26 (fun _ _ _ _ _ _ us hl => match us, hl with | [_, _], _ => rfl)),
      law_is_lot := (Vw.defAt_mk KX G ?a27 ?l27 ?c27 ?k27 (fun _ _ _ _ _ _ us hl => match us, hl with | [_, _], _ => rfl)),
      law_seen := (Vw.defAt_mk KX G ?a28 ?l28 ?c28 ?k28 (fun _ _ _ _ _ _ us hl => match us, hl with | [_, _], _ => rfl)),
      law_is_enough := (Vw.defAt_mk KX G ?a29 ?l29 ?c29 ?k29 (fun _ _ _ _ _ _ us hl => match us, hl with | [_, _, _], _ => rfl)),
      z_abs := PySem.W.mg_none_of KX G ?z_abs,
      z_all := PySem.W.mg_none_of KX G ?z_all,
      z_bool := PySem.W.mg_none_of KX G ?z_bool,
      z_enumerate := PySem.W.mg_none_of KX G ?z_enumerate,
      z_int := PySem.W.mg_none_of KX G ?z_int,
      z_isinstance := PySem.W.mg_none_of KX G ?z_isinstance,
      z_len := PySem.W.mg_none_of KX G ?z_len,
      z_list := PySem.W.mg_none_of KX G ?z_list,
      z_max := PySem.W.mg_none_of KX G ?z_max,
      z_min := PySem.W.mg_none_of KX G ?z_min,
      z_range := PySem.W.mg_none_of KX G ?z_range,
      z_reversed := PySem.W.mg_none_of KX G ?z_reversed,
      z_set := PySem.W.mg_none_of KX G ?z_set,
      z_sorted := PySem.W.mg_none_of KX G ?z_sorted,
      z_tuple := PySem.W.mg_none_of KX G ?z_tuple,
      z_zip := PySem.W.mg_none_of KX G ?z_zip,
      c_GREATEST_WORTH := Vw.cAt_mk KX G ?q_GREATEST_WORTH ?r_GREATEST_WORTH,
      c_GREATEST_COMMIT := Vw.cAt_mk KX G ?q_GREATEST_COMMIT ?r_GREATEST_COMMIT })
    (case aL => k_is); (case lL => k_is); (case cL => k_is); (case kL => k_is)
    (case a0 => k_is); (case l0 => k_is); (case c0 => k_is); (case k0 => k_is)
    (case a1 => k_is); (case l1 => k_is); (case c1 => k_is); (case k1 => k_is)
    (case a2 => k_is); (case l2 => k_is); (case c2 => k_is); (case k2 => k_is)
    (case a3 => k_is); (case l3 => k_is); (case c3 => k_is); (case k3 => k_is)
    (case a4 => k_is); (case l4 => k_is); (case c4 => k_is); (case k4 => k_is)
    (case a5 => k_is); (case l5 => k_is); (case c5 => k_is); (case k5 => k_is)
    (case a6 => k_is); (case l6 => k_is); (case c6 => k_is); (case k6 => k_is)
    (case a7 => k_is); (case l7 => k_is); (case c7 => k_is); (case k7 => k_is)
    (case a8 => k_is); (case l8 => k_is); (case c8 => k_is); (case k8 => k_is)
    (case a9 => k_is); (case l9 => k_is); (case c9 => k_is); (case k9 => k_is)
    (case a10 => k_is); (case l10 => k_is); (case c10 => k_is); (case k10 => k_is)
    (case a11 => k_is); (case l11 => k_is); (case c11 => k_is); (case k11 => k_is)
    (case a12 => k_is); (case l12 => k_is); (case c12 => k_is); (case k12 => k_is)
    (case a13 => k_is); (case l13 => k_is); (case c13 => k_is); (case k13 => k_is)
    (case a14 => k_is); (case l14 => k_is); (case c14 => k_is); (case k14 => k_is)
    (case a15 => k_is); (case l15 => k_is); (case c15 => k_is); (case k15 => k_is)
    (case a16 => k_is); (case l16 => k_is); (case c16 => k_is); (case k16 => k_is)
    (case a17 => k_is); (case l17 => k_is); (case c17 => k_is); (case k17 => k_is)
    (case a18 => k_is); (case l18 => k_is); (case c18 => k_is); (case k18 => k_is)
    (case a19 => k_is); (case l19 => k_is); (case c19 => k_is); (case k19 => k_is)
    (case a20 => k_is); (case l20 => k_is); (case c20 => k_is); (case k20 => k_is)
    (case a21 => k_is); (case l21 => k_is); (case c21 => k_is); (case k21 => k_is)
    (case a22 => k_is); (case l22 => k_is); (case c22 => k_is); (case k22 => k_is)
    (case a23 => k_is); (case l23 => k_is); (case c23 => k_is); (case k23 => k_is)
    (case a24 => k_is); (case l24 => k_is); (case c24 => k_is); (case k24 => k_is)
    (case a25 => k_is); (case l25 => k_is); (case c25 => k_is); (case k25 => k_is)
    (case a26 => k_is); (case l26 => k_is); (case c26 => k_is); (case k26 => k_is)
    (case a27 => k_is); (case l27 => k_is); (case c27 => k_is); (case k27 => k_is)
    (case a28 => k_is); (case l28 => k_is); (case c28 => k_is); (case k28 => k_is)
    (case a29 => k_is); (case l29 => k_is); (case c29 => k_is); (case k29 => k_is)
    (case z_abs => k_is)
    (case z_all => k_is)
    (case z_bool => k_is)
    (case z_enumerate => k_is)
    (case z_int => k_is)
    (case z_isinstance => k_is)
    (case z_len => k_is)
    (case z_list => k_is)
    (case z_max => k_is)
    (case z_min => k_is)
    (case z_range => k_is)
    (case z_reversed => k_is)
    (case z_set => k_is)
    (case z_sorted => k_is)
    (case z_tuple => k_is)
    (case z_zip => k_is)
    (case q_GREATEST_WORTH => k_is); (case r_GREATEST_WORTH => exact ⟨_, rfl⟩)
    (case q_GREATEST_COMMIT => k_is); (case r_GREATEST_COMMIT => exact ⟨_, rfl⟩)

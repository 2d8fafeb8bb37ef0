import PyProof.Rows.All
import Wide.All
import OpenK.AllK
import Wide.FinOn
import HandS.ForMost
import HandS.IsInst
import HandS.SortInts
import HandS.DictComp
import HandS.Rev
import HandS.Strs
import HandS.SetFor
import HandS.Wide
import HandS.TupAny
import HandS.Evl
import KE.GoesEnum
import HandS.Walk
import HandS.Style
import HandS.Zip
import HandS.Zip0
import HandS.WordsDict
import HandS.Dict
import HandS.StrMore
import HandS.SetKeys
import HandS.Text
import HandS.ExcInit
import HandS.ExcOwn
import HandS.WordsExc
import HandS.TryOnly
import HandS.Small
import HandS.Codes
import PyProof.AutoSeq1
import HandS.TupMul
import PySem.Challenge.RW_wholeways_k09_whole_leftovers_never_come
set_option Elab.async false
set_option linter.all false
set_option maxRecDepth 100000
set_option maxHeartbeats 4000000
namespace Vw
open PySem PySem.Spec PyProof.Rows L2 RT

/-! ### operators of more than one kind -/
section
variable {X : Cx}
def rOr (r r' : R2) : R2 := fun x y H Q => r x y H Q ∨ r' x y H Q
theorem oOr {f : Value → Value → Sem Value} {r r' : R2} (a : OpR X f r) (b : OpR X f r') : OpR X f (rOr r r') := by
  intro pins s σ H x y v u Q I rx ry q
  cases q with
  | inl q => exact a pins s σ H x y v u Q I rx ry q
  | inr q => exact b pins s σ H x y v u Q I rx ry q
def cOr (r r' : List V → Hp → VK → Prop) : List V → Hp → VK → Prop := fun x H Q => r x H Q ∨ r' x H Q
theorem kOr {f : Value} {r r' : List V → Hp → VK → Prop} (a : CallR X f r) (b : CallR X f r') : CallR X f (cOr r r') := by
  intro pins s σ H xs us Q I rx q
  cases q with
  | inl q => exact a pins s σ H xs us Q I rx q
  | inr q => exact b pins s σ H xs us Q I rx q
abbrev rIAdd : R2 := rI0 fun i j => .int (i + j)
abbrev rSAdd' : R2 := fun x y H Q => ∃ i j, x = .str i ∧ y = .str j ∧ i.length + j.length ≤ sizeLine ∧ Q (.str (i ++ j)) H
theorem oAdd : OpR X (binaryOp .Add) (rOr rIAdd (rOr rCat rSAdd')) := oOr op_add (oOr op_cat op_add_str)
abbrev rIMul : R2 := rI CMul fun i j => .int (i * j)
theorem oMul : OpR X (binaryOp .Mult) (rOr rIMul rRep) := oOr op_mul op_rep
theorem oLt : OpR X (compareOp .Lt) (rI0 fun i j => .bl (decide (i < j))) := op_lt
variable {K : PySem.W.Frag}
theorem oEq (hu : X.A.units + 64 < cLine) (e : X.K = K := by rfl) : OpR X (compareOp .Eq) (rOr rEq (rEqD K)) := by cases e; exact oOr op_eq (op_eqD hu)
theorem oNe (hu : X.A.units + 64 < cLine) (e : X.K = K := by rfl) : OpR X (compareOp .NotEq) (rOr rNe (rNeD K)) := by cases e; exact oOr op_ne (op_neD hu)
theorem oIn (e : X.K = K := by rfl) : OpR X (compareOp .In) (rIn K false) := by cases e; exact op_in_seq
theorem oNotIn (e : X.K = K := by rfl) : OpR X (compareOp .NotIn) (rIn K true) := by cases e; exact op_notIn_seq
abbrev rIxLT (K : PySem.W.Frag) : R2 := fun x y H Q => rIxL K x y H Q ∨ rIxT K x y H Q
theorem ixLT (e : X.K = K := by rfl) : IxR X (rIxLT K) := by cases e; exact IxR.or ix_list ix_tup
def rLen' (K : PySem.W.Frag) : List V → Hp → VK → Prop := fun xs H Q => ∃ x n, xs = [x] ∧ LenV K x H n ∧ Q (.int n) H
theorem cLen (e : X.K = K := by rfl) : CallR X (.builtin "len") (rLen' K) := by cases e; exact call_len
theorem cIsi (e : X.K = K := by rfl) : CallR X (.builtin "isinstance") (rIsi K) := by cases e; exact call_isi
theorem cIsiT (e : X.K = K := by rfl) : CallR X (.builtin "isinstance") (rIsiT K) := by cases e; exact call_isiT
def rIsN0 : R2 := fun x y H Q => y = .non ∧ Q (.bl (decide (x = .non))) H
def rNoN0 : R2 := fun x y H Q => y = .non ∧ Q (.bl (!decide (x = .non))) H
theorem oIsN : OpR X (compareOp .Is) rIsN0 := op_isN
theorem oNotN : OpR X (compareOp .IsNot) rNoN0 := op_notN
theorem cAll (hc : X.calm = true) (e : X.K = K := by rfl) : CallR X (.builtin "all") (rAll K) := by cases e; exact cr_all hc
theorem cAny (hc : X.calm = true) (e : X.K = K := by rfl) : CallR X (.builtin "any") (rAny K) := by cases e; exact cr_any hc
theorem cSortI (e : X.K = K := by rfl) : CallR X (.builtin "sorted") (rSortedI K) := by cases e; exact cr_sortedI
def rListOf (K : PySem.W.Frag) : List V → Hp → VK → Prop := fun xs H Q => ∃ p ys, xs = [.ref p] ∧ (SqL K H p ys ∨ SqT K H p ys) ∧ ∀ l, H l = none → Q (.ref l) (upd H l (.lst ys))
theorem cListOf (e : X.K = K := by rfl) : CallR X (.type "list") (rListOf K) := by cases e; exact call_list_of
def rTupOf (K : PySem.W.Frag) : List V → Hp → VK → Prop := fun xs H Q => ∃ p ys, xs = [.ref p] ∧ ((SqL K H p ys ∧ ∀ l, H l = none → Q (.ref l) (upd H l (.tup ys))) ∨ (SqT K H p ys ∧ Q (.ref p) H))
theorem cTupOf (e : X.K = K := by rfl) : CallR X (.type "tuple") (rTupOf K) := by cases e; exact call_tuple_of
def rInt1 : List V → Hp → VK → Prop := fun xs H Q => (∃ i, xs = [.int i] ∧ Q (.int i) H) ∨ ∃ k, xs = [.bl k] ∧ Q (.int (if k then 1 else 0)) H
theorem cInt : CallR X (.type "int") rInt1 := call_int1
def rAbs : List V → Hp → VK → Prop := fun xs H Q => ∃ i, xs = [.int i] ∧ Q (.int (if i < 0 then -i else i)) H
theorem cAbs : CallR X (.builtin "abs") rAbs := call_abs
def rMin2 : List V → Hp → VK → Prop := fun xs H Q => ∃ i j, xs = [.int i, .int j] ∧ Q (.int (if j < i then j else i)) H
theorem cMin2 (hc : X.calm = true) : CallR X (.builtin "min") rMin2 := call_min2 hc
def rMax2 : List V → Hp → VK → Prop := fun xs H Q => ∃ i j, xs = [.int i, .int j] ∧ Q (.int (if j > i then j else i)) H
theorem cMax2 (hc : X.calm = true) : CallR X (.builtin "max") rMax2 := call_max2 hc
theorem slL (e : X.K = K := by rfl) : SlR X (rSlL K) := by cases e; exact sl_list
theorem piL {tg l : Expr} {tl : TE} (hl : PE X l tl) (e : X.K = K := by rfl) : PI X tg l (iList K tl) := by cases e; exact pi_list hl
theorem piT {tg l : Expr} {tl : TE} (hl : PE X l tl) (e : X.K = K := by rfl) : PI X tg l (iTup K tl) := by cases e; exact pi_tup hl
theorem piEnum {ex : Expr} {ta : TA} {p pos tpos : Pos} {elts : List Expr} {kk : Nat} (hg : Gl X "enumerate") (hm : X.mg "enumerate" = none) (ha : PA X [ex] ta) (e : X.K = K := by rfl) (hs : starEach [ex] X.env = [(false, eval ex X.env)] := by rfl) :
    PI X (.Tuple elts kk tpos) (.Call (.Name "enumerate" p) [ex] [] pos) (iEnum K ta) := by cases e; exact pi_enum hg hm ha hs
theorem piRev {tg ex : Expr} {te : TE} {p pos : Pos} (hg : Gl X "reversed") (hm : X.mg "reversed" = none) (he : PE X ex te) (e : X.K = K := by rfl) (hs : starEach [ex] X.env = (false, eval ex X.env) :: starEach [] X.env := by rfl) :
    PI X tg (.Call (.Name "reversed" p) [ex] [] pos) (iRevA K te) := by cases e; exact pi_revA hg hm he hs
theorem pgTup {es : List Expr} {k : Nat} {t : TGs} {n : Nat} {p : Pos} (h : PG X (.Tuple es k p) (gTup X.K n t)) (e : X.K = K := by rfl) : PG X (.Tuple es k p) (gTup K n t) := by cases e; exact h
theorem peApp {o ex : Expr} {to te : TE} {apos cpos : Pos} (h : PE X (.Call (.Attribute o "append" apos) [ex] [] cpos) (tBM X.K "list" rAppend to (tCons te tNil))) (e : X.K = K := by rfl) :
    PE X (.Call (.Attribute o "append" apos) [ex] [] cpos) (tBM K "list" rAppend to (tCons te tNil)) := by cases e; exact h
def tTruE (K : PySem.W.Frag) (ta : TE) : TT := fun σ H Q => ta σ H fun x H' => ∃ k, TruV K x H' k ∧ Q k H'
theorem ptTruth {a : Expr} {ta : TE} (ha : PE X a ta) (he : ∀ whole, isTrue a X.env whole = (do let v ← whole; standAt a.pos; holding [v] (truthy v))) (e : X.K = K := by rfl) : PT X a (tTruE K ta) := by cases e; exact pt_truth ha he
end

/-! ### heaps -/
theorem Same.new {H : Hp} {p : Addr} {o : HO} (h : H p = none) : Same H (upd H p o) := fun b x e => by
  rw [upd_ne (ne_of_none e h)]; exact e
theorem at_ {H H' : Hp} {a : Addr} {o : HO} (s : Same H H') (h : H a = some o) : H' a = some o := s a o h
theorem rd_ {H H' : Hp} {a : Addr} {o : HO} (s : Same H H') (h : Rd H a o) : Rd H' a o := by
  cases h with
  | inl h => exact .inl (s _ _ h)
  | inr h => exact .inr (h.elim fun u q => ⟨u, s _ _ q⟩)
section
variable {K : PySem.W.Frag} {H H' : Hp} {a p : Addr} {xs : List V} {o : HO}
theorem sl_ (s : Same H H') (h : SqL K H a xs) : SqL K H' a xs := h.elim (fun q => .inl (rd_ s q)) .inr
theorem st_ (s : Same H H') (h : SqT K H a xs) : SqT K H' a xs := h.elim (fun q => .inl (rd_ s q)) .inr
theorem slO (h : H a = some (.lst xs)) : SqL K H a xs := .inl (.inl h)
theorem stO (h : H a = some (.tup xs)) : SqT K H a xs := .inl (.inl h)
theorem ne_new (h : H a = some o) (n : H p = none) : a ≠ p := ne_of_none h n
theorem free_ (s : Same H H') (n : H' p = none) : H p = none := s.free n
end
theorem lt_size {n : Nat} (h : n < 100000) : n < sizeLine := Nat.lt_of_lt_of_le h (by decide)
theorem le_size {n : Nat} (h : n < 100000) : n ≤ sizeLine := Nat.le_of_lt (lt_size h)
/-- a new object, wherever -/
def NewQ (o : HO) (H : Hp) (Q : VK) : Prop := ∀ p, H p = none → Q (.ref p) (upd H p o)
/-- all but one object is as it was -/
def Oth (hd : Addr) (H H' : Hp) : Prop := ∀ b o, b ≠ hd → H b = some o → H' b = some o
theorem oth_sl {K : PySem.W.Frag} {hd a : Addr} {H H' : Hp} {xs : List V} (o : Oth hd H H') (n : a ≠ hd) (s : SqL K H a xs) : SqL K H' a xs := by
  rcases s with (s | ⟨u, s⟩) | s
  · exact .inl (.inl (o _ _ n s))
  · exact .inl (.inr ⟨u, o _ _ n s⟩)
  · exact .inr s
theorem oth_st {K : PySem.W.Frag} {hd a : Addr} {H H' : Hp} {xs ys : List V} (o : Oth hd H H') (n : H hd = some (.lst ys)) (s : SqT K H a xs) : SqT K H' a xs := by
  rcases s with (s | ⟨u, s⟩) | s
  · exact .inl (.inl (o _ _ (fun z => by rw [z, n] at s; cases s) s))
  · exact .inl (.inr ⟨u, o _ _ (fun z => by rw [z, n] at s; cases s) s⟩)
  · exact .inr s
theorem Oth.trans {hd : Addr} {H H1 H2 : Hp} (a : Oth hd H H1) (b : Oth hd H1 H2) : Oth hd H H2 := fun c o n h => b c o n (a c o n h)
theorem Same.oth {hd : Addr} {H H' : Hp} (s : Same H H') : Oth hd H H' := fun c o _ h => s c o h

/-! ### one step of a reading -/
section
variable {K : PySem.W.Frag} {σ : L2.St} {H : Hp} {Q : VK} {QB : Bool → Hp → Prop} {QA : List V → Hp → Prop} {D : Ends} {ta tb te : TE} {t u : TS} {c d : TT} {i : Nat} {v : V} {b : Bool}
theorem s_seq (h : t { D with nx := u D } σ H) : tSeq t u D σ H := h
theorem s_cut (M : L2.St → Hp → Prop) (h : t { D with nx := M } σ H) (k : ∀ σ' H', M σ' H' → u D σ' H') : Evl.tCut t u D σ H := ⟨M, h, k⟩
theorem s_next (h : D.nx σ H) : tNext D σ H := h
theorem s_brk (h : D.bk σ H) : tBreak D σ H := h
theorem s_cont (h : D.ct σ H) : tCont D σ H := h
theorem s_set (h : te σ H fun x H1 => D.nx (σ.set i (some x)) H1) : tAsg te (gName i) D σ H := h
theorem s_asg {g : TG} (h : te σ H fun x H1 => g x σ H1 D.nx) : tAsg te g D σ H := h
theorem s_ret (h : te σ H D.rt) : tRet te D σ H := h
theorem s_retN (h : D.rt .non H) : tRetN D σ H := h
theorem s_drop (h : te σ H fun _ H1 => D.nx σ H1) : tDrop te D σ H := h
theorem s_if (h : c σ H fun b H1 => if b = true then t D σ H1 else u D σ H1) : tIfS c t u D σ H := h
theorem s_aug {ti : TIp} {x : V} (e : σ[i]? = some (some x)) (h : te σ H fun y H1 => ti x y H1 fun z H2 => D.nx (σ.set i (some z)) H2) : tAug i te ti D σ H := ⟨x, e, h⟩
theorem s_ipI {f : Int → Int → Int} {a b : Int} (h : Q (.int (f a b)) H) : ipI f (.int a) (.int b) H Q := ⟨a, b, rfl, rfl, h⟩
theorem e_var (h : σ[i]? = some (some v)) (q : Q v H) : tVar i σ H Q := ⟨v, h, q⟩
theorem e_c (q : Q v H) : tC v σ H Q := q
theorem e_op {r : R2} (h : ta σ H fun x H1 => tb σ H1 fun y H2 => r x y H2 Q) : tOp r ta tb σ H Q := h
theorem e_un {r : V → Hp → VK → Prop} (h : ta σ H fun x H1 => r x H1 Q) : tUn r ta σ H Q := h
theorem e_neg {a : Int} (h : Q (.int (-a)) H) : rU (fun i => V.int (-i)) (.int a) H Q := ⟨a, rfl, h⟩
theorem e_test (h : te σ H fun x H1 => ∃ k, x = .bl k ∧ QB k H1) : tTest te σ H QB := h
theorem e_tB (h : te σ H fun x H1 => ∃ k, x = .bl k ∧ QB k H1) : tB te σ H QB := h
theorem e_bl (q : QB b H) : ∃ k, V.bl b = .bl k ∧ QB k H := ⟨b, rfl, q⟩
theorem e_and (h : c σ H fun b H1 => if b = true then d σ H1 QB else QB false H1) : tAnd c d σ H QB := h
theorem e_or (h : c σ H fun b H1 => if b = true then QB true H1 else d σ H1 QB) : tOr c d σ H QB := h
theorem e_not (h : c σ H fun b H1 => QB (!b) H1) : tNot c σ H QB := h
theorem e_andV (h : ta σ H fun x H1 => ∃ k, x = .bl k ∧ if k = true then tb σ H1 Q else Q (.bl false) H1) : tAndV ta tb σ H Q := h
theorem e_orV (h : ta σ H fun x H1 => ∃ k, x = .bl k ∧ if k = true then Q (.bl true) H1 else tb σ H1 Q) : tOrV ta tb σ H Q := h
theorem e_notV (h : ta σ H fun x H1 => ∃ k, x = .bl k ∧ Q (.bl (!k)) H1) : tNotV ta σ H Q := h
theorem e_kV {P : Bool → Prop} (q : P b) : ∃ k, V.bl b = .bl k ∧ P k := ⟨b, rfl, q⟩
theorem e_ife (h : c σ H fun b H1 => if b = true then ta σ H1 Q else tb σ H1 Q) : tIf c ta tb σ H Q := h
theorem e_nil (q : QA [] H) : tNil σ H QA := q
theorem e_cons {tr : TA} (h : ta σ H fun x H1 => tr σ H1 fun xs H2 => QA (x :: xs) H2) : tCons ta tr σ H QA := h
theorem e_cb {r : List V → Hp → VK → Prop} {tt : TA} (h : tt σ H fun vs H1 => r vs H1 Q) : tCB r tt σ H Q := h
theorem e_call {sp : Sp} {dvs : List V} {E : XK} {tt : TA} (h : tt σ H fun vs H1 => sp (vs ++ dvs) H1 Q E) : tCall sp dvs E tt σ H Q := h
theorem e_chain {r r' : R2} {tc : TE} (h : ta σ H fun x H1 => tb σ H1 fun y H2 => r x y H2 fun z H3 => ∃ k, z = .bl k ∧ if k = true then tc σ H3 fun w H4 => r' y w H4 Q else Q (.bl false) H3) : tChain r r' ta tb tc σ H Q := h
theorem o_l {r r' : R2} {x y : V} (h : r x y H Q) : rOr r r' x y H Q := .inl h
theorem o_r {r r' : R2} {x y : V} (h : r' x y H Q) : rOr r r' x y H Q := .inr h
theorem o_I0 {g : Int → Int → V} {a b : Int} (h : Q (g a b) H) : rI0 g (.int a) (.int b) H Q := ⟨a, b, rfl, rfl, h⟩
theorem o_addI {r' : R2} {a b : Int} (h : Q (.int (a + b)) H) : rOr rIAdd r' (.int a) (.int b) H Q := .inl ⟨a, b, rfl, rfl, h⟩
theorem o_mod {a b : Int} (hb : 0 < b) (h : Q (.int (a % b)) H) : rI (fun _ j => 0 < j) (fun i j => V.int (i % j)) (.int a) (.int b) H Q := ⟨a, b, rfl, rfl, hb, h⟩
theorem o_modL {a b : Int} (hb : 0 < b) (h : ∀ r, 0 ≤ r → r < b → Q (.int r) H) : rI (fun _ j => 0 < j) (fun i j => V.int (i % j)) (.int a) (.int b) H Q := o_mod hb (h _ (Int.emod_nonneg _ (by omega)) (Int.emod_lt_of_pos _ hb))
theorem o_mulR {r' : R2} {a b : Int} (hb : -(2 ^ 64) < b ∧ b < 2 ^ 64) (h : Q (.int (a * b)) H) : rOr rIMul r' (.int a) (.int b) H Q := .inl ⟨a, b, rfl, rfl, .inr hb, h⟩
theorem o_mulL {r' : R2} {a b : Int} (ha : -(2 ^ 64) < a ∧ a < 2 ^ 64) (h : Q (.int (a * b)) H) : rOr rIMul r' (.int a) (.int b) H Q := .inl ⟨a, b, rfl, rfl, .inl ha, h⟩
theorem o_divW {a b : Int} (n : Nat) (hb : 0 < b) (h1 : b < 2 ^ n) (h2 : 0 < n) (h3 : n ≤ 9000) (h : Q (.int (a / b)) H) : rI CDivW (fun i j => V.int (i / j)) (.int a) (.int b) H Q := ⟨a, b, rfl, rfl, wide_div (b := n) hb (by
  have e : ((2 ^ n : Nat) : Int) = (2 : Int) ^ n := by rw [Int.natCast_pow]; rfl
  have : (b.natAbs : Int) = b := by omega
  have h4 : ((b.natAbs : Nat) : Int) < ((2 ^ n : Nat) : Int) := by rw [this, e]; exact h1
  exact Int.ofNat_lt.mp h4) h2 h3, h⟩
theorem o_div {a b : Int} (hb : 0 < b) (h1 : b < 2 ^ 100) (h : Q (.int (a / b)) H) : rI CDivW (fun i j => V.int (i / j)) (.int a) (.int b) H Q := o_divW 100 hb h1 (by decide) (by decide) h
theorem o_pow {a b : Int} (n : Nat) (e : b = (n : Nat)) (h0 : n ≤ 1000000) (h1 : a.natAbs < 2 ^ 64) (h : Q (.int (a ^ n)) H) : rI CPow (fun i j => V.int (i ^ j.toNat)) (.int a) (.int b) H Q := ⟨a, b, rfl, rfl, ⟨by omega, by omega, h1⟩, by
  have e2 : b.toNat = n := by omega
  show Q (.int (a ^ b.toNat)) H
  rw [e2]; exact h⟩
theorem o_pow1 (h : Q (.int 10) H) : rI CPow (fun i j => V.int (i ^ j.toNat)) (.int 10) (.int 1) H Q := o_pow 1 rfl (by decide) (by decide) (by rw [(by decide : (10 : Int) ^ 1 = 10)]; exact h)
theorem o_pow2 (h : Q (.int 100) H) : rI CPow (fun i j => V.int (i ^ j.toNat)) (.int 10) (.int 2) H Q := o_pow 2 rfl (by decide) (by decide) (by rw [(by decide : (10 : Int) ^ 2 = 100)]; exact h)
theorem o_pow3 (h : Q (.int 1000) H) : rI CPow (fun i j => V.int (i ^ j.toNat)) (.int 10) (.int 3) H Q := o_pow 3 rfl (by decide) (by decide) (by rw [(by decide : (10 : Int) ^ 3 = 1000)]; exact h)
theorem o_pow4 (h : Q (.int 10000) H) : rI CPow (fun i j => V.int (i ^ j.toNat)) (.int 10) (.int 4) H Q := o_pow 4 rfl (by decide) (by decide) (by rw [(by decide : (10 : Int) ^ 4 = 10000)]; exact h)
theorem o_pow5 (h : Q (.int 100000) H) : rI CPow (fun i j => V.int (i ^ j.toNat)) (.int 10) (.int 5) H Q := o_pow 5 rfl (by decide) (by decide) (by rw [(by decide : (10 : Int) ^ 5 = 100000)]; exact h)
theorem o_pow6 (h : Q (.int 1000000) H) : rI CPow (fun i j => V.int (i ^ j.toNat)) (.int 10) (.int 6) H Q := o_pow 6 rfl (by decide) (by decide) (by rw [(by decide : (10 : Int) ^ 6 = 1000000)]; exact h)
theorem o_pow9 (h : Q (.int 1000000000) H) : rI CPow (fun i j => V.int (i ^ j.toNat)) (.int 10) (.int 9) H Q := o_pow 9 rfl (by decide) (by decide) (by rw [(by decide : (10 : Int) ^ 9 = 1000000000)]; exact h)
theorem o_pow10 (h : Q (.int 10000000000) H) : rI CPow (fun i j => V.int (i ^ j.toNat)) (.int 10) (.int 10) H Q := o_pow 10 rfl (by decide) (by decide) (by rw [(by decide : (10 : Int) ^ 10 = 10000000000)]; exact h)
theorem o_pow12 (h : Q (.int 1000000000000) H) : rI CPow (fun i j => V.int (i ^ j.toNat)) (.int 10) (.int 12) H Q := o_pow 12 rfl (by decide) (by decide) (by rw [(by decide : (10 : Int) ^ 12 = 1000000000000)]; exact h)
theorem o_pow15 (h : Q (.int 1000000000000000) H) : rI CPow (fun i j => V.int (i ^ j.toNat)) (.int 10) (.int 15) H Q := o_pow 15 rfl (by decide) (by decide) (by rw [(by decide : (10 : Int) ^ 15 = 1000000000000000)]; exact h)
theorem o_pow16 (h : Q (.int 10000000000000000) H) : rI CPow (fun i j => V.int (i ^ j.toNat)) (.int 10) (.int 16) H Q := o_pow 16 rfl (by decide) (by decide) (by rw [(by decide : (10 : Int) ^ 16 = 10000000000000000)]; exact h)
theorem o_pow17 (h : Q (.int 100000000000000000) H) : rI CPow (fun i j => V.int (i ^ j.toNat)) (.int 10) (.int 17) H Q := o_pow 17 rfl (by decide) (by decide) (by rw [(by decide : (10 : Int) ^ 17 = 100000000000000000)]; exact h)
theorem o_pow18 (h : Q (.int 1000000000000000000) H) : rI CPow (fun i j => V.int (i ^ j.toNat)) (.int 10) (.int 18) H Q := o_pow 18 rfl (by decide) (by decide) (by rw [(by decide : (10 : Int) ^ 18 = 1000000000000000000)]; exact h)
theorem o_pow19 (h : Q (.int 10000000000000000000) H) : rI CPow (fun i j => V.int (i ^ j.toNat)) (.int 10) (.int 19) H Q := o_pow 19 rfl (by decide) (by decide) (by rw [(by decide : (10 : Int) ^ 19 = 10000000000000000000)]; exact h)
theorem o_pow20 (h : Q (.int 100000000000000000000) H) : rI CPow (fun i j => V.int (i ^ j.toNat)) (.int 10) (.int 20) H Q := o_pow 20 rfl (by decide) (by decide) (by rw [(by decide : (10 : Int) ^ 20 = 100000000000000000000)]; exact h)
theorem o_pow30 (h : Q (.int 1000000000000000000000000000000) H) : rI CPow (fun i j => V.int (i ^ j.toNat)) (.int 10) (.int 30) H Q := o_pow 30 rfl (by decide) (by decide) (by rw [(by decide : (10 : Int) ^ 30 = 1000000000000000000000000000000)]; exact h)
theorem o_pow31 (h : Q (.int 10000000000000000000000000000000) H) : rI CPow (fun i j => V.int (i ^ j.toNat)) (.int 10) (.int 31) H Q := o_pow 31 rfl (by decide) (by decide) (by rw [(by decide : (10 : Int) ^ 31 = 10000000000000000000000000000000)]; exact h)
theorem set_ {p : Addr} {xs : List V} {k : Int} {j : Nat} {R : Hp → Prop} (h : H p = some (.lst xs)) (e : ixN xs.length k = some j) (q : ∀ H2, Oth p H H2 → H2 p = some (.lst (xs.set j v)) → R H2) : rSetL (.ref p) (.int k) v H R :=
  ⟨p, xs, k, j, rfl, rfl, h, e, q _ (fun b o n z => by rw [upd_ne n]; exact z) upd_same⟩
theorem g_sub {to ti : TE} {tset : TSet} {R : L2.St → Hp → Prop} (h : to σ H fun o H1 => ti σ H1 fun i H2 => tset o i v H2 fun H3 => R σ H3) : gSub to ti tset v σ H R := h
theorem o_eqS {r' : R2} {x y : V} (s : scal x y = true) (h : Q (.bl (decide (x = y))) H) : rOr rEq r' x y H Q := .inl ⟨s, h⟩
theorem o_eqI {r' : R2} {a b : Int} (h : Q (.bl (decide (a = b))) H) : rOr rEq r' (.int a) (.int b) H Q := .inl ⟨rfl, by
  have e : decide (V.int a = V.int b) = decide (a = b) := by
    by_cases q : a = b
    · rw [decide_eq_true q, q]; exact decide_eq_true rfl
    · rw [decide_eq_false q]; exact decide_eq_false fun z => q (V.int.inj z)
  rw [e]; exact h⟩
theorem o_neI {r' : R2} {a b : Int} (h : Q (.bl (decide (a ≠ b))) H) : rOr rNe r' (.int a) (.int b) H Q := .inl ⟨rfl, by
  have e : (!decide (V.int a = V.int b)) = decide (a ≠ b) := by
    by_cases q : a = b
    · rw [decide_eq_false (show ¬ a ≠ b from fun z => z q), q, decide_eq_true rfl] <;> rfl
    · rw [decide_eq_true (show a ≠ b from q), decide_eq_false fun z => q (V.int.inj z)] <;> rfl
  rw [e]; exact h⟩
theorem o_ixL {p : Addr} {xs : List V} {a : Int} (s : SqL K H p xs) (e : atI xs a = some v) (q : Q v H) : rIxLT K (.ref p) (.int a) H Q := .inl ⟨p, xs, a, v, rfl, rfl, s, e, q⟩
theorem o_ixT {p : Addr} {xs : List V} {a : Int} (s : SqT K H p xs) (e : atI xs a = some v) (q : Q v H) : rIxLT K (.ref p) (.int a) H Q := .inr ⟨p, xs, a, v, rfl, rfl, s, e, q⟩
theorem o_ixA {p : Addr} {xs : List V} {a : Int} (s : H p = some (.lst xs)) (e : atI xs a = some v) (q : Q v H) : rIxLT K (.ref p) (.int a) H Q := o_ixL (slO s) e q
theorem o_ixU {p : Addr} {xs : List V} {a : Int} (s : H p = some (.tup xs)) (e : atI xs a = some v) (q : Q v H) : rIxLT K (.ref p) (.int a) H Q := o_ixT (stO s) e q
theorem ixN_in {n : Nat} {z : Int} {j : Nat} (e : z = (j : Nat)) (h : j < n) : ixN n z = some j := by
  unfold ixN
  rw [if_pos (by omega), if_pos (by omega)]
  congr 1; omega
theorem atI_in {α : Type} {xs : List α} {z : Int} {j : Nat} {x : α} (e : z = (j : Nat)) (h : xs[j]? = some x) : atI xs z = some x := by
  have hj : j < xs.length := (List.getElem?_eq_some_iff.mp h).1
  unfold atI
  rw [ixN_in e hj]
  exact h
theorem e_lenL {p : Addr} {xs : List V} (s : SqL K H p xs) (q : Q (.int (xs.length : Nat)) H) : rLen' K [.ref p] H Q := ⟨_, xs.length, rfl, .inl ⟨xs, s, rfl⟩, q⟩
theorem e_lenM {α : Type} {f : α → V} {p : Addr} {xs : List α} (s : SqL K H p (xs.map f)) (q : Q (.int (xs.length : Nat)) H) : rLen' K [.ref p] H Q := e_lenL s (by rw [List.length_map]; exact q)
theorem e_lenN {α : Type} {f : α → V} {p : Addr} {xs : List α} (s : SqT K H p (xs.map f)) (q : Q (.int (xs.length : Nat)) H) : rLen' K [.ref p] H Q := ⟨_, xs.length, rfl, .inr ⟨_, s, by rw [List.length_map]⟩, q⟩
theorem e_lenT {p : Addr} {xs : List V} (s : SqT K H p xs) (q : Q (.int (xs.length : Nat)) H) : rLen' K [.ref p] H Q := ⟨_, xs.length, rfl, .inr ⟨xs, s, rfl⟩, q⟩
theorem i_t {A B : Prop} (hb : b = true) (q : A) : if b = true then A else B := by rw [if_pos hb]; exact q
theorem i_f {A B : Prop} (hb : b = false) (q : B) : if b = true then A else B := by rw [hb]; exact iteF q
theorem i_nt {A B : Prop} (q : B) : if (!true) = true then A else B := q
theorem i_nf {A B : Prop} (q : A) : if (!false) = true then A else B := q
theorem i_dt {p A B : Prop} [Decidable p] (hp : p) (q : A) : if decide p = true then A else B := i_t (decide_eq_true hp) q
theorem i_df {p A B : Prop} [Decidable p] (hp : ¬ p) (q : B) : if decide p = true then A else B := i_f (decide_eq_false hp) q
theorem i_ndt {p A B : Prop} [Decidable p] (hp : ¬ p) (q : A) : if (!decide p) = true then A else B := i_t (by rw [decide_eq_false hp]; rfl) q
theorem i_ndf {p A B : Prop} [Decidable p] (hp : p) (q : B) : if (!decide p) = true then A else B := i_f (by rw [decide_eq_true hp]; rfl) q
theorem i_d {p A B : Prop} [Decidable p] (h1 : p → A) (h2 : ¬ p → B) : if decide p = true then A else B := by
  by_cases hp : p
  · exact i_dt hp (h1 hp)
  · exact i_df hp (h2 hp)
/-- a new list, a new tuple -/
theorem e_lst {tt : TA} (h : tt σ H fun xs H1 => xs.length ≤ sizeLine ∧ NewQ (.lst xs) H1 Q) : tLst tt σ H Q := h
theorem e_tup {tt : TA} (h : tt σ H fun xs H1 => xs.length ≤ sizeLine ∧ NewQ (.tup xs) H1 Q) : tTup tt σ H Q := h
theorem n_new {n : Nat} {o : HO} (hl : n ≤ sizeLine) (h : ∀ p H2, H p = none → Same H H2 → H2 p = some o → Q (.ref p) H2) : n ≤ sizeLine ∧ NewQ o H Q := ⟨hl, fun p hp => h p _ hp (Same.new hp) upd_same⟩
theorem n_new0 {o : HO} (h : ∀ p H2, H p = none → Same H H2 → H2 p = some o → Q (.ref p) H2) : NewQ o H Q := fun p hp => h p _ hp (Same.new hp) upd_same
theorem c_listL {p : Addr} {xs : List V} (s : SqL K H p xs) (q : NewQ (.lst xs) H Q) : rListOf K [.ref p] H Q := ⟨p, xs, rfl, .inl s, q⟩
theorem c_listT {p : Addr} {xs : List V} (s : SqT K H p xs) (q : NewQ (.lst xs) H Q) : rListOf K [.ref p] H Q := ⟨p, xs, rfl, .inr s, q⟩
theorem c_tupL {p : Addr} {xs : List V} (s : SqL K H p xs) (q : NewQ (.tup xs) H Q) : rTupOf K [.ref p] H Q := ⟨p, xs, rfl, .inl ⟨s, q⟩⟩
theorem c_tupT {p : Addr} {xs : List V} (s : SqT K H p xs) (q : Q (.ref p) H) : rTupOf K [.ref p] H Q := ⟨p, xs, rfl, .inr ⟨s, q⟩⟩
theorem isi_ {x : V} {t n : String} {b : Bool} (ty : TyX K H x (.type t)) (e : kitB t n = some b) (q : Q (.bl b) H) : rIsi K [x, .ty n] H Q := ⟨x, .ty n, .type t, .type n, b, rfl, .ty n, ty, kit_ty e, q⟩
theorem isi_int {a : Int} {n : String} (b : Bool) (e : kitB "int" n = some b) (q : Q (.bl b) H) : rIsi K [.int a, .ty n] H Q := isi_ (.base (.int a)) e q
theorem isi_non {n : String} (b : Bool) (e : kitB "NoneType" n = some b) (q : Q (.bl b) H) : rIsi K [.non, .ty n] H Q := isi_ (.base .non) e q
theorem isi_str {z : Str} {n : String} (b : Bool) (e : kitB "str" n = some b) (q : Q (.bl b) H) : rIsi K [.str z, .ty n] H Q := isi_ (.base (.str z)) e q
theorem isi_bl {z : Bool} {n : String} (b : Bool) (e : kitB "bool" n = some b) (q : Q (.bl b) H) : rIsi K [.bl z, .ty n] H Q := isi_ (.base (.bl z)) e q
theorem isi_tup {a : Addr} {xs : List V} {n : String} (b : Bool) (h : H a = some (.tup xs)) (e : kitB "tuple" n = some b) (q : Q (.bl b) H) : rIsi K [.ref a, .ty n] H Q := isi_ (.base (.tup h)) e q
theorem isi_lst {a : Addr} {xs : List V} {n : String} (b : Bool) (h : H a = some (.lst xs)) (e : kitB "list" n = some b) (q : Q (.bl b) H) : rIsi K [.ref a, .ty n] H Q := isi_ (.base (.lst h)) e q
theorem t_bl {PB : Bool → Prop} (q : PB b) : ∃ k, TruV K (.bl b) H k ∧ PB k := ⟨b, rfl, q⟩
theorem t_non {PB : Bool → Prop} (q : PB false) : ∃ k, TruV K .non H k ∧ PB k := ⟨false, rfl, q⟩
theorem t_int {PB : Bool → Prop} {a : Int} (q : PB (decide (a ≠ 0))) : ∃ k, TruV K (.int a) H k ∧ PB k := ⟨_, rfl, by
  have e : (a != 0) = decide (a ≠ 0) := by
    by_cases h : a = 0
    · subst h; rfl
    · rw [decide_eq_true h]; simpa using h
  rw [e]; exact q⟩
theorem t_lst {PB : Bool → Prop} {p : Addr} {xs : List V} (s : SqL K H p xs) (q : PB (!xs.isEmpty)) : ∃ k, TruV K (.ref p) H k ∧ PB k := ⟨_, .inl ⟨xs, s, rfl⟩, q⟩
theorem t_tup {PB : Bool → Prop} {p : Addr} {xs : List V} (s : SqT K H p xs) (q : PB (!xs.isEmpty)) : ∃ k, TruV K (.ref p) H k ∧ PB k := ⟨_, .inr (.inl ⟨xs, s, rfl⟩), q⟩
theorem isN_non (q : Q (.bl true) H) : rIsN0 .non .non H Q := ⟨rfl, q⟩
theorem isN_int {a : Int} (q : Q (.bl false) H) : rIsN0 (.int a) .non H Q := ⟨rfl, q⟩
theorem isN_ref {a : Addr} (q : Q (.bl false) H) : rIsN0 (.ref a) .non H Q := ⟨rfl, q⟩
theorem isN_str {a : Str} (q : Q (.bl false) H) : rIsN0 (.str a) .non H Q := ⟨rfl, q⟩
theorem isN_bl {a : Bool} (q : Q (.bl false) H) : rIsN0 (.bl a) .non H Q := ⟨rfl, q⟩
theorem noN_non (q : Q (.bl false) H) : rNoN0 .non .non H Q := ⟨rfl, q⟩
theorem noN_int {a : Int} (q : Q (.bl true) H) : rNoN0 (.int a) .non H Q := ⟨rfl, q⟩
theorem noN_ref {a : Addr} (q : Q (.bl true) H) : rNoN0 (.ref a) .non H Q := ⟨rfl, q⟩
theorem noN_str {a : Str} (q : Q (.bl true) H) : rNoN0 (.str a) .non H Q := ⟨rfl, q⟩
theorem noN_bl {a : Bool} (q : Q (.bl true) H) : rNoN0 (.bl a) .non H Q := ⟨rfl, q⟩
theorem tyx_st {a : Addr} {xs : List V} (s : SqT K H a xs) : TyX K H (.ref a) (.type "tuple") := by
  rcases s with (s | ⟨o, s⟩) | ⟨o, its, n, hk, hc, _⟩
  · exact .base (.tup s)
  · exact .fTuple s
  · exact .kTuple hk hc
theorem tyx_sl {a : Addr} {xs : List V} (s : SqL K H a xs) : TyX K H (.ref a) (.type "list") := by
  rcases s with (s | ⟨o, s⟩) | ⟨o, its, n, hk, hc, _⟩
  · exact .base (.lst s)
  · exact .base (.frz s)
  · exact .kList hk hc
theorem isi_t {a : Addr} {xs : List V} {n : String} (b : Bool) (s : SqT K H a xs) (e : kitB "tuple" n = some b) (q : Q (.bl b) H) : rIsi K [.ref a, .ty n] H Q := isi_ (tyx_st s) e q
theorem isi_l {a : Addr} {xs : List V} {n : String} (b : Bool) (s : SqL K H a xs) (e : kitB "list" n = some b) (q : Q (.bl b) H) : rIsi K [.ref a, .ty n] H Q := isi_ (tyx_sl s) e q
theorem e_allB {p : Addr} {bs : List Bool} (s : H p = some (.lst (bs.map V.bl))) (q : Q (.bl (bs.all id)) H) : rAll K [.ref p] H Q := ⟨p, bs, rfl, slO s, q⟩
theorem c_int {a : Int} (q : Q (.int a) H) : rInt1 [V.int a] H Q := .inl ⟨a, rfl, q⟩
theorem c_abs {a : Int} (q : Q (.int (if a < 0 then -a else a)) H) : rAbs [V.int a] H Q := ⟨a, rfl, q⟩
theorem c_min2 {a b : Int} (q : Q (.int (if b < a then b else a)) H) : rMin2 [V.int a, V.int b] H Q := ⟨a, b, rfl, q⟩
theorem c_max2 {a b : Int} (q : Q (.int (if b > a then b else a)) H) : rMax2 [V.int a, V.int b] H Q := ⟨a, b, rfl, q⟩
theorem e_tru (h : te σ H fun x H1 => ∃ k, TruV K x H1 k ∧ QB k H1) : tTruE K te σ H QB := h
theorem e_app {to : TE} (h : to σ H fun x H1 => ∃ l xs, x = .ref l ∧ SqL K H1 l xs ∧ te σ H1 fun y H2 => ∃ ys, H2 l = some (.lst ys) ∧ ys.length < sizeLine ∧ Q .non (upd H2 l (.lst (ys ++ [y])))) (mono : ∀ (H : Hp) (R R' : V → Hp → Prop), (∀ x H1, R x H1 → R' x H1) → to σ H R → to σ H R') (mono2 : ∀ (H : Hp) (R R' : V → Hp → Prop), (∀ x H1, R x H1 → R' x H1) → te σ H R → te σ H R') :
    tBM K "list" rAppend to (tCons te tNil) σ H Q := by
  refine mono H _ _ (fun x H1 q => ?_) h
  obtain ⟨l, xs, rfl, s, q⟩ := q
  refine ⟨.inl ⟨rfl, xs, s⟩, ?_⟩
  exact mono2 H1 _ _ (fun y H2 ⟨ys, h1, h2, h3⟩ => ⟨l, ys, y, rfl, rfl, h1, h2, h3⟩) q
end
/-- a def of the text as it stands, a constant of the text -/
structure DefAt (K : PySem.W.Frag) (mg : Str → Option Value) (x qual : Str) (st : Stmt) (ps : List Str) where
  f : Addr
  fd : FuncData
  F : Fun K x qual st f fd
  b : Binds K fd ps []
  g : mg x = some (.ref f)
structure CAt (mg : Str → Option Value) (x : Str) (v : V) where
  u : Value
  h : mg x = some u
  r : RelV v u
def defAt_mk {K : PySem.W.Frag} {mg : Str → Option Value} {h : Heap} {x qual : Str} {st : Stmt} {ps : List Str} {f : Addr} {od an : Option Addr} {sl : Array (Option Value)} {oc kV dc pm cd ct : Value} (X : K.In h) (G : h.Ns mainGlobals mg)
    (a : PySem.W.nsIn K mainGlobals x = some (some (.ref f))) (l : K.lookup f = some ⟨oc, od, .func (PySem.W.fnOf x qual (defArgs st) (defBody st) (defScope st) .none kV dc pm an cd ct), sl⟩) (c : PySem.W.codeIn K cd qual = true) (k : PySem.W.keepIn K (.ref f) = true)
    (b : ∀ (kV doc pm : Value) (an : Option Addr) (cdv ct : Value) (us : List Value), us.length = ps.length → bindArgs (PySem.W.fnOf x qual (defArgs st) (defBody st) (defScope st) .none kV doc pm an cdv ct) ⟨us, []⟩ = pure (ps.zip us)) : DefAt K mg x qual st ps :=
  ⟨f, _, fun_mk l c k, (fun_mk (st := st) l c k).binds b, PySem.W.mg_of X G a⟩
def cAt_mk {K : PySem.W.Frag} {mg : Str → Option Value} {h : Heap} {x : Str} {u : Value} {v : V} (X : K.In h) (G : h.Ns mainGlobals mg) (a : PySem.W.nsIn K mainGlobals x = some (some u)) (r : RelV v u) : CAt mg x v := ⟨u, PySem.W.mg_of X G a, r⟩
end Vw

set_option Elab.async false
set_option linter.all false
set_option maxRecDepth 100000
set_option maxHeartbeats 4000000
namespace Vw
open PySem PySem.Spec PyProof.Rows L2
/-! ### enumerate of a tuple -/
abbrev ti0 (t : Addr) : Obj := { cls := .type "tuple_iterator", data := .fields #[.ref t, .int 0 0] }
abbrev en0 (i : Addr) : Obj := { cls := .type "enumerate", data := .fields #[.none, .bool false, .ref i, rawInt 0, .none, .none] }
theorem new_enumT (t : Addr) (items : Array Value) :
    Meets (Builtin.«enumerate.__new__» ⟨[.type "enumerate", .ref t], []⟩) (fun _ R s => s.heap.IsTuple t items ∧
      R (.ok (.ret (.ref (s.heap.push (ti0 t)).objs.size))) { s with heap := (s.heap.push (ti0 t)).push (en0 s.heap.objs.size) }) :=
  .of_wp fun prog w A R s h => by
    obtain ⟨hp, g, d, tk, os⟩ := s
    obtain ⟨hL, h⟩ := h
    have hsub := sub_enumerate
    have hL2 := hL
    obtain ⟨⟨oc, od, odt, osl⟩, hl, hc, n, hd⟩ := hL2
    simp only at hc hd
    subst hc hd
    have hL : Heap.IsTuple (Shared.heap ⟨hp, g, d, tk, os⟩) t items := hL
    wp_walk using wpAny_loadPart' hl
    refine wpAny_stack_any fun st => wpAny_pure ?_
    split
    · rename_i c _ _ _ _ _
      cases (c == Value.type "enumerate")
      · wp_walk using wpAny_loadPart' hl, wpAny_pyIter_tuple hL
        exact ⟨_, rfl, h⟩
      · wp_walk using wpAny_loadPart' hl, wpAny_pyIter_tuple hL
        exact ⟨_, rfl, h⟩
    · wp_walk using wpAny_loadPart' hl, wpAny_pyIter_tuple hL
      exact ⟨_, rfl, h⟩
theorem call_enumT {prog : Program} {w : World} {A : Around} {E : Value → Shared → Prop} {s : Shared} {t : Addr} {items : Array Value} {Q : Value → Shared → Prop} (hL : s.heap.IsTuple t items)
    (h : ∀ h', IsEnum h' (s.heap.objs.size + 1) s.heap.objs.size 0 .none → h'.IsTupleIter s.heap.objs.size t 0 →
      (∀ b o, s.heap.get? b = some o → h'.get? b = some o) → Q (.ref (s.heap.objs.size + 1)) { s with heap := h' }) :
    wpAny (model prog w) A (call (.type "enumerate") [.ref t]) Q E s := by
  refine callType_new F.called_enumerate (by decide) (F.typeCall_enumerate_1 _) (F.newCall_enumerate_1 _) (fun obj => F.args_object_init_2 obj _) F.entry_enumerate_new (new_enumT t items) ⟨hL, ?_⟩
  have hz : (s.heap.push (ti0 t)).objs.size = s.heap.objs.size + 1 := Heap.size_push ..
  show _ ∧ _
  rw [hz]
  have he : IsEnum ((s.heap.push (ti0 t)).push (en0 s.heap.objs.size)) (s.heap.objs.size + 1) s.heap.objs.size 0 .none := by
    have q := Heap.get?_push_size (s.heap.push (ti0 t)) (o := en0 s.heap.objs.size) rfl
    rw [hz] at q; exact q
  exact ⟨⟨_, he, rfl⟩, h _ he ⟨_, Heap.get?_push_of_some _ (Heap.get?_push_size _ rfl), rfl, rfl⟩ fun b o x => Heap.get?_push_of_some _ (Heap.get?_push_of_some _ x)⟩
/-- the tuple at a, each item in a new pair -/
def ItEt (K : PySem.W.Frag) (a : Addr) : It :=
  ⟨fun i H => ∃ (xs : List V) (x : V), SqT K H a xs ∧ xs[i]? = some x, fun i H v H' => ∃ T x, v = .ref T ∧ H T = none ∧ H' = upd H T (.tup [.int (i : Nat), x]) ∧ ∀ xs, SqT K H a xs → xs[i]? = some x, fun i H => ∃ xs : List V, SqT K H a xs ∧ xs.length ≤ i⟩
theorem turn_enumT {P : Program} {w : World} {K : PySem.W.Frag} {elts : List Expr} {kk : Nat} {tpos : Pos} (a e it : Addr) :
    Turn P w K (.Tuple elts kk tpos) (ItEt K a) [e, it] e (fun i h => (∃ old, IsEnum h e it ((i : Nat) : Int) old) ∧ h.IsTupleIter it a i ∧ e ≠ it) where
  mem := List.mem_cons_self
  obj := fun i h st b hb => by
    obtain ⟨⟨old, he⟩, ⟨o, ho, hc, hd⟩, _⟩ := st
    rcases List.mem_cons.mp hb with z | z
    · rw [z]; exact ⟨_, he, fun v q => nomatch q⟩
    · rw [List.mem_singleton.mp z]; exact ⟨o, ho, fun v q => by rw [hd] at q; cases q⟩
  keep := fun i h h' ⟨⟨old, he⟩, hi, hne⟩ k => ⟨⟨old, k e List.mem_cons_self _ he⟩, hi.at fun o q => k it (List.mem_cons_of_mem _ List.mem_cons_self) o q, hne⟩
  item := by
    intro X hP hw hK hc i pins s σ H E I hf st hg
    subst hP hw hK
    obtain ⟨⟨old, he⟩, hit, hne⟩ := st
    obtain ⟨xs, x, hq, hx⟩ := hg
    obtain ⟨its, rv, p, hz⟩ := I.tuple hq
    obtain ⟨u, hu, ru⟩ := rv.get hx
    have pt : s.heap.IsTuple a its.toArray := p
    have hel : e < s.heap.objs.size := Heap.lt_size he
    have hil : it < s.heap.objs.size := by obtain ⟨_, q, _⟩ := hit; exact Heap.lt_size q
    have hai : a ≠ it := fun z => by
      obtain ⟨o1, g1, c1, _⟩ := pt
      obtain ⟨o2, g2, c2, _⟩ := hit
      rw [z, g2] at g1
      cases g1
      rw [c2] at c1
      exact absurd c1 (by decide)
    have hae : a ≠ e := fun z => by
      obtain ⟨o1, g1, c1, _⟩ := pt
      rw [z, show s.heap.get? e = _ from he] at g1
      cases g1
      have c2 : Value.type "enumerate" = Value.type "tuple" := c1
      exact absurd c2 (by decide)
    have hlt : i < its.toArray.size := by
      have := (List.getElem?_eq_some_iff.mp hu).1
      simpa using this
    refine wpAny_pyNext_enum_itemD (Draws.tuple (by rw [Around.in1_handled]; exact I.ok.hd hc) it a hai its.toArray) he ⟨hit, pt⟩ hlt hne (by simp [hne, Ne.symm hae]) fun y h' tk hy ho hst' hT hsz hk => ?_
    have ey : y = u := by
      have q : its.toArray[i]? = some u := by simpa using hu
      rw [q] at hy
      exact (Option.some.inj hy).symm
    subst ey
    refine ⟨_, rfl, wpAny_letOwnedTupleGo_enum (s := { s with heap := h', toks := tk + 1 }) ho fun h'' he' sb => ?_⟩
    have hT2 := (sb.2 _ (Nat.ne_of_gt hel)).trans hT
    have new : ObjOk X.prog X.w (upd H s.heap.objs.size (.tup [.int (i : Nat), x])) h'' s.heap.objs.size (.tup [.int (i : Nat), x]) := ⟨by show 2 ≤ sizeLine; decide, [.int i tk, y], .cons ⟨_, rfl⟩ (.cons ru .nil), ⟨_, hT2, rfl, _, rfl⟩⟩
    have I1 : Inv X pins σ (upd H s.heap.objs.size (.tup [.int (i : Nat), x])) { s with heap := h'', toks := tk + 1 } :=
      I.turnedNew (ch := [e, it]) (fun b ob hb q => (sb.2 b (fun z => hb (by simp [z]))).trans (hk b ob (fun z => hb (by simp [z])) (fun z => hb (by simp [z])) q)) hf (Nat.le_refl _) new
    refine ⟨.ref s.heap.objs.size, _, I1, rfl, ⟨_, x, rfl, I.hok.fresh (Nat.le_refl _), rfl, fun ys hy => ?_⟩, ⟨⟨y, ?_⟩, hst'.1.at fun o q => (sb.2 it (Ne.symm hne)).trans q, hne⟩, fun b hb => ?_⟩
    · rw [I.tuple_inj hy hq]; exact hx
    · rw [show ((i + 1 : Nat) : Int) = (i : Int) + 1 by omega]; exact he'
    · have hb' : b < s.heap.objs.size := by
        rcases List.mem_cons.mp hb with z | z
        · rw [z]; exact hel
        · rw [List.mem_singleton.mp z]; exact hil
      rw [upd_ne (Nat.ne_of_lt hb')]; exact (hf b hb).1
  done := by
    intro X hP hw hK hc i pins s σ H E I hf st hg
    subst hP hw hK
    obtain ⟨⟨old, he⟩, hit, hne⟩ := st
    obtain ⟨xs, hq, hx⟩ := hg
    obtain ⟨its, rv, p, hz⟩ := I.tuple hq
    obtain ⟨f0, f1, f2, f3, f4, f5⟩ := hf it (List.mem_cons_of_mem _ List.mem_cons_self)
    have pt : s.heap.IsTuple a its.toArray := p
    have hai : a ≠ it := fun z => by
      obtain ⟨o1, g1, c1, _⟩ := pt
      obtain ⟨o2, g2, c2, _⟩ := hit
      rw [z, g2] at g1
      cases g1
      rw [c2] at c1
      exact absurd c1 (by decide)
    have hl := rv.length
    have D : Draws X.prog X.w X.A.in1 it [it, a] i (fun _ _ => False) (fun j h => j = i ∧ h.IsTupleIter it a i ∧ h.IsTuple a its.toArray) := by
      refine ⟨fun j h st => let ⟨o, ho, _⟩ := st.2.1; ⟨o, ho⟩, fun j h h' st k => ⟨st.1, st.2.1.at fun o q => k it (by simp) o q, st.2.2.at fun o q => k a (by simp) o q⟩, fun j s Q E hj st _ => absurd st.1 (Nat.ne_of_lt hj), fun s Q E st hE => ?_⟩
      exact wpAny_nextOf_tuple_end (by rw [Around.in1_handled]; exact I.ok.hd hc) st.2.1 st.2.2 (by simp; omega) hE
    exact wpAny_pyNext_enum_endD D he ⟨rfl, hit, pt⟩ fun h' eb => ⟨rfl, I.turned (t' := s.toks) (fun b o hb q => eb b o hb q) f0 f1 f3 f4 f5⟩
  self := fun A i s Q E ⟨⟨_, he⟩, _⟩ h => wpAny_pyIter_enum he h
def iEnumT (K : PySem.W.Frag) (ta : TA) : TI := fun σ H R => ta σ H fun vs H1 => ∃ a xs, vs = [.ref a] ∧ ((SqL K H1 a xs ∧ R (Ite K a) H1) ∨ (SqT K H1 a xs ∧ R (ItEt K a) H1))
theorem piEnumT {K : PySem.W.Frag} {X : Cx} {e : Expr} {ta : TA} {p pos tpos : Pos} {elts : List Expr} {kk : Nat} (hg : Gl X "enumerate") (hm : X.mg "enumerate" = none) (ha : PA X [e] ta) (eK : X.K = K := by rfl) (hs : starEach [e] X.env = [(false, eval e X.env)] := by rfl) :
    PI X (.Tuple elts kk tpos) (.Call (.Name "enumerate" p) [e] [] pos) (iEnumT K ta) := by
  cases eK
  refine ⟨fun pins s σ H R I h => Call_ (ld_blt I hg hm boot_enumerate (PyProof.Rows.callWith_type1 (thn (ha.run pos pins s σ H _ I h) fun us s1 ⟨vs, H1, I1, r1, q1⟩ => ?_) hs rfl))⟩
  obtain ⟨a, xs, rfl, q⟩ := q1
  rw [Vals.ref1 r1]
  have up : ∀ b ∈ [s1.heap.objs.size + 1, s1.heap.objs.size], s1.heap.objs.size ≤ b := fun b hb => by
    rcases List.mem_cons.mp hb with z | z
    · rw [z]; exact Nat.le_add_right _ _
    · rw [List.mem_singleton.mp z]; exact Nat.le_refl _
  rcases q with ⟨hq, q⟩ | ⟨hq, q⟩
  · obtain ⟨its, rv, p', hz⟩ := I1.list hq
    refine call_enumerate_list p'.isList fun h' he hit hsz hk => wpAny_pyIter_enum he ?_
    exact ⟨s1.heap.objs.size + 1, [s1.heap.objs.size + 1, s1.heap.objs.size], _, _, H1, rfl, I1.kept (t' := s1.toks) hk, turn_enum a (s1.heap.objs.size + 1) s1.heap.objs.size, ⟨⟨.none, he⟩, hit, Nat.succ_ne_self _⟩, fun b hb => I1.fpOk (up b hb) (I1.hok.fresh (up b hb)), q⟩
  · obtain ⟨its, rv, p', hz⟩ := I1.tuple hq
    refine call_enumT (show s1.heap.IsTuple a its.toArray from p') fun h' he hit hk => wpAny_pyIter_enum he ?_
    exact ⟨s1.heap.objs.size + 1, [s1.heap.objs.size + 1, s1.heap.objs.size], _, _, H1, rfl, I1.kept (t' := s1.toks) hk, turn_enumT a (s1.heap.objs.size + 1) s1.heap.objs.size, ⟨⟨.none, he⟩, hit, Nat.succ_ne_self _⟩, fun b hb => I1.fpOk (up b hb) (I1.hok.fresh (up b hb)), q⟩
end Vw

set_option Elab.async false
set_option linter.all false
set_option maxRecDepth 100000
set_option maxHeartbeats 4000000
namespace Vw
open PySem PySem.Spec PyProof.Rows L2 RT
/-! ### loops -/
def FQ (J : It) (g : TG) (tb : TS) (D : Ends) (σ : L2.St) (H : Hp) : Prop := ∃ W : Nat → Nat → L2.St → Hp → Prop, (∃ m, W 0 m σ H) ∧ ∀ i m σ H, W i m σ H →
  (J.stop i H ∧ D.nx σ H) ∨ (J.go i H ∧ ∃ N : L2.St → Hp → Prop, (∀ σ' H', N σ' H' → ∃ m', m' < m ∧ W (i + 1) m' σ' H') ∧ ∀ x H', J.yld i H x H' → g x σ H' fun σ2 H2 => tb { D with nx := N, ct := N, bk := D.nx } σ2 H2)
def LQ (J : It) (g : TG) (tt : TT) (te : TE) (vs : List Nat) (σ : L2.St) (H1 : Hp) (Q : VK) : Prop := ∀ D, H1 D = none → ∃ W : Nat → Nat → Hp → Prop, (∃ m, W 0 m (upd H1 D (.lst []))) ∧ ∀ i m H, W i m H →
  (J.stop i H ∧ Q (.ref D) H) ∨ (J.go i H ∧ ∃ Nx : Hp → Prop, (∀ H', Nx H' → ∃ m', m' < m ∧ W (i + 1) m' H') ∧ ∀ x H', J.yld i H x H' → g x (wipe σ vs) H' fun σ2 H2 => wipe σ2 vs = wipe σ vs ∧ tt σ2 H2 fun b H3 =>
    if b = true then te σ2 H3 fun y H4 => ∃ acc, H4 D = some (.lst acc) ∧ acc.length < sizeLine ∧ Nx (upd H4 D (.lst (acc ++ [y]))) else Nx H3)
section
variable {K : PySem.W.Frag} {σ : L2.St} {H H1 : Hp} {Q : VK} {D : Ends} {ta tb te : TE} {t u : TS} {wi : TI} {g : TG} {tt : TT} {vs : List Nat} {R : It → Hp → Prop} {j : Nat} {xs : List V} {a : Addr}
theorem s_for (h : wi σ H fun J H1 => FQ J g t D σ H1) : tFor wi g t D σ H := h
theorem e_lc (h : wi σ H fun J H1 => LQ J g tt te vs σ H1 Q) : tLc wi g tt te vs σ H Q := h
def RgQ (R : It → Hp → Prop) (vs : List V) (H1 : Hp) : Prop := ∃ j : Int, vs = [.int j] ∧ -(2 ^ 62) ≤ j ∧ j < 2 ^ 62 ∧ R (Itr 0 j.toNat) H1
theorem i_rng1 {ta : TA} (h : ta σ H fun vs H1 => RgQ R vs H1) : iRng1 ta σ H R := h
theorem i_rng {i : Int} (n : Nat) (e : i.toNat = n) (h1 : -100000 ≤ i) (h2 : i ≤ 100000) (h : R (Itr 0 n) H) : RgQ R [.int i] H := ⟨i, rfl, by omega, by omega, by rw [e]; exact h⟩
def LsQ (K : PySem.W.Frag) (R : It → Hp → Prop) (x : V) (H1 : Hp) : Prop := ∃ a, x = .ref a ∧ (∃ xs, SqL K H1 a xs) ∧ R (Itl K a) H1
theorem i_lst0 {tl : TE} (h : tl σ H fun x H1 => LsQ K R x H1) : iList K tl σ H R := h
theorem i_lst (s : SqL K H a xs) (h : R (Itl K a) H) : LsQ K R (.ref a) H := ⟨a, rfl, ⟨xs, s⟩, h⟩
def TpQ (K : PySem.W.Frag) (R : It → Hp → Prop) (x : V) (H1 : Hp) : Prop := ∃ a, x = .ref a ∧ (∃ xs, SqT K H1 a xs) ∧ R (Itt K a) H1
theorem i_tup0 {tl : TE} (h : tl σ H fun x H1 => TpQ K R x H1) : iTup K tl σ H R := h
theorem i_tup (s : SqT K H a xs) (h : R (Itt K a) H) : TpQ K R (.ref a) H := ⟨a, rfl, ⟨xs, s⟩, h⟩
/-- a loop over anything that is walked -/
theorem l_it {J : It} {n : Nat} {G : Hp → Prop} {Y : Nat → Hp → V → Hp → Prop} (W : Walk J n G Y) (Pv : Nat → L2.St → Hp → Prop) (h0 : Pv 0 σ H) (hG : ∀ i σ H, i ≤ n → Pv i σ H → G H) (hd : ∀ σ H, Pv n σ H → D.nx σ H)
    (hs : ∀ i x σ H H', i < n → Pv i σ H → Y i H x H' → g x σ H' fun σ2 H2 => t { D with nx := Pv (i + 1), ct := Pv (i + 1), bk := D.nx } σ2 H2) : FQ J g t D σ H := for_it W Pv h0 hG hs hd
theorem l_rng {n : Nat} (Pv : Nat → L2.St → Hp → Prop) (h0 : Pv 0 σ H) (hd : ∀ σ H, Pv n σ H → D.nx σ H)
    (hs : ∀ (i : Nat) σ H, i < n → Pv i σ H → t { D with nx := Pv (i + 1), ct := Pv (i + 1), bk := D.nx } (σ.set j (some (.int (i : Int)))) H) : FQ (Itr 0 n) (gName j) t D σ H :=
  l_it walk_range Pv h0 (fun _ _ _ _ _ => trivial) hd fun i x σ H H' hi p y => by
    obtain ⟨rfl, rfl⟩ := y
    have e : (0 : Int) + (i : Int) = (i : Int) := Int.zero_add _
    show t _ (σ.set j (some (.int ((0 : Int) + (i : Int))))) _
    rw [e]; exact hs i σ _ hi p
theorem l_lst (Pv : Nat → L2.St → Hp → Prop) (h0 : Pv 0 σ H) (hl : ∀ i σ H, i ≤ xs.length → Pv i σ H → SqL K H a xs) (hd : ∀ σ H, Pv xs.length σ H → D.nx σ H)
    (hs : ∀ i x σ H, xs[i]? = some x → Pv i σ H → t { D with nx := Pv (i + 1), ct := Pv (i + 1), bk := D.nx } (σ.set j (some x)) H) : FQ (Itl K a) (gName j) t D σ H :=
  l_it walk_list Pv h0 hl hd fun i x σ H H' hi p y => by
    obtain ⟨rfl, e⟩ := y
    exact hs i x σ _ e p
theorem l_tup (Pv : Nat → L2.St → Hp → Prop) (h0 : Pv 0 σ H) (hl : ∀ i σ H, i ≤ xs.length → Pv i σ H → SqT K H a xs) (hd : ∀ σ H, Pv xs.length σ H → D.nx σ H)
    (hs : ∀ i x σ H, xs[i]? = some x → Pv i σ H → t { D with nx := Pv (i + 1), ct := Pv (i + 1), bk := D.nx } (σ.set j (some x)) H) : FQ (Itt K a) (gName j) t D σ H :=
  l_it walk_tup Pv h0 hl hd fun i x σ H H' hi p y => by
    obtain ⟨rfl, e⟩ := y
    exact hs i x σ _ e p
/-- the target (x, y) at a new pair -/
theorem g_pair {i1 i2 : Nat} {T : Addr} {x y : V} {R : L2.St → Hp → Prop} (h : H T = some (.tup [x, y])) (q : R ((σ.set i1 (some x)).set i2 (some y)) H) : gTup K 2 (gCons (gName i1) (gCons (gName i2) gNil)) (.ref T) σ H R :=
  ⟨T, [x, y], rfl, stO h, rfl, x, [y], rfl, y, [], rfl, rfl, q⟩
theorem g_pairS {i1 i2 : Nat} {T : Addr} {x y : V} {R : L2.St → Hp → Prop} (h : SqT K H T [x, y]) (q : R ((σ.set i1 (some x)).set i2 (some y)) H) : gTup K 2 (gCons (gName i1) (gCons (gName i2) gNil)) (.ref T) σ H R :=
  ⟨T, [x, y], rfl, h, rfl, x, [y], rfl, y, [], rfl, rfl, q⟩
theorem putK_le {c : List (Key × V)} {k : Key} {x : V} : (putK c k x).length ≤ c.length + 1 := by
  unfold putK
  split <;> simp
theorem walk_enumT : Walk (ItEt K a) xs.length (fun H => SqT K H a xs) (YPair (fun i => some (.int (i : Nat))) (fun i => xs[i]?)) := by
  refine ⟨fun i _ hi q => ⟨xs, xs[i], q, by simp [hi]⟩, fun _ q => ⟨xs, q, Nat.le_refl _⟩, fun i H v H' _ q y => ?_⟩
  obtain ⟨T, x, h1, h2, h3, h4⟩ := y
  exact ⟨T, .int (i : Nat), x, h1, h2, h3, rfl, h4 xs q⟩
def SqX (K : PySem.W.Frag) (H : Hp) (a : Addr) (xs : List V) : Prop := SqL K H a xs ∨ SqT K H a xs
theorem sx_ {H H' : Hp} {a : Addr} {xs : List V} (s : Same H H') (h : SqX K H a xs) : SqX K H' a xs := h.elim (fun h => .inl (sl_ s h)) fun h => .inr (st_ s h)
def EnQ (K : PySem.W.Frag) (R : It → Hp → Prop) (vs : List V) (H1 : Hp) : Prop := ∃ a xs, vs = [.ref a] ∧ ((SqL K H1 a xs ∧ R (Ite K a) H1) ∨ (SqT K H1 a xs ∧ R (ItEt K a) H1))
theorem i_enum0 {ta : TA} (h : ta σ H fun vs H1 => EnQ K R vs H1) : iEnumT K ta σ H R := h
theorem i_enumX {H0 : Hp} (s : SqX K H0 a xs) (ss : Same H0 H) (h : ∀ J G, (∀ H', Same H0 H' → G H') → Walk J xs.length G (YPair (fun i => some (.int (i : Nat))) (fun i => xs[i]?)) → R J H) : EnQ K R [.ref a] H :=
  ⟨a, xs, rfl, s.elim (fun s => .inl ⟨sl_ ss s, h _ _ (fun H' q => sl_ q s) walk_enum⟩) fun s => .inr ⟨st_ ss s, h _ _ (fun H' q => st_ q s) walk_enumT⟩⟩
def RvQ (K : PySem.W.Frag) (R : It → Hp → Prop) (v : V) (H1 : Hp) : Prop := ∃ (a : Addr) (xs : List V), v = .ref a ∧ ((SqL K H1 a xs ∧ R (Itv K a xs.length) H1) ∨ (SqT K H1 a xs ∧ R (ItvT K a xs.length) H1))
theorem walk_revT : Walk (ItvT K a xs.length) xs.length (fun H => SqT K H a xs) (fun i H x H' => H' = H ∧ xs[xs.length - 1 - i]? = some x) :=
  ⟨fun i _ hi q => ⟨hi, xs, xs[xs.length - 1 - i]'(by omega), q, by simp [show xs.length - 1 - i < xs.length by omega]⟩, fun _ _ => Nat.le_refl _, fun _ _ _ _ _ q y => ⟨y.1, y.2 xs q⟩⟩
theorem i_revX {H0 : Hp} (s : SqX K H0 a xs) (ss : Same H0 H) (h : ∀ J G, (∀ H', Same H0 H' → G H') → Walk J xs.length G (fun i H x H' => H' = H ∧ xs[xs.length - 1 - i]? = some x) → R J H) : RvQ K R (.ref a) H :=
  ⟨a, xs, rfl, s.elim (fun s => .inl ⟨sl_ ss s, h _ _ (fun H' q => sl_ q s) walk_rev⟩) fun s => .inr ⟨st_ ss s, h _ _ (fun H' q => st_ q s) walk_revT⟩⟩
theorem i_rev0 {te : TE} (h : te σ H fun v H1 => RvQ K R v H1) : iRevA K te σ H R := h
/-- a comprehension: Pv tells of the turn, of what is made so far, of the heap, in which the list itself stands at D -/
theorem c_it {J : It} {n : Nat} {G : Hp → Prop} {Y : Nat → Hp → V → Hp → Prop} (W : Walk J n G Y) (Pv : Nat → List V → Hp → Prop) (h0 : ∀ D, H1 D = none → Pv 0 [] (upd H1 D (.lst []))) (hG : ∀ i acc H, i ≤ n → Pv i acc H → G H)
    (hd : ∀ acc D H, H1 D = none → H D = some (.lst acc) → Pv n acc H → Q (.ref D) H)
    (hs : ∀ (i : Nat) x acc H H' D, i < n → H1 D = none → H D = some (.lst acc) → Pv i acc H → Y i H x H' → g x (wipe σ vs) H' fun σ2 H2 => wipe σ2 vs = wipe σ vs ∧ tt σ2 H2 fun b H3 =>
      if b = true then te σ2 H3 fun y H4 => ∃ acc, H4 D = some (.lst acc) ∧ acc.length < sizeLine ∧ ∃ acc2, (upd H4 D (.lst (acc ++ [y]))) D = some (.lst acc2) ∧ Pv (i + 1) acc2 (upd H4 D (.lst (acc ++ [y]))) else ∃ acc2, H3 D = some (.lst acc2) ∧ Pv (i + 1) acc2 H3) : LQ J g tt te vs σ H1 Q := fun D hD =>
  lc_it W (fun i H => ∃ acc, H D = some (.lst acc) ∧ Pv i acc H) ⟨[], upd_same, h0 D hD⟩ (fun i H hi p => hG i _ H hi p.choose_spec.2) (fun i x H H' hi p y => by
    obtain ⟨acc, hp, p⟩ := p
    exact hs i x acc H H' D hi hD hp p y) (fun H p => by
    obtain ⟨acc, hp, p⟩ := p
    exact hd acc D H hD hp p)
theorem got_ {Dl : Addr} {acc : List V} {y : V} {P : List V → Hp → Prop} (h : H Dl = some (.lst acc)) (hl : acc.length < 100000) (p : P (acc ++ [y]) (upd H Dl (.lst (acc ++ [y])))) :
    ∃ acc, H Dl = some (.lst acc) ∧ acc.length < sizeLine ∧ ∃ acc2, (upd H Dl (.lst (acc ++ [y]))) Dl = some (.lst acc2) ∧ P acc2 (upd H Dl (.lst (acc ++ [y]))) :=
  ⟨acc, h, Nat.lt_of_lt_of_le hl (by decide), _, upd_same, p⟩
theorem upd_free {H0 : Hp} {Dl : Addr} {o : HO} (s : Same H0 H) (n : H0 Dl = none) : Same H0 (upd H Dl o) := fun b u e => by rw [upd_ne (ne_of_none e n)]; exact s b u e
theorem c_rng {n : Nat} (Pv : Nat → List V → Hp → Prop) (h0 : ∀ D, H1 D = none → Pv 0 [] (upd H1 D (.lst []))) (hd : ∀ acc D H, H1 D = none → H D = some (.lst acc) → Pv n acc H → Q (.ref D) H) (hw : ∀ x, wipe ((wipe σ vs).set j x) vs = wipe σ vs)
    (hs : ∀ (i : Nat) acc H D, i < n → H1 D = none → H D = some (.lst acc) → Pv i acc H → tt ((wipe σ vs).set j (some (.int (i : Int)))) H fun b H3 =>
      if b = true then te ((wipe σ vs).set j (some (.int (i : Int)))) H3 fun y H4 => ∃ acc, H4 D = some (.lst acc) ∧ acc.length < sizeLine ∧ ∃ acc2, (upd H4 D (.lst (acc ++ [y]))) D = some (.lst acc2) ∧ Pv (i + 1) acc2 (upd H4 D (.lst (acc ++ [y]))) else ∃ acc2, H3 D = some (.lst acc2) ∧ Pv (i + 1) acc2 H3) :
    LQ (Itr 0 n) (gName j) tt te vs σ H1 Q := c_it walk_range Pv h0 (fun _ _ _ _ _ => trivial) hd fun i x acc H H' D hi hD hp p y => by
  obtain ⟨rfl, rfl⟩ := y
  have e : (0 : Int) + (i : Int) = (i : Int) := Int.zero_add _
  refine ⟨hw _, ?_⟩
  dsimp only
  rw [e]; exact hs i acc _ D hi hD hp p
theorem c_lst (Pv : Nat → List V → Hp → Prop) (h0 : ∀ D, H1 D = none → Pv 0 [] (upd H1 D (.lst []))) (hl : ∀ i acc H, i ≤ xs.length → Pv i acc H → SqL K H a xs) (hd : ∀ acc D H, H1 D = none → H D = some (.lst acc) → Pv xs.length acc H → Q (.ref D) H) (hw : ∀ x, wipe ((wipe σ vs).set j x) vs = wipe σ vs)
    (hs : ∀ (i : Nat) x acc H D, xs[i]? = some x → H1 D = none → H D = some (.lst acc) → Pv i acc H → tt ((wipe σ vs).set j (some x)) H fun b H3 =>
      if b = true then te ((wipe σ vs).set j (some x)) H3 fun y H4 => ∃ acc, H4 D = some (.lst acc) ∧ acc.length < sizeLine ∧ ∃ acc2, (upd H4 D (.lst (acc ++ [y]))) D = some (.lst acc2) ∧ Pv (i + 1) acc2 (upd H4 D (.lst (acc ++ [y]))) else ∃ acc2, H3 D = some (.lst acc2) ∧ Pv (i + 1) acc2 H3) :
    LQ (Itl K a) (gName j) tt te vs σ H1 Q := c_it walk_list Pv h0 hl hd fun i x acc H H' D hi hD hp p y => by
  obtain ⟨rfl, e⟩ := y
  exact ⟨hw _, hs i x acc _ D e hD hp p⟩
theorem c_tup (Pv : Nat → List V → Hp → Prop) (h0 : ∀ D, H1 D = none → Pv 0 [] (upd H1 D (.lst []))) (hl : ∀ i acc H, i ≤ xs.length → Pv i acc H → SqT K H a xs) (hd : ∀ acc D H, H1 D = none → H D = some (.lst acc) → Pv xs.length acc H → Q (.ref D) H) (hw : ∀ x, wipe ((wipe σ vs).set j x) vs = wipe σ vs)
    (hs : ∀ (i : Nat) x acc H D, xs[i]? = some x → H1 D = none → H D = some (.lst acc) → Pv i acc H → tt ((wipe σ vs).set j (some x)) H fun b H3 =>
      if b = true then te ((wipe σ vs).set j (some x)) H3 fun y H4 => ∃ acc, H4 D = some (.lst acc) ∧ acc.length < sizeLine ∧ ∃ acc2, (upd H4 D (.lst (acc ++ [y]))) D = some (.lst acc2) ∧ Pv (i + 1) acc2 (upd H4 D (.lst (acc ++ [y]))) else ∃ acc2, H3 D = some (.lst acc2) ∧ Pv (i + 1) acc2 H3) :
    LQ (Itt K a) (gName j) tt te vs σ H1 Q := c_it walk_tup Pv h0 hl hd fun i x acc H H' D hi hD hp p y => by
  obtain ⟨rfl, e⟩ := y
  exact ⟨hw _, hs i x acc _ D e hD hp p⟩
theorem e_yes {R : Bool → Hp → Prop} (q : R true H) : tYes σ H R := q
/-- a dict comprehension over a list -/
def DQ (J : It) (g : TG) (tt : TT) (tk tv : TE) (vs : List Nat) (σ : L2.St) (H1 : Hp) (Q : VK) : Prop := ∀ D, H1 D = none → ∃ W : Nat → Nat → Hp → Prop, (∃ m, W 0 m (upd H1 D (.dK []))) ∧ ∀ i m H, W i m H →
  (J.stop i H ∧ Q (.ref D) H) ∨ (J.go i H ∧ ∃ Nx : Hp → Prop, (∀ H', Nx H' → ∃ m', m' < m ∧ W (i + 1) m' H') ∧ ∀ x H', J.yld i H x H' → g x (wipe σ vs) H' fun σ2 H2 => wipe σ2 vs = wipe σ vs ∧ tt σ2 H2 fun b H3 =>
    if b = true then tk σ2 H3 fun y H4 => tv σ2 H4 fun z H5 => ∃ kvs k, y = kV k ∧ H5 D = some (.dK kvs) ∧ kvs.length < sizeLine ∧ Nx (upd H5 D (.dK (putK kvs k z))) else Nx H3)
theorem e_dc {tk tv : TE} (h : wi σ H fun J H1 => DQ J g tt tk tv vs σ H1 Q) : tDc wi g tt tk tv vs σ H Q := h
theorem d_it {J : It} {n : Nat} {G : Hp → Prop} {Y : Nat → Hp → V → Hp → Prop} {tk tv : TE} (W : Walk J n G Y) (Pv : Nat → List (Key × V) → Hp → Prop) (h0 : ∀ D, H1 D = none → Pv 0 [] (upd H1 D (.dK []))) (hG : ∀ i acc H, i ≤ n → Pv i acc H → G H)
    (hd : ∀ acc D H, H1 D = none → H D = some (.dK acc) → Pv n acc H → Q (.ref D) H)
    (hs : ∀ (i : Nat) x acc H H' D, i < n → H1 D = none → H D = some (.dK acc) → Pv i acc H → Y i H x H' → g x (wipe σ vs) H' fun σ2 H2 => wipe σ2 vs = wipe σ vs ∧ tt σ2 H2 fun b H3 =>
      if b = true then tk σ2 H3 fun y H4 => tv σ2 H4 fun z H5 => ∃ kvs k, y = kV k ∧ H5 D = some (.dK kvs) ∧ kvs.length < sizeLine ∧ ∃ acc2, (upd H5 D (.dK (putK kvs k z))) D = some (.dK acc2) ∧ Pv (i + 1) acc2 (upd H5 D (.dK (putK kvs k z))) else ∃ acc2, H3 D = some (.dK acc2) ∧ Pv (i + 1) acc2 H3) : DQ J g tt tk tv vs σ H1 Q := fun D hD => by
  refine ⟨fun i m H => m = n - i ∧ i ≤ n ∧ ∃ acc, H D = some (.dK acc) ∧ Pv i acc H, ⟨n, rfl, Nat.zero_le _, [], upd_same, h0 D hD⟩, ?_⟩
  rintro i m H ⟨rfl, hi, acc, hp, p⟩
  have q := hG i acc H hi p
  by_cases hlt : i < n
  · exact .inr ⟨W.goes i H hlt q, fun H => ∃ acc, H D = some (.dK acc) ∧ Pv (i + 1) acc H, fun H' p' => ⟨n - (i + 1), by omega, rfl, hlt, p'⟩, fun x H' y => hs i x acc H H' D hlt hD hp p (W.yields i H x H' hlt q y)⟩
  · have e : i = n := by omega
    subst e
    exact .inl ⟨W.stops H q, hd acc D H hD hp p⟩
theorem dgot_ {Dl : Addr} {acc : List (Key × V)} {z : V} {k : Key} {P : List (Key × V) → Hp → Prop} (h : H Dl = some (.dK acc)) (hl : acc.length < 100000) (p : P (putK acc k z) (upd H Dl (.dK (putK acc k z)))) :
    ∃ kvs k', kV k = kV k' ∧ H Dl = some (.dK kvs) ∧ kvs.length < sizeLine ∧ ∃ acc2, (upd H Dl (.dK (putK kvs k' z))) Dl = some (.dK acc2) ∧ P acc2 (upd H Dl (.dK (putK kvs k' z))) :=
  ⟨acc, k, rfl, h, Nat.lt_of_lt_of_le hl (by decide), _, upd_same, p⟩
theorem atI_map {ns : List Int} {z : Int} (i : Nat) (e : z = (i : Nat)) (h : i < ns.length) : atI (ns.map V.int) z = some (.int (ns.getD i 0)) := atI_in e (by
  rw [List.getElem?_map, List.getElem?_eq_getElem h, List.getD_eq_getElem?_getD, List.getElem?_eq_getElem h]; rfl)
theorem atI_neg {α : Type} {xs : List α} {x : α} (h0 : 0 < xs.length) (h : xs[xs.length - 1]? = some x) : atI xs (-1) = some x := by
  have e : ixN xs.length (-1) = some (xs.length - 1) := by
    unfold ixN
    rw [if_neg (by omega), if_pos (by omega)]
    congr 1; omega
  unfold atI
  rw [e]; exact h
theorem atI_negI {ns : List Int} (h0 : 0 < ns.length) : atI (ns.map V.int) (-1) = some (.int (ns.getD (ns.length - 1) 0)) := atI_neg (by simpa using h0) (by
  rw [List.length_map, List.getElem?_map, List.getD_eq_getElem?_getD, List.getElem?_eq_getElem (by omega)]; rfl)
theorem getD_mem {ns : List Int} {i : Nat} (h : i < ns.length) : ns.getD i 0 ∈ ns := by
  rw [List.getD_eq_getElem?_getD, List.getElem?_eq_getElem h]; exact List.getElem_mem h
theorem while_ {c : TT} {μ : L2.St → Hp → Nat} (Pv : L2.St → Hp → Prop) (h0 : Pv σ H)
    (hs : ∀ σ H, Pv σ H → c σ H fun b H1 => if b = true then t { D with nx := fun σ' H' => Pv σ' H' ∧ μ σ' H' < μ σ H, ct := fun σ' H' => Pv σ' H' ∧ μ σ' H' < μ σ H, bk := D.nx } σ H1 else D.nx σ H1)
    (mono : ∀ σ H Q Q', (∀ b H1, Q b H1 → Q' b H1) → c σ H Q → c σ H Q') : tWhile c t D σ H := while_by Pv μ h0 hs mono
theorem same_oth {f : Addr} {H0 H2 : Hp} (n : H0 f = none) (s : Same H0 H) (o : Oth f H H2) : Same H0 H2 := fun b u e => o b u (ne_of_none e n) (s b u e)
theorem e_bm {T : String} {r : V → List V → Hp → VK → Prop} {to : TE} {ts : TA} (h : to σ H fun x H1 => tyV K T x H1 ∧ ts σ H1 fun xs H2 => r x xs H2 Q) : tBM K T r to ts σ H Q := h
theorem ty_lst {f : Addr} {R : Prop} (h : H f = some (.lst xs)) (q : R) : tyV K "list" (.ref f) H ∧ R := ⟨.inl ⟨rfl, xs, slO h⟩, q⟩
theorem r_app {f : Addr} {y : V} (h : H f = some (.lst xs)) (hl : xs.length < 100000) (q : ∀ H2, Oth f H H2 → H2 f = some (.lst (xs ++ [y])) → Q .non H2) : rAppend (.ref f) [y] H Q :=
  ⟨f, xs, y, rfl, rfl, h, lt_size hl, q _ (fun b o n z => by rw [upd_ne n]; exact z) upd_same⟩
theorem o_cat {r' : R2} {l b : Addr} {ys : List V} (h1 : H l = some (.lst xs)) (h2 : H b = some (.lst ys)) (hl : xs.length + ys.length < 100000) (q : NewQ (.lst (xs ++ ys)) H Q) : rOr rIAdd (rOr rCat r') (.ref l) (.ref b) H Q := .inr (.inl ⟨l, b, xs, ys, rfl, rfl, h1, h2, le_size hl, q⟩)
theorem e_din {ty td : TE} (h : ty σ H fun y H1 => td σ H1 fun x H2 => ∃ a o, x = .ref a ∧ DGet H2 a y o ∧ Q (.bl o.isSome) H2) : tDIn ty td σ H Q := h
theorem g_din {PO : Option V → Prop} {d : Addr} {kvs : List (Key × V)} {k : Key} (h : H d = some (.dK kvs)) (q : PO (valV kvs k)) : ∃ a o, V.ref d = .ref a ∧ DGet H a (kV k) o ∧ PO o := ⟨d, _, rfl, DGet.k h, q⟩
theorem e_sl {r : V → Option Int → Option Int → Hp → VK → Prop} {tl th : TO} (h : te σ H fun x H1 => tl σ H1 fun l H2 => th σ H2 fun u H3 => r x l u H3 Q) : tSl r te tl th σ H Q := h
theorem e_np {R : Option Int → Hp → Prop} (h : R none H) : tNoPart σ H R := h
theorem e_pt {R : Option Int → Hp → Prop} (h : te σ H fun x H1 => ∃ i, x = .int i ∧ R (some i) H1) : tPart te σ H R := h
theorem e_ptI {PI : Int → Prop} {i : Int} (h : PI i) : ∃ j, V.int i = .int j ∧ PI j := ⟨i, rfl, h⟩
theorem r_sl {lo hi : Option Int} (s : SqL K H a xs) (q : NewQ (.lst (cutV xs lo hi)) H Q) : rSlL K (.ref a) lo hi H Q := ⟨a, xs, rfl, s, q⟩
theorem cut_map {f : Int → V} (ns : List Int) (lo hi : Option Int) : ∃ ms : List Int, cutV (ns.map f) lo hi = ms.map f ∧ ms.length ≤ ns.length ∧ ∀ z ∈ ms, z ∈ ns := by
  have key : ∀ a b : Nat, ∃ ms : List Int, ((ns.map f).drop a).take b = ms.map f ∧ ms.length ≤ ns.length ∧ ∀ z ∈ ms, z ∈ ns := fun a b =>
    ⟨(ns.drop a).take b, by rw [List.map_take, List.map_drop], by rw [List.length_take, List.length_drop]; omega, fun z hz => List.mem_of_mem_drop (List.mem_of_mem_take hz)⟩
  exact key _ _
theorem eqV_int {a b : Int} : eqV (.int a) (.int b) = decide (a = b) := by
  show (a == b) = _
  by_cases h : a = b
  · rw [h]; simp
  · simp [h]
theorem inV_int {z : Int} {ns : List Int} : inV (.int z) (ns.map V.int) = decide (z ∈ ns) := by
  unfold inV
  rw [List.any_map, Bool.eq_iff_iff, List.any_eq_true, decide_eq_true_eq]
  constructor
  · rintro ⟨y, hy, e⟩
    have := eqV_int (a := y) (b := z)
    have e : eqV (.int y) (.int z) = true := e
    rw [this, decide_eq_true_eq] at e
    rw [← e]; exact hy
  · intro h
    refine ⟨z, h, ?_⟩
    show eqV (.int z) (.int z) = true
    rw [eqV_int]; simp
theorem flat_ints {ns : List Int} : (ns.map V.int).all flatV = true := by
  rw [List.all_map, List.all_eq_true]; exact fun _ _ => rfl
theorem o_inL {p : Addr} {z : Int} {ns : List Int} (s : SqL K H p (ns.map V.int)) (q : Q (.bl (decide (z ∈ ns))) H) : rIn K false (.int z) (.ref p) H Q := ⟨p, _, rfl, .inl s, rfl, flat_ints, by rw [inV_int]; exact q⟩
theorem o_inT {p : Addr} {z : Int} {ns : List Int} (s : SqT K H p (ns.map V.int)) (q : Q (.bl (decide (z ∈ ns))) H) : rIn K false (.int z) (.ref p) H Q := ⟨p, _, rfl, .inr s, rfl, flat_ints, by rw [inV_int]; exact q⟩
theorem o_niL {p : Addr} {z : Int} {ns : List Int} (s : SqL K H p (ns.map V.int)) (q : Q (.bl (decide (z ∉ ns))) H) : rIn K true (.int z) (.ref p) H Q := ⟨p, _, rfl, .inl s, rfl, flat_ints, by
  have e : (!decide (z ∈ ns)) = decide (z ∉ ns) := by simp
  rw [inV_int]; show Q (.bl (!decide (z ∈ ns))) H; rw [e]; exact q⟩
theorem o_niT {p : Addr} {z : Int} {ns : List Int} (s : SqT K H p (ns.map V.int)) (q : Q (.bl (decide (z ∉ ns))) H) : rIn K true (.int z) (.ref p) H Q := ⟨p, _, rfl, .inr s, rfl, flat_ints, by
  have e : (!decide (z ∈ ns)) = decide (z ∉ ns) := by simp
  rw [inV_int]; show Q (.bl (!decide (z ∈ ns))) H; rw [e]; exact q⟩
def SortQ (ns : List Int) (H : Hp) (Q : VK) : Prop := ∀ (ns' : List Int) p H2, ns'.Perm ns → ns'.Pairwise (· ≤ ·) → H p = none → Same H H2 → H2 p = some (.lst (ns'.map V.int)) → Q (.ref p) H2
theorem c_sortI {p : Addr} {ns : List Int} (s : SqL K H p (ns.map V.int)) (q : SortQ ns H Q) : rSortedI K [.ref p] H Q := ⟨p, ns, rfl, s, fun ns' r h1 h2 n => q ns' r _ h1 h2 n (Same.new n) upd_same⟩
theorem s_while (h : tWhile tt t D σ H) : tWhile tt t D σ H := h
end
/-! ### what a reading asks is monotone (for the parts of a comprehension): by the shape -/
section
variable {ta tb te : TE} {c d : TT}
abbrev MoE (te : TE) : Prop := ∀ σ H (R R' : VK), (∀ v H1, R v H1 → R' v H1) → te σ H R → te σ H R'
abbrev MoT (c : TT) : Prop := ∀ σ H (R R' : Bool → Hp → Prop), (∀ b H1, R b H1 → R' b H1) → c σ H R → c σ H R'
abbrev MoA (t : TA) : Prop := ∀ σ H (R R' : List V → Hp → Prop), (∀ v H1, R v H1 → R' v H1) → t σ H R → t σ H R'
abbrev Mo2 (r : R2) : Prop := ∀ x y H (R R' : VK), (∀ v H1, R v H1 → R' v H1) → r x y H R → r x y H R'
abbrev MoC (r : List V → Hp → VK → Prop) : Prop := ∀ x H (R R' : VK), (∀ v H1, R v H1 → R' v H1) → r x H R → r x H R'
abbrev MoSp (r : Sp) : Prop := ∀ x H (R R' : VK) E, (∀ v H1, R v H1 → R' v H1) → r x H R E → r x H R' E
theorem m_yes : MoT tYes := fun _ H _ _ h q => h _ _ q
theorem m_var {i : Nat} : MoE (tVar i) := fun _ H _ _ h q => q.elim fun v q => ⟨v, q.1, h _ _ q.2⟩
theorem m_c {v : V} : MoE (tC v) := fun _ H _ _ h q => h _ _ q
theorem m_op {r : R2} (hr : Mo2 r) (ha : MoE ta) (hb : MoE tb) : MoE (tOp r ta tb) := fun σ H _ _ h q => ha σ H _ _ (fun x H1 => hb σ H1 _ _ fun y H2 => hr x y H2 _ _ h) q
theorem m_test (h : MoE te) : MoT (tTest te) := fun σ H _ _ k q => h σ H _ _ (fun x H1 ⟨b, e, z⟩ => ⟨b, e, k b H1 z⟩) q
theorem m_tB (h : MoE te) : MoT (tB te) := fun σ H _ _ k q => h σ H _ _ (fun x H1 ⟨b, e, z⟩ => ⟨b, e, k b H1 z⟩) q
theorem m_nil : MoA tNil := fun _ H _ _ h q => h _ _ q
theorem m_cons {tr : TA} (ha : MoE ta) (hr : MoA tr) : MoA (tCons ta tr) := fun σ H _ _ h q => ha σ H _ _ (fun x H1 => hr σ H1 _ _ fun xs H2 => h (x :: xs) H2) q
theorem m_cb {r : List V → Hp → VK → Prop} {tt : TA} (hr : MoC r) (ht : MoA tt) : MoE (tCB r tt) := fun σ H _ _ h q => ht σ H _ _ (fun x H1 => hr x H1 _ _ h) q
theorem m_call {sp : Sp} {dvs : List V} {E : XK} {tt : TA} (hr : MoSp sp) (ht : MoA tt) : MoE (tCall sp dvs E tt) := fun σ H _ _ h q => ht σ H _ _ (fun x H1 => hr _ H1 _ _ E h) q
theorem m_or {r r' : R2} (a : Mo2 r) (b : Mo2 r') : Mo2 (rOr r r') := fun x y H _ _ h q => q.elim (fun q => .inl (a x y H _ _ h q)) fun q => .inr (b x y H _ _ h q)
theorem m_I0 {f : Int → Int → V} : Mo2 (rI0 f) := fun x y H _ _ h ⟨i, j, e1, e2, q⟩ => ⟨i, j, e1, e2, h _ _ q⟩
theorem m_I {C : Int → Int → Prop} {f : Int → Int → V} : Mo2 (rI C f) := fun x y H _ _ h ⟨i, j, e1, e2, c, q⟩ => ⟨i, j, e1, e2, c, h _ _ q⟩
theorem m_ix {K : PySem.W.Frag} : Mo2 (rIxLT K) := fun x y H _ _ h q => q.elim (fun ⟨p, xs, i, v, e1, e2, s, e, q⟩ => .inl ⟨p, xs, i, v, e1, e2, s, e, h _ _ q⟩) fun ⟨p, xs, i, v, e1, e2, s, e, q⟩ => .inr ⟨p, xs, i, v, e1, e2, s, e, h _ _ q⟩
theorem m_in {K : PySem.W.Frag} {n : Bool} : Mo2 (rIn K n) := fun x y H _ _ h ⟨p, xs, e1, s, f1, f2, q⟩ => ⟨p, xs, e1, s, f1, f2, h _ _ q⟩
theorem m_cat : Mo2 rCat := fun x y H _ _ h ⟨l, b, xs, zs, e1, e2, h1, h2, h3, q⟩ => ⟨l, b, xs, zs, e1, e2, h1, h2, h3, fun p hp => h _ _ (q p hp)⟩
theorem m_sadd : Mo2 rSAdd' := fun x y H _ _ h ⟨i, j, e1, e2, h1, q⟩ => ⟨i, j, e1, e2, h1, h _ _ q⟩
theorem m_add : Mo2 (rOr rIAdd (rOr rCat rSAdd')) := m_or m_I0 (m_or m_cat m_sadd)
theorem m_and (h1 : MoT c) (h2 : MoT d) : MoT (tAnd c d) := fun σ H _ _ k q => h1 σ H _ _ (fun b H1 z => by cases b with
  | true => rw [if_pos rfl] at z ⊢; exact h2 σ H1 _ _ k z
  | false => rw [if_neg Bool.false_ne_true] at z ⊢; exact k _ _ z) q
theorem m_int1 : MoC rInt1 := fun x H _ _ h q => q.elim (fun ⟨i, e, q⟩ => .inl ⟨i, e, h _ _ q⟩) fun ⟨i, e, q⟩ => .inr ⟨i, e, h _ _ q⟩
theorem m_abs : MoC rAbs := fun x H _ _ h ⟨i, e, q⟩ => ⟨i, e, h _ _ q⟩
end
end Vw

set_option Elab.async false
set_option linter.all false
set_option maxRecDepth 100000
set_option maxHeartbeats 4000000
namespace Vw
open PySem PySem.Spec PyProof.Rows L2
/-- a set as it is made -/
abbrev so0 (w : World) : Obj := { cls := .type "set", dict := none, data := .set #[] 0 (.fresh 0 0 (!w.params.followText "set-order")) }
abbrev li0 (l : Addr) : Obj := { cls := .type "list_iterator", data := .fields #[.ref l, .int 0 0] }
section
variable {P : Program} {w : World} {A : Around} {E : Value → Shared → Prop} {s : Shared}
/-- what the filling of a new set by a list of ints leaves -/
def Filled (w : World) (s : Shared) (ns : List Int) (s2 : Shared) : Prop := ∃ h' tk c, s2 = { s with heap := h', toks := tk } ∧ SetR w h' s.heap.objs.size (fun j => decide (j ∈ ns)) c ∧ c ≤ ns.length ∧ ∀ b o, s.heap.get? b = some o → h'.get? b = some o
abbrev fillQ (P : Program) (w : World) (A0 : Around) (E : Value → Shared → Prop) (s : Shared) (ns : List Int) : Result → Shared → Prop := wants (fun r s2 => r = Value.none ∧ Filled w s ns s2) E
theorem fill_list {A0 : Around} {l : Addr} {items : Array Value} (ns : List Int) (hh : A.handled = none) (hl : s.heap.IsList l items) (hit : IntsAre items.toList ns) (hb : ns.length + 1 < scanBound) :
    wpAny (model P w) A (Builtin.«set.__init__» ⟨[.ref s.heap.objs.size, .ref l], []⟩) (fun fin s' => match fin with | .done f => fillQ P w A0 E s ns (.ok f) s' | .again c' => c'.quiet = true ∧ codeAny (model P w) A0 c' (fillQ P w A0 E s ns) s') (fun e s' => fillQ P w A0 E s ns (.error e) s') { s with heap := s.heap.push (so0 w) } := by
  have hz : items.size = ns.length := by have q := IntsAre.length hit; rw [Array.length_toList] at q; exact q
  have hS : (s.heap.push (so0 w)).get? s.heap.objs.size = some (so0 w) := Heap.get?_push_size _ rfl
  obtain ⟨ol, hol, hcl, nl, hdl⟩ := hl
  obtain ⟨ocls, odict, odata, oslots⟩ := ol
  simp only at hcl hdl
  subst hcl hdl
  have hol' : (s.heap.push (so0 w)).get? l = some { cls := .type "list", dict := odict, data := .seq items nl, slots := oslots } := Heap.get?_push_of_some _ hol
  have ha := F.sub_list_set; have hf := F.sub_list_frozenset
  have hd : (Value.type "list" == Value.type "dict") = false := by decide
  have hl1 : (s.heap.push (so0 w)).IsList l items := ⟨_, hol', rfl, nl, rfl⟩
  unfold Builtin.«set.__init__» noKeywords Builtin.Frozenset.updateFrom
  generalize hPI : pyIter = PI
  wp_walk
  subst hPI
  refine wpAny_pyIter_list hl1 ?_
  refine (wpAny_bind (wpAny_runValue ?_))
  have hls : l < s.heap.objs.size := Heap.lt_size hol
  have hi0 : A.in1.in1.handled = none := by simp [hh]
  have hsz : (s.heap.push (so0 w)).objs.size = s.heap.objs.size + 1 := Heap.size_push ..
  have hI : l ≠ (s.heap.push (so0 w)).objs.size := by rw [hsz]; exact Nat.ne_of_lt (Nat.lt_succ_of_lt hls)
  have hSf : s.heap.objs.size ∉ [(s.heap.push (so0 w)).objs.size, l] := by
    rw [hsz]; simp only [List.mem_cons, List.not_mem_nil, or_false, not_or]
    exact ⟨Nat.ne_of_lt (Nat.lt_succ_self _), Nat.ne_of_gt hls⟩
  have hval : ∀ (i : Nat) (v : Value), items[i]? = some v → ∃ k t, ns[i]? = some k ∧ v = .int k t := fun i v hv => by
    have hi : i < ns.length := by rw [← hz]; exact (Array.getElem?_eq_some_iff.mp hv).1
    obtain ⟨t, e⟩ := PyProof.Rows.IntsAre.int_at hit i v (by rw [Array.getElem?_toList]; exact hv)
    exact ⟨ns[i], t, List.getElem?_eq_getElem hi, by rw [e, List.getD_eq_getElem?_getD, List.getElem?_eq_getElem hi] <;> rfl⟩
  refine set_update_ints ((Walks.list (by simp [hh]) _ l hI items).toS) s.heap.objs.size hSf ns hz hb hval (items.size - 0) 0 _ (by omega) (Nat.zero_le _) ⟨⟨_, Heap.get?_push_size _ rfl, rfl, rfl⟩, (hl1.push _)⟩ ?h0 ?h1
  case h0 =>
    have hg : ((s.heap.push (so0 w)).push (li0 l)).get? s.heap.objs.size = some (so0 w) := Heap.get?_push_of_some _ hS
    exact ⟨0, Nat.le_refl 0, setR_new_at hg⟩
  case h1 =>
    intro s' c' hm hc' hS'
    obtain ⟨h', g2, d', tk', os'⟩ := s'
    have eg : g2 = s.gens := hm.gens
    have ed : d' = s.drawn := hm.drawn
    have eo : os' = s.os := hm.os
    subst eg ed eo
    show wpAny _ _ _ _ _ _
    refine wpAny_pure ?_
    show wpAny _ _ (ret Value.none) _ _ _
    refine wpAny_pure ⟨rfl, h', tk', c', rfl, hS', by omega, fun b o e => ?_⟩
    have hb0 : b < s.heap.objs.size := Heap.lt_size e
    refine hm.heap b o ?_ (Heap.get?_push_of_some _ (Heap.get?_push_of_some _ e))
    simp only [List.mem_cons, List.not_mem_nil, or_false, not_or]
    exact ⟨Nat.ne_of_lt hb0, by rw [hsz]; exact Nat.ne_of_lt (Nat.lt_succ_of_lt hb0)⟩
theorem set_of_list {l : Addr} {items : Array Value} (ns : List Int) {Q : Value → Shared → Prop} (hh : A.handled = none) (hl : s.heap.IsList l items) (hit : IntsAre items.toList ns) (hb : ns.length + 1 < scanBound)
    (h : ∀ s2, Filled w s ns s2 → Q (.ref s.heap.objs.size) s2) : wpAny (model P w) A (call (.type "set") [.ref l]) Q E s := by
  obtain ⟨c, tl, hmro⟩ := F.called_set.mro
  have hmade := F.called_set.made; have hsub := F.called_set.sub
  refine wpAny_call (codeAny_of_tree (show wpAny _ _ (callAny (.type "set") _) _ _ _ from wpAny_pure ⟨Code.quiet_builtin _ (by decide +kernel), codeAny_builtin F.entry_type_call ?_⟩))
  rw [Around.under_plain (weight_type_call_type "set" [.ref l] []) rfl]
  have h1 := F.called_set.notType; have h2 := F.called_set.canCreate; have h3 := F.typeCall_set_1 (.ref l)
  repeat (any_goals (first | assumption | wp_step))
  refine codeAny_mono (code_set_led1 (.ref l) (E := E) (Q₁ := fun obj s₁ => obj = .ref s.heap.objs.size ∧ s₁ = { s with heap := s.heap.push (so0 w) }) ⟨rfl, rfl⟩) fun r s₁ hr => ?_
  rcases r with e | fl
  · exact hr
  cases fl with
  | ret obj =>
    obtain ⟨rfl, rfl⟩ := hr
    have hS : (s.heap.push (so0 w)).get? s.heap.objs.size = some (so0 w) := Heap.get?_push_size _ rfl
    have hT : Shared.TypeIs { s with heap := s.heap.push (so0 w) } (.ref s.heap.objs.size) "set" := ⟨_, hS, rfl⟩
    have hi1 := F.called_set.init.lookup; have hi2 := F.called_set.init.bind (.ref s.heap.objs.size)
    repeat (any_goals (first | assumption | wp_step))
    refine codeAny_mono (codeAny_call_builtin (R := wants (fun r s2 => r = Value.none ∧ Filled w s ns s2) E) F.called_set.init.plain F.entry_set_init (check_set_init_1 hT (fill_list ns (by first | exact hh | simp [hh]) hl hit hb))) fun r₂ s₂ hr₂ => ?_
    rcases r₂ with e | fl₂
    · exact hr₂
    cases fl₂ with
    | ret r =>
      obtain ⟨rfl, hF⟩ := hr₂
      have hF' := hF
      obtain ⟨h', tk, c, rfl, _⟩ := hF'
      repeat (any_goals (first | assumption | wp_step))
      exact h _ hF
    | _ => exact hr₂.elim
  | _ => exact hr.elim
end
/-- set(xs) of a list of ints -/
def rSetL1 (K : PySem.W.Frag) (w : World) : List V → Hp → VK → Prop := fun xs H Q => ∃ (a : Addr) (ns : List Int), xs = [.ref a] ∧ SqL K H a (ns.map V.int) ∧ ns.length < 4000 ∧
  ∀ (p : Addr) (c : Nat), c ≤ ns.length → H p = none → Q (.ref p) (upd H p (SetO w p (fun j => decide (j ∈ ns)) c))
theorem cSetL {X : Cx} {K : PySem.W.Frag} {w : World} (hc : X.calm = true) (e : X.K = K := by rfl) (ew : X.w = w := by rfl) : CallR X (.type "set") (rSetL1 K w) := by
  cases e; cases ew
  intro pins s σ H xs us Q I r h
  obtain ⟨a, ns, rfl, hq, hl, q⟩ := h
  rw [Vals.ref1 r]
  obtain ⟨its, rv, p, hz⟩ := I.list hq
  refine set_of_list ns (I.ok.hd hc) p.isList (ints_of_vals rv) (by unfold scanBound; omega) fun s2 hF => ?_
  obtain ⟨h', tk, c, rfl, R, hcn, kp⟩ := hF
  exact ⟨.ref _, upd H s.heap.objs.size (SetO X.w s.heap.objs.size (fun j => decide (j ∈ ns)) c), I.laid (t' := tk) kp (Nat.le_refl _) (setO_new R), rfl, q _ c hcn (I.hok.fresh (Nat.le_refl _))⟩
def rSortSet (w : World) : List V → Hp → VK → Prop := fun vs H Q => ∃ (a : Addr) (S : Int → Bool) (n : Nat), vs = [V.ref a] ∧ H a = some (SetO w a S n) ∧ n < 64 ∧
  ∀ (ns : List Int) (p : Addr), ns.Pairwise (· < ·) → (∀ k : Int, k ∈ ns ↔ S k = true) → ns.length = n → H p = none → Q (.ref p) (upd H p (.lst (ns.map V.int)))
theorem cSortSet {X : Cx} {w : World} (hc : X.calm = true) (ew : X.w = w := by rfl) : CallR X (.builtin "sorted") (rSortSet w) := by cases ew; exact cr_sortedSet hc
theorem c_setL {K : PySem.W.Frag} {w : World} {H : Hp} {Q : VK} {a : Addr} {ns : List Int} (s : SqL K H a (ns.map V.int)) (hl : ns.length < 4000) (q : ∀ p c H2, c ≤ ns.length → H p = none → Same H H2 → H2 p = some (SetO w p (fun j => decide (j ∈ ns)) c) → Q (.ref p) H2) : rSetL1 K w [.ref a] H Q :=
  ⟨a, ns, rfl, s, hl, fun p c hc hp => q p c _ hc hp (Same.new hp) upd_same⟩
theorem c_sortS {w : World} {H : Hp} {Q : VK} {a : Addr} {S : Int → Bool} {n : Nat} (h : H a = some (SetO w a S n)) (hn : n < 64) (q : ∀ (ns : List Int) p H2, ns.Pairwise (· < ·) → (∀ k : Int, k ∈ ns ↔ S k = true) → ns.length = n → H p = none → Same H H2 → H2 p = some (.lst (ns.map V.int)) → Q (.ref p) H2) : rSortSet w [.ref a] H Q :=
  ⟨a, S, n, rfl, h, hn, fun ns p h1 h2 h3 hp => q ns p _ h1 h2 h3 hp (Same.new hp) upd_same⟩
end Vw

set_option Elab.async false
set_option linter.all false
set_option maxRecDepth 100000
set_option maxHeartbeats 4000000
namespace Vw
open PySem PySem.Spec PyProof.Rows L2
/-! ### a name gets a dict comprehension -/
section
variable {X : Cx}
abbrev BlkAll (X : Cx) (scope : Scope) (F : Cx → Prop) : Prop := ∀ (s : Shared) (H : Hp) (C : Addr) (cl : List (Str × Addr)) (fp : List Addr), F (X.blk s H scope (compEnvC scope cl C X.env) fp)
theorem swD_true {kx vx : Expr} {gs : List Comprehension} {scope : Scope} {pos py : Pos} {y : Str} {l : Nat} {env : Env} (h1 : env.scope.kind = .function) (h2 : env.scope.names.lookup y = some .local) (h3 : (py.line == pos.line) = true)
    (h4 : (scope.names.any fun (n, k) => n == y && (k == .local || k == .cell)) = false) : swapsWith (.DictComp kx vx gs scope pos) (some (.Name y py)) l env = pure true := by
  have e1 : env.kindOf y = some .local := h2
  have e2 : env.blockKind = .function := by unfold Env.blockKind; rw [h1]; rfl
  unfold swapsWith
  simp only [e2, e1, h4, Expr.pos, h3]; rfl
theorem ps_setDc {i : Nat} {y : Str} {py : Pos} {kx vx tg iter : Expr} {ifs : List Expr} {scope : Scope} {own : List (Str × Nat)} {pos spos : Pos} {wi : TI} {g : TG} {tt : TT} {tk tv : TE} (hc : X.calm = true) (hN : X.N.Nodup) (hy : X.N[i]? = some y) (hyl : X.env.scope.names.lookup y = some .local)
    (hsw : swapsWith (.DictComp kx vx [⟨tg, iter, ifs, 0⟩] scope pos) (some (.Name y py)) spos.line X.env = pure true) (hi : PI X tg iter wi) (ok : BlkOk X.N X.env.scope scope own) (hg : BlkAll X scope fun Y => PG Y tg g) (ht : BlkAll X scope fun Y => PTs Y ifs tt)
    (hk : BlkAll X scope fun Y => PE Y kx tk) (he : BlkAll X scope fun Y => PE Y vx tv) (hs : ∀ x, foldedSetIterable iter X.env x = pure x := by intro _; rfl) : PS X (.Assign [.Name y py] (.DictComp kx vx [⟨tg, iter, ifs, 0⟩] scope pos) spos) (tAsg (tDc wi g tt tk tv (own.map (·.2))) (gName i)) := by
  refine ⟨fun pins s σ H D I h => ?_⟩
  rw [exec_Assign_Name_used _ _ _ _ hsw]
  refine wpAny_bind (wpAny_standAt (wpAny_bind ?_))
  show wpAny _ X.A (do let _ ← comprehension (.DictComp kx vx [⟨tg, iter, ifs, 0⟩] scope pos) scope X.env (firstIterPos [⟨tg, iter, ifs, 0⟩] pos) newDict false (eval iter X.env) (some (assign (.Name y py) X.env))) _ _ s
  have h2 : tDc wi g tt tk tv (own.map (·.2)) σ H (fun x H1 => gName i x σ H1 D.nx) := h
  refine wpAny_bind (thn (dc_core (Qf := fun _ s' => SP X pins D .next s') hc hN I hi ok hg ht hk he hs h2 fun L C s' m H' I' q hn f => ?_) fun _ s' hq => wpAny_pure (wpAny_pure hq))
  show wpAny _ _ (assign (.Name y py) X.env (.ref L)) _ _ _
  refine wpAny_assign_Name (store_ok2 (v := V.ref L) I' hN hy (.inl hyl) rfl (fun s2 I2 ⟨a, sb, ha⟩ => ?_) (.inr hyl))
  obtain ⟨f0, f1, f2, f3, f4, f5⟩ := f
  have hne : C ≠ a := ha.elim (fun z => z ▸ f1) fun z e => f4 y a z e.symm
  exact ⟨m, hn.sameBut sb hne, fun h3 sb3 => ⟨_, H', I2.turned (t' := s2.toks) (fun b o hb e => (sb3.2 b hb).trans e) f0 f1 f3 f4 f5, q⟩⟩
end
end Vw

set_option Elab.async false
set_option linter.all false
set_option maxRecDepth 100000
set_option maxHeartbeats 4000000
namespace Vw
open PySem PySem.Spec PyProof.Rows L2 HT
/-! ### t[::-1] of a tuple -/
section
variable {prog : Program} {w : World} {A : Around} {E : Value → Shared → Prop} {s : Shared}
theorem backAdjust (n : Nat) : Builtin.Slice.sliceAdjust none none (-1) (n : Int) = ((n : Int) - 1, -1) := by
  unfold Builtin.Slice.sliceAdjust
  rfl
theorem backPlaces (n : Nat) : Builtin.Slice.slicePlaces ((n : Int) - 1) (-1) (-1) = n := by
  unfold Builtin.Slice.slicePlaces
  have h1 : ¬ ((-1 : Int) > 0) := by decide
  simp only [h1, if_false]
  have e : ((n : Int) - 1 - -1 - 1) / (- -1) = (n : Int) - 1 := by
    rw [show (- -1 : Int) = 1 by decide, Int.ediv_one]
    omega
  split
  · rw [e]; omega
  · omega
theorem sliceApplied_back {sl : Addr} {vs : Value} {n : Nat} {Q : Int × Int × Nat → Shared → Prop} (hs : s.heap.IsSliceOf sl .none .none vs) (ps : IsPart vs (some (-1)))
    (h : Q (((n : Int) - 1), -1, n) s) : wpAny (model prog w) A (Builtin.Slice.sliceApplied (.ref sl) (pure (n : Int))) Q E s := by
  obtain ⟨os, hos, hcs, hds⟩ := id hs
  unfold Builtin.Slice.sliceApplied Builtin.Slice.sliceFields
  refine wpAny_bind (wpAny_bind (wpAny_field hos hds (x := .none) rfl (wpAny_bind (wpAny_field hos hds (x := .none) rfl (wpAny_bind (wpAny_field hos hds (x := vs) rfl (wpAny_pure ?_)))))))
  refine wpAny_bind (slicePart_ ps ?_)
  show wpAny _ _ (if ((-1 : Int) == 0) = true then _ else _) _ _ s
  rw [if_neg (by decide)]
  refine wpAny_bind (slicePart_none (wpAny_bind (slicePart_none (wpAny_bind (wpAny_pure ?_)))))
  show wpAny _ _ (match Builtin.Slice.sliceAdjust none none (-1) (n : Int) with | (lo, hi) => pure (lo, (-1 : Int), Builtin.Slice.slicePlaces lo hi (-1))) _ _ s
  rw [backAdjust n]
  show wpAny _ _ (pure (((n : Int) - 1), (-1 : Int), Builtin.Slice.slicePlaces ((n : Int) - 1) (-1) (-1))) _ _ s
  rw [backPlaces]
  exact wpAny_pure h
theorem pick_back (xs : Array Value) : ((List.range xs.size).filterMap fun (m : Nat) => xs[((xs.size : Int) - 1 + (m : Int) * (-1)).toNat]?).toArray = xs.toList.reverse.toArray := by
  have e : (List.range xs.size).filterMap (fun (m : Nat) => xs[((xs.size : Int) - 1 + (m : Int) * (-1)).toNat]?) = ((List.range xs.size).map fun k => xs.size - 1 - k).filterMap (xs[·]?) := by
    have e2 : (List.range xs.size).map (fun k => xs.size - 1 - k) = (List.range xs.size).map fun (m : Nat) => ((xs.size : Int) - 1 + (m : Int) * (-1)).toNat := by
      apply List.map_congr_left
      intro m hm
      have := List.mem_range.mp hm
      omega
    rw [e2, List.filterMap_map]
    rfl
  rw [e, PySem.W.krv_range, List.filterMap_reverse, PySem.W.krv_all]
theorem getItem_tuple_back {t sl : Addr} {items : Array Value} {vs : Value} {Q : Value → Shared → Prop} (ht : IsTup s.heap t items) (hs : s.heap.IsSliceOf sl .none .none vs) (ps : IsPart vs (some (-1)))
    (h : Q (.ref s.heap.objs.size) { s with heap := s.heap.push { cls := .type "tuple", data := .seq items.toList.reverse.toArray } })
    (hsz : items.size ≤ sizeLine) : wpAny (model prog w) A (getItem (.ref t) (.ref sl)) Q E s := by
  have htake : sizeOk (.seq items.toList.reverse.toArray) := by
    show items.toList.reverse.toArray.size ≤ sizeLine
    rw [List.size_toArray, List.length_reverse, Array.length_toList]
    exact hsz
  obtain ⟨os, hos, hcs, hds⟩ := id hs
  have hTs : s.TypeIs (.ref sl) "slice" := ⟨os, hos, hcs⟩
  unfold getItem
  try with_reducible refine wpAny_holding ?_
  first | refine wpAny_bind (wpAny_pure ?_) | skip
  refine wpAny_bind (wpAny_sequenceKey ht.typeIs (by decide) ?_)
  refine wpAny_bind (wpAny_callSpecial?_slot (name := Str.ofString "__getitem__") ht.typeIs PyProof.Rows.slot_tuple_getitem
    (wpAny_call_entry PyProof.Rows.slot_tuple_getitem ht.typeIs entry_tuple_getitem ?_ (args_tuple_getitem _ _)))
  show wpAny _ _ (Builtin.Tuple.tupleItemsOf (.ref t) >>= _) _ _ s
  refine wpAny_bind (tupleItemsOf_ ht ?_)
  refine wpAny_bind (wpAny_typeOf hTs ?_)
  rw [if_pos (by decide)]
  refine wpAny_bind (sliceApplied_back hs ps ?_)
  have hno : ¬ ((((items.size : Int) - 1) == 0 && (-1 : Int) == 1 && items.size == items.size) = true) := by
    intro q
    rw [Bool.and_eq_true, Bool.and_eq_true] at q
    exact absurd q.1.2 (by decide)
  show wpAny _ _ (if (((items.size : Int) - 1) == 0 && (-1 : Int) == 1 && items.size == items.size) = true then _ else _) _ _ s
  rw [if_neg hno, pick_back]
  first
    | exact wpAny_bind (m := Builtin.Tuple.tupleExact _) (wpAny_newObj_type (wpAny_pure ⟨_, rfl, wpAny_pure h⟩) htake)
    | exact wpAny_bind (m := Builtin.Tuple.tupleExact _) (wpAny_newObj_type (wpAny_bind (wpAny_pure (wpAny_pure ⟨_, rfl, wpAny_pure h⟩))) htake)
    | exact wpAny_bind (wpAny_bind (m := Builtin.Tuple.tupleExact _) (wpAny_newObj_type (wpAny_pure (wpAny_pure ⟨_, rfl, wpAny_pure h⟩)) htake))
    | exact wpAny_bind (wpAny_bind (m := Builtin.Tuple.tupleExact _) (wpAny_newObj_type (wpAny_pure ⟨_, rfl, wpAny_pure h⟩) htake))
end
section
variable {X : Cx}
def tRevT (K : PySem.W.Frag) (te : TE) : TE := fun σ H Q => te σ H fun x H1 => ∃ a xs, x = .ref a ∧ SqT K H1 a xs ∧ ∀ p, H1 p = none → Q (.ref p) (upd H1 p (.tup xs.reverse))
theorem pe_revT {K : PySem.W.Frag} {e : Expr} {te : TE} {k : Nat} {p1 p2 p3 pos : Pos} (he : PE X e te) (eK : X.K = K := by rfl) : PE X (.Subscript e (.Slice none none (some (.UnaryOp .USub (.Constant (.int 1) k p1) p2)) p3) pos) (tRevT K te) := by
  cases eK
  refine ⟨fun pins s σ H Q I h => ?_⟩
  refine Subscript_ (thn (he.run pins s σ H _ I h) fun v s1 ⟨x, H1, I1, r1, q1⟩ => ?_)
  obtain ⟨a, xs, ex, hx, q⟩ := q1
  subst ex
  cases r1
  have hst : PO X (some (.UnaryOp .USub (.Constant (.int 1) k p1) p2)) (tPart (tUn (rU fun i => .int (-i)) (tC (.int 1)))) := po_some (pe_un un_neg pe_int)
  refine wpAny_Slice (thn (po_none.run pins s1 σ H1 (fun o H2 => o = none ∧ H2 = H1) I1 ⟨rfl, rfl⟩) fun vl s2 ⟨l, H2, I2, pl, el, e2⟩ => ?_)
  subst el e2
  cases pl
  refine thn (po_none.run pins s2 σ H2 (fun o H3 => o = none ∧ H3 = H2) I2 ⟨rfl, rfl⟩) fun vu s3 ⟨u, H3, I3, pu, eu, e3⟩ => ?_
  subst eu e3
  cases pu
  refine thn (hst.run pins s3 σ H3 (fun o H4 => o = some (-1) ∧ H4 = H3) I3 ⟨1, rfl, -1, rfl, rfl, rfl⟩) fun vs s4 ⟨o, H4, I4, ps, eo, e4⟩ => ?_
  subst eo e4
  have I5 : Inv X pins σ H4 { s4 with heap := s4.heap.push { cls := .type "slice", data := .fields #[.none, .none, vs] } } := I4.kept (t' := s4.toks) fun b ob q => Heap.get?_push_of_some _ q
  obtain ⟨its, r, ht, hz⟩ := I5.tuple hx
  have hlen := r.length
  show wpAny (model X.prog X.w) X.A (subscriptTail e (.Slice none none (some (.UnaryOp .USub (.Constant (.int 1) k p1) p2)) p3) (.ref a) (.ref s4.heap.objs.size)) (EP X pins σ Q) X.xe { s4 with heap := s4.heap.push { cls := .type "slice", data := .fields #[.none, .none, vs] } }
  refine tail_any (ops := [.ref a, .ref s4.heap.objs.size]) ht.typeIs (PyProof.Rows.slot_tuple_getitem.lookup) ?_ (by with_unfolding_all rfl)
  refine getItem_tuple_back ht (Heap.IsSliceOf.new _ .none .none vs) ps ?_ (by rw [List.size_toArray]; omega)
  refine ⟨.ref _, _, I5.laid (t' := s4.toks) (o := .tup xs.reverse) (fun b ob q => Heap.get?_push_of_some _ q) (Nat.le_refl _) ?_, rfl, q _ (I5.hok.fresh (Nat.le_refl _))⟩
  exact ⟨by rw [List.length_reverse]; exact hz, _, r.reverse, IsTup.new _ _⟩
end
end Vw

set_option Elab.async false
set_option linter.all false
set_option maxRecDepth 100000
set_option maxHeartbeats 4000000
namespace Vw
open PySem PySem.Spec PyProof.Rows L2 RT
/-! ### more rules under one name -/
section
variable {X : Cx} {K : PySem.W.Frag}
theorem oAddT (e : X.K = K := by rfl) : OpR X (binaryOp .Add) (rOr rIAdd (rOr rCat (rCatA K))) := by cases e; exact oOr op_add (oOr op_cat op_catA)
theorem slA (e : X.K = K := by rfl) : SlR X (rSlA K) := by cases e; exact sl_tupA
def rLenD : List V → Hp → VK → Prop := fun xs H Q => ∃ a kvs, xs = [V.ref a] ∧ H a = some (.dK kvs) ∧ Q (.int kvs.length) H
theorem cLenD : CallR X (.builtin "len") rLenD := call_lenD
theorem piZip {e e2 : Expr} {ta : TA} {p pos tpos : Pos} {elts : List Expr} {kk : Nat} (hg : Gl X "zip") (hm : X.mg "zip" = none) (ha : PA X [e, e2] ta) (eK : X.K = K := by rfl)
    (hs : starEach [e, e2] X.env = (false, eval e X.env) :: starEach [e2] X.env := by rfl) (hb : ((backTo pos (starEach [e2] X.env)).any fun x => x.fst) = false := by rfl) :
    PI X (.Tuple elts kk tpos) (.Call (.Name "zip" p) [e, e2] [] pos) (iZip K ta) := by cases eK; exact pi_zip hg hm ha hs hb
/-- over a list or a tuple -/
def iOr (w1 w2 : TI) : TI := fun σ H R => w1 σ H R ∨ w2 σ H R
theorem piOr {tg l : Expr} {w1 w2 : TI} (h1 : PI X tg l w1) (h2 : PI X tg l w2) : PI X tg l (iOr w1 w2) := ⟨fun pins s σ H R I h => h.elim (h1.run pins s σ H R I) (h2.run pins s σ H R I)⟩
theorem piX {tg l : Expr} {tl : TE} (hl : PE X l tl) (e : X.K = K := by rfl) : PI X tg l (iOr (iList K tl) (iTup K tl)) := piOr (piL (K := K) hl e) (piT (K := K) hl e)
end
section
variable {K : PySem.W.Frag} {σ : L2.St} {H H1 : Hp} {Q : VK} {R : It → Hp → Prop} {i : Nat} {a : Addr} {xs : List V}
theorem i_orX {H0 : Hp} (hv : σ[i]? = some (some (.ref a))) (s : SqX K H0 a xs) (ss : Same H0 H) (h : ∀ J G, (∀ H', Same H0 H' → G H') → Walk J xs.length G (fun i H x H' => H' = H ∧ xs[i]? = some x) → R J H) : iOr (iList K (tVar i)) (iTup K (tVar i)) σ H R :=
  s.elim (fun s => .inl ⟨.ref a, hv, a, rfl, ⟨xs, sl_ ss s⟩, h _ _ (fun H' q => sl_ q s) walk_list⟩) fun s => .inr ⟨.ref a, hv, a, rfl, ⟨xs, st_ ss s⟩, h _ _ (fun H' q => st_ q s) walk_tup⟩
def ZpQ (K : PySem.W.Frag) (R : It → Hp → Prop) (vs : List V) (H1 : Hp) : Prop := ∃ a b xs ys, vs = [V.ref a, V.ref b] ∧ SqL K H1 a xs ∧ SqL K H1 b ys ∧ R (Itz K a b) H1
theorem i_zip0 {ta : TA} (h : ta σ H fun vs H1 => ZpQ K R vs H1) : iZip K ta σ H R := h
theorem i_zip {b : Addr} {ys : List V} (h1 : SqL K H a xs) (h2 : SqL K H b ys) (q : R (Itz K a b) H) : ZpQ K R [.ref a, .ref b] H := ⟨a, b, xs, ys, rfl, h1, h2, q⟩
theorem e_lenD {kvs : List (Key × V)} (h : H a = some (.dK kvs)) (q : Q (.int (kvs.length : Nat)) H) : rLenD [.ref a] H Q := ⟨a, kvs, rfl, h, q⟩
theorem o_catA {r r' : R2} {b : Addr} {ys : List V} (h1 : SqT K H a xs) (h2 : SqT K H b ys) (hl : xs.length + ys.length ≤ 100000) (q : ∀ p H2, Same H H2 → SqT K H2 p (xs ++ ys) → Q (.ref p) H2) : rOr r (rOr r' (rCatA K)) (.ref a) (.ref b) H Q := by
  refine .inr (.inr ⟨a, b, xs, ys, rfl, rfl, h1, h2, Nat.le_trans hl (by decide), fun e => ?_, fun _ e => ?_, fun _ _ p n => ?_⟩)
  · subst e; exact q b H (Same.refl _) h2
  · subst e; exact q a H (Same.refl _) (by rw [List.append_nil]; exact h1)
  · exact q p _ (Same.new n) (stO upd_same)
theorem r_slA {lo hi : Option Int} (h1 : SqT K H a xs) (q : ∀ p H2 ys, Same H H2 → SqT K H2 p ys → ys.length ≤ xs.length → (∀ y ∈ ys, y ∈ xs) → Q (.ref p) H2) : rSlA K (.ref a) lo hi H Q := by
  refine ⟨a, xs, rfl, h1, fun _ => q a H xs (Same.refl _) h1 (Nat.le_refl _) fun _ h => h, fun _ p n => q p _ _ (Same.new n) (stO upd_same) ?_ ?_⟩
  · exact cutV_length xs lo hi
  · have key : ∀ a b : Nat, ∀ y ∈ (xs.drop a).take b, y ∈ xs := fun a b y hy => List.mem_of_mem_drop (List.mem_of_mem_take hy)
    exact key _ _
theorem e_revT {te : TE} (h : te σ H fun x H1 => ∃ a xs, x = .ref a ∧ SqT K H1 a xs ∧ NewQ (.tup xs.reverse) H1 Q) : tRevT K te σ H Q := h
theorem r_revT {Q : VK} (s : SqT K H a xs) (q : NewQ (.tup xs.reverse) H Q) : ∃ a' xs, V.ref a = .ref a' ∧ SqT K H a' xs ∧ NewQ (.tup xs.reverse) H Q := ⟨a, xs, rfl, s, q⟩
theorem isB_bl {x y : Bool} (q : Q (.bl (decide (x = y))) H) : rIsB (.bl x) (.bl y) H Q := ⟨x, y, rfl, rfl, q⟩
theorem notB_bl {x y : Bool} (q : Q (.bl (!decide (x = y))) H) : rNotB (.bl x) (.bl y) H Q := ⟨x, y, rfl, rfl, q⟩
theorem o_neB {r' : R2} {x y : Bool} (q : Q (.bl (!decide (x = y))) H) : rOr rNe r' (.bl x) (.bl y) H Q := .inl ⟨rfl, by
  have e : (!decide (V.bl x = V.bl y)) = !decide (x = y) := by
    cases x <;> cases y <;> rfl
  rw [e]; exact q⟩
theorem isi_dk {kvs : List (Key × V)} {n : String} (b : Bool) (h : H a = some (.dK kvs)) (e : kitB "dict" n = some b) (q : Q (.bl b) H) : rIsi K [.ref a, .ty n] H Q := isi_ (.base (.dK h)) e q
theorem e_dnew (q : ∀ p H2, H p = none → Same H H2 → H2 p = some (.dK []) → Q (.ref p) H2) : tDNewK σ H Q := fun p n => q p _ n (Same.new n) upd_same
theorem e_disp1 {i j : Int} (q : ∀ p H2, H p = none → Same H H2 → H2 p = some (.dK [(Sum.inl i, .int j)]) → Q (.ref p) H2) : tDisp [(tC (.int i), tC (.int j))] σ H Q := fun p n =>
  ⟨upd_same, [(Sum.inl i, .int j)], rfl, by show 1 ≤ 15; decide, q p _ n (upd_free (Same.new n) n) upd_same⟩
theorem i_nrr {r : Bool} {A B : Prop} (q : B) : if (!decide (r = r)) = true then A else B := by
  rw [show (!decide (r = r)) = false by simp]
  exact iteF q
end
end Vw

set_option Elab.async false
set_option linter.all false
set_option maxRecDepth 100000
set_option maxHeartbeats 4000000
namespace Vw
open PySem PySem.Spec PyProof.Rows L2 RT
/-! ### own classes and their methods -/
structure ClsAt (K : PySem.W.Frag) (mg : Str → Option Value) (x : Str) (C : Addr) : Prop where
  cl : Cls K C
  mks : PySem.W.makesIn K C = true
  kc : PySem.W.keepIn K (.ref C) = true
  g : mg x = some (.ref C)
theorem clsAt_mk {K : PySem.W.Frag} {mg : Str → Option Value} {h : Heap} {x : Str} {C : Addr} (X : K.In h) (G : h.Ns mainGlobals mg) (a : PySem.W.nsIn K mainGlobals x = some (some (.ref C)))
    (pg : PySem.W.plainGet K C Str.empty = true) (hd : PySem.W.hasDictIn K C = true) (po : PySem.W.plainOver K C = true) (sa : PySem.W.findIn K (.ref C) "__setattr__" = some (some (.builtin "object.__setattr__")))
    (mk : PySem.W.makesIn K C = true) (kc : PySem.W.keepIn K (.ref C) = true) : ClsAt K mg x C := ⟨⟨pg, hd, po, sa⟩, mk, kc, PySem.W.mg_of X G a⟩
structure MethAt (K : PySem.W.Frag) (C : Addr) (m qual : Str) (st : Stmt) (ps : List Str) where
  f : Addr
  fd : FuncData
  F : Fun K m qual st f fd
  b : Binds K fd ps []
  i : Meth K C m f
def methAt_mk {K : PySem.W.Frag} {C : Addr} {m qual : Str} {st : Stmt} {ps : List Str} {f : Addr} {od an : Option Addr} {sl : Array (Option Value)} {oc kV dc pm cd ct : Value}
    (a : PySem.W.findIn K (.ref C) m = some (some (.ref f))) (i : PySem.W.isFn K (.ref f) = true) (l : K.lookup f = some ⟨oc, od, .func (PySem.W.fnOf m qual (defArgs st) (defBody st) (defScope st) .none kV dc pm an cd ct), sl⟩) (c : PySem.W.codeIn K cd qual = true) (k : PySem.W.keepIn K (.ref f) = true)
    (b : ∀ (kV doc pm : Value) (an : Option Addr) (cdv ct : Value) (us : List Value), us.length = ps.length → bindArgs (PySem.W.fnOf m qual (defArgs st) (defBody st) (defScope st) .none kV doc pm an cdv ct) ⟨us, []⟩ = pure (ps.zip us)) : MethAt K C m qual st ps :=
  ⟨f, _, fun_mk l c k, (fun_mk (st := st) l c k).binds b, ⟨a, i, k⟩⟩
theorem MethAt.made {K : PySem.W.Frag} {mg : Str → Option Value} {x qual : Str} {C : Addr} {st : Stmt} {ps : List Str} (A : ClsAt K mg x C) (M : MethAt K C "__init__" qual st ps) : Mk K C M.f := ⟨A.mks, M.i.at_, M.i.fn, A.kc⟩
/-- an own instance at p, its fields -/
def InsAt (C : Addr) (H : Hp) (p : Addr) (fs : List (Str × V)) : Prop := ∃ dx, H p = some (.ins C dx fs)
section
variable {K : PySem.W.Frag} {σ : L2.St} {H : Hp} {Q : VK} {ta : TE} {C p : Addr} {fs : List (Str × V)} {f : Str} {v : V}
def FldQ (K : PySem.W.Frag) (f : Str) (x : V) (H1 : Hp) (Q : VK) : Prop := ∃ p C dx fs v, x = .ref p ∧ H1 p = some (.ins C dx fs) ∧ Cls K C ∧ NoAttr K C f ∧ fs.lookup f = some v ∧ Q v H1
theorem e_fld (h : ta σ H fun x H1 => FldQ K f x H1 Q) : tFld K ta f σ H Q := h
theorem o_fld (h : InsAt C H p fs) (cl : Cls K C) (na : NoAttr K C f) (e : fs.lookup f = some v) (q : Q v H) : FldQ K f (.ref p) H Q := h.elim fun dx h => ⟨p, C, dx, fs, v, rfl, h, cl, na, e, q⟩
end
section
variable {K : PySem.W.Frag} {σ : L2.St} {H : Hp} {Q : VK} {ta tv : TE} {C p : Addr} {fs : List (Str × V)} {m f : Str} {v y : V} {D : Ends}
def MethQ (C : Addr) (m : Str) (sp : Sp) (dvs : List V) (E : XK) (t : TA) (σ : L2.St) (x : V) (H1 : Hp) (Q : VK) : Prop := ∃ a dx fs, x = .ref a ∧ H1 a = some (.ins C dx fs) ∧ fs.lookup m = none ∧ t σ H1 fun vs H2 => sp (x :: (vs ++ dvs)) H2 Q E
theorem e_meth {sp : Sp} {dvs : List V} {E : XK} {t : TA} (h : ta σ H fun x H1 => MethQ C m sp dvs E t σ x H1 Q) : tMeth C m sp dvs E ta t σ H Q := h
theorem m_call0 {sp : Sp} {dvs : List V} {E : XK} {t : TA} (h : InsAt C H p fs) (e : fs.lookup m = none) (q : t σ H fun vs H2 => sp (.ref p :: (vs ++ dvs)) H2 Q E) : MethQ C m sp dvs E t σ (.ref p) H Q := h.elim fun dx h => ⟨p, dx, fs, rfl, h, e, q⟩
def SetQ (K : PySem.W.Frag) (f : Str) (y x : V) (H2 : Hp) (R : Hp → Prop) : Prop := ∃ a C dx fs, x = .ref a ∧ H2 a = some (.ins C dx fs) ∧ Cls K C ∧ NoAttr K C f ∧ fs.length < 1000 ∧ R (upd H2 a (.ins C dx (putF f y fs)))
theorem s_setf (h : tv σ H fun y H1 => ta σ H1 fun x H2 => SetQ K f y x H2 fun H3 => D.nx σ H3) : sFld K ta tv f D σ H := h
theorem s_fld {dx : Addr} {R : Hp → Prop} {x : V} (ex : x = .ref p) (h : H p = some (.ins C dx fs)) (cl : Cls K C) (na : NoAttr K C f) (l : fs.length < 1000) (q : R (upd H p (.ins C dx (putF f y fs)))) : SetQ K f y x H R := ⟨p, C, dx, fs, ex, h, cl, na, l, q⟩
end
section
variable {K : PySem.W.Frag} {σ : L2.St} {H : Hp} {Q : VK} {td ty : TE} {d : Addr} {kvs : List (Key × V)} {k : Key} {v : V}
def DgQ (x y : V) (H2 : Hp) (Q : VK) : Prop := ∃ a v, x = .ref a ∧ DGet H2 a y (some v) ∧ Q v H2
theorem e_dget (h : td σ H fun x H1 => ty σ H1 fun y H2 => DgQ x y H2 Q) : tDGet td ty σ H Q := h
theorem o_dget (h : H d = some (.dK kvs)) (e : valV kvs k = some v) (q : Q v H) : DgQ (.ref d) (kV k) H Q := ⟨d, v, rfl, e ▸ DGet.k h, q⟩
end
section
variable {X : Cx} {K : PySem.W.Frag} {e o value : Expr} {f : Str} {pos pos' : Pos} {ta tv : TE}
theorem peFld (h : PE X e ta) (hb : attributeBase e f X.env (eval e X.env) = eval e X.env) (eK : X.K = K := by rfl) : PE X (.Attribute e f pos) (tFld K ta f) := by cases eK; exact pe_fld h hb
theorem psFld (ho : PE X o ta) (hv : PE X value tv) (hs : swapsWith value (some (.Attribute o f pos')) pos.line X.env = pure false) (eK : X.K = K := by rfl) : PS X (.Assign [.Attribute o f pos'] value pos) (sFld K ta tv f) := by cases eK; exact ps_fld ho hv hs
end
theorem oth_stI {K : PySem.W.Frag} {p a C dx : Addr} {H H' : Hp} {fs : List (Str × V)} {xs : List V} (o : Oth p H H') (n : H p = some (.ins C dx fs)) (s : SqT K H a xs) : SqT K H' a xs := by
  rcases s with (s | ⟨u, s⟩) | s
  · exact .inl (.inl (o _ _ (fun z => by rw [z, n] at s; cases s) s))
  · exact .inl (.inr ⟨u, o _ _ (fun z => by rw [z, n] at s; cases s) s⟩)
  · exact .inr s
section
variable {K : PySem.W.Frag} {σ : L2.St} {H : Hp} {Q : VK} {td ty tx : TE} {d : Addr} {kvs : List (Key × V)} {k : Key} {v z : V}
def SdQ (x : V) (H1 : Hp) (R : Addr → Prop) : Prop := ∃ a, x = .ref a ∧ IsD H1 a ∧ R a
def SeQ (a : Addr) (y z : V) (H3 : Hp) (Q : VK) : Prop := ∃ (kvs : List (Key × V)) (k : Key), H3 a = some (.dK kvs) ∧ y = kV k ∧ kvs.length < sizeLine ∧ (∀ v, valV kvs k = some v → Q v H3) ∧ (valV kvs k = none → Q z (upd H3 a (.dK (putK kvs k z))))
theorem e_dsetd (h : td σ H fun x H1 => SdQ x H1 fun a => ty σ H1 fun y H2 => tx σ H2 fun z H3 => SeQ a y z H3 Q) : tDSetd td ty tx σ H Q := h
theorem o_dsetd {R : Addr → Prop} (h : H d = some (.dK kvs)) (q : R d) : SdQ (.ref d) H R := ⟨d, rfl, .inl ⟨kvs, .inl h⟩, q⟩
theorem o_dset (h : H d = some (.dK kvs)) (l : kvs.length < 100000) (q1 : ∀ v, valV kvs k = some v → Q v H) (q2 : valV kvs k = none → Q z (upd H d (.dK (putK kvs k z)))) : SeQ d (kV k) z H Q := ⟨kvs, k, h, rfl, lt_size l, q1, q2⟩
end
/-! ### texts -/
def rTx (g : Str → Bool) : V → List V → Hp → VK → Prop := fun x xs H Q => ∃ a, x = .str a ∧ xs = [] ∧ True ∧ Q (.bl (g a)) H
section
variable {X : Cx} {K : PySem.W.Frag} {o : Expr} {to : TE} {apos cpos : Pos}
theorem peIsascii (ho : PE X o to) (hbase : attributeBase o "isascii" X.env (eval o X.env) = eval o X.env := by rfl) (hline : (apos.endLine == cpos.line) = true := by rfl) (eK : X.K = K := by rfl) : PE X (.Call (.Attribute o "isascii" apos) [] [] cpos) (tBM0 K "str" (rTx Txt.isascii) to) := by
  cases eK; exact pe_bm0 PySem.F.plainAttrs_str PySem.F.slot_str_isascii PySem.F.type_str_isascii mt_isascii ho hbase hline
theorem peIsalpha (ho : PE X o to) (hbase : attributeBase o "isalpha" X.env (eval o X.env) = eval o X.env := by rfl) (hline : (apos.endLine == cpos.line) = true := by rfl) (eK : X.K = K := by rfl) : PE X (.Call (.Attribute o "isalpha" apos) [] [] cpos) (tBM0 K "str" (rTx Txt.isalpha) to) := by
  cases eK; exact pe_bm0 PySem.F.plainAttrs_str PySem.F.slot_str_isalpha PySem.F.type_str_isalpha mt_isalpha ho hbase hline
theorem peIslower (ho : PE X o to) (hbase : attributeBase o "islower" X.env (eval o X.env) = eval o X.env := by rfl) (hline : (apos.endLine == cpos.line) = true := by rfl) (eK : X.K = K := by rfl) : PE X (.Call (.Attribute o "islower" apos) [] [] cpos) (tBM0 K "str" (rTx Txt.islower) to) := by
  cases eK; exact pe_bm0 PySem.F.plainAttrs_str PySem.F.slot_str_islower PySem.F.type_str_islower mt_islower ho hbase hline
end
section
variable {K : PySem.W.Frag} {σ : L2.St} {H : Hp} {Q : VK} {to : TE} {z y : Str} {r' : R2}
theorem e_bm0 {T : String} {r : V → List V → Hp → VK → Prop} (h : to σ H fun x H1 => tyV K T x H1 ∧ r x [] H1 Q) : tBM0 K T r to σ H Q := h
theorem r_tx {g : Str → Bool} (q : Q (.bl (g z)) H) : tyV K "str" (.str z) H ∧ rTx g (.str z) [] H Q := ⟨rfl, z, rfl, rfl, trivial, q⟩
theorem e_lenS (h : z.length ≤ 100000) (q : Q (.int (z.length : Nat)) H) : rLen' K [.str z] H Q := ⟨.str z, z.length, rfl, ⟨Nat.le_trans h (by decide), rfl⟩, q⟩
theorem o_eqStr (q : Q (.bl (decide (z = y))) H) : rOr rEq r' (.str z) (.str y) H Q := .inl ⟨rfl, by
  have e : decide (V.str z = V.str y) = decide (z = y) := by
    by_cases h : z = y
    · rw [decide_eq_true h, h]; exact decide_eq_true rfl
    · rw [decide_eq_false h]; exact decide_eq_false fun q => h (V.str.inj q)
  rw [e]; exact q⟩
theorem o_neStr (q : Q (.bl (decide (z ≠ y))) H) : rOr rNe r' (.str z) (.str y) H Q := .inl ⟨rfl, by
  have e : (!decide (V.str z = V.str y)) = decide (z ≠ y) := by
    by_cases h : z = y
    · rw [decide_eq_false (show ¬ z ≠ y from fun q => q h), h, decide_eq_true rfl]; rfl
    · rw [decide_eq_true (show z ≠ y from h), decide_eq_false fun q => h (V.str.inj q)]; rfl
  rw [e]; exact q⟩
end
theorem e_dnin {σ : L2.St} {H : Hp} {Q : VK} {ty td : TE} (h : ty σ H fun y H1 => td σ H1 fun x H2 => ∃ a o, x = .ref a ∧ DGet H2 a y o ∧ Q (.bl (!o.isSome)) H2) : tDNotIn ty td σ H Q := h
theorem while_m {c : TT} {t : TS} {D : Ends} {σ : L2.St} {H : Hp} (W : Nat → L2.St → Hp → Prop) (m0 : Nat) (h0 : W m0 σ H) (hs : ∀ m σ H, W m σ H → c σ H fun b H1 => if b = true then ∃ N : L2.St → Hp → Prop, (∀ σ' H', N σ' H' → ∃ m', m' < m ∧ W m' σ' H') ∧ t { D with nx := N, ct := N, bk := D.nx } σ H1 else D.nx σ H1) : tWhile c t D σ H := ⟨W, ⟨m0, h0⟩, hs⟩
end Vw

set_option Elab.async false
set_option linter.all false
set_option maxRecDepth 100000
set_option maxHeartbeats 4000000
namespace Vw
open PySem PySem.Spec PyProof.Rows L2 RT
/-! ### an own exception without fields, made by C(), its __init__ inherited and walked as a def -/
theorem mk_endN {X : Cx} {pins : List (Addr × Obj)} {σ : L2.St} {H1 : Hp} {Q : XK} {hp hp2 h2 : Heap} {g1 g2 : Array GenState} {d1 d2 : Drawn} {t1 t2 : Nat} {os1 os2 : OsState} {a C : Addr} (T : Raises X (.ref C)) (I1 : Inv X pins σ H1 ⟨hp, g1, d1, t1, os1⟩)
    (ha : hp.objs.size ≤ a) (k : ∀ b o, hp.get? b = some o → hp2.get? b = some o) (un : Un (frs X.stack) [] (upd H1 a (exo a C none)) (upd H1 a (exo a C none)) hp2 h2) (hok : HOk X.prog X.w (upd H1 a (exo a C none)) h2) (ho : os2 = os1) (hb : AllBare g2)
    (q : Q (.ref C) none H1) : MkP X pins σ Q (.ref a) ⟨h2, g2, d2, t2, os2⟩ := by
  obtain ⟨t0, hoe⟩ := exo_at hok (upd_same : upd H1 a (exo a C none) a = some (exo a C none))
  have hn : H1 a = none := I1.hok.fresh ha
  obtain ⟨G, g1', g2'⟩ := restrict h2 fun b => decide (b ≠ a)
  have gk : ∀ b, b ≠ a → G.get? b = h2.get? b := fun b hb => g1' b (decide_eq_true hb)
  have ge : G.get? a = none := g2' a (by simp)
  have nha : ∀ {b : Addr} {o : Obj}, hp.get? b = some o → b ≠ a := fun {b o} z => Nat.ne_of_lt (Nat.lt_of_lt_of_le (Heap.lt_size z) ha)
  have up : ∀ {b : Addr}, b ≠ a → H1 b = none → upd H1 a (exo a C none) b = none := fun {b} hb n => by rw [upd_ne hb]; exact n
  have U : Un (frs X.stack) [] H1 H1 hp G := {
    keep := fun b o z n hf hx => by
      rw [gk b (nha z)]
      exact un.keep b o (k b o z) (up (nha z) n) hf hx
    slot := fun b o z n hf hx => by
      rw [gk b (nha z)]
      exact un.slot b o (k b o z) (up (nha z) n) hf hx
    free := fun b o z n hx => n
    there := fun b o z hx => by
      rw [gk b (nha z)]
      exact un.there b o (k b o z) hx
    tups := fun b xs z => z
    frzs := fun b o v z => z
    tbls := fun b ps z => ⟨#[], by rw [Array.append_empty]; exact z⟩ }
  have ea : upd H1 a (exo a C none) a = some (exo a C none) := upd_same
  have hok3 : HOk X.prog X.w H1 G := fun b o z => by
    have hba : b ≠ a := fun e => by
      rw [e, hn] at z
      cases z
    have noa : ∀ {c : Addr}, upd H1 a (exo a C none) c = some (.own b) → c ≠ a := fun {c} hc => at_ne ea hc exo_own
    exact (hok b o (by rw [upd_ne hba]; exact z)).stay (fun c v hc y => by
        have hca : c ≠ a := by
          rcases hc with hc | hc
          · rw [hc]
            exact hba
          · exact noa hc
        rw [gk c hca]
        exact y)
      (fun c hc => by rw [upd_ne (noa hc)] at hc; exact hc) (fun c xs hc => by rw [upd_ne (at_ne ea hc exo_tup)] at hc; exact hc)
  have J : Inv X pins σ H1 ⟨G, g2, d2, t2, os2⟩ := I1.call' (ch := []) ho U hok3 hb (fun b z => absurd z (by simp))
  refine ⟨a, _, _, ⟨G, g2, d2, t2, os2⟩, _, .ref C, none, rfl, J, fun b o z => ?_, ge, hoe, ⟨rfl, rfl⟩, rfl, rfl, hn, rfl, hb, T, q⟩
  by_cases hba : b = a
  · rw [hba, ge] at z
    cases z
  · exact (gk b hba).symm.trans z
/-- C(), its __init__ keeping sp, which leaves the exception as it is -/
def tMkN (C : Addr) (sp : Sp) : L2.St → Hp → XK → Prop := fun σ H Q => ∀ a, H a = none → sp [.ref a] (upd H a (exo a C none))
  (fun v H2 => v = .non ∧ H2 = upd H a (exo a C none) ∧ Q (.ref C) none H) (fun _ _ _ => False)
section
variable {X : Cx}
theorem pmk_oexN {CX : CXT} {x : Str} {C fI : Addr} {k : Nat} {fd : FuncData} {ps : List Str} {sp : Sp} {p pos : Pos} (T : OexC X.K C) (iC : PySem.W.findIn X.K (.ref C) "__init__" = some (some (.ref fI))) (tI : PySem.W.typeIn X.K (.ref fI) = some (.type "function"))
    (F1 : FnOk X.prog X.w X.K X.mg X.base CX k fI fd ps sp) (hr : Room (k + 1) X.A) (hb : Binds X.K fd ps []) (hx : Passes CX X (fun _ _ _ => False)) (hg : Gl X x) (hm : X.mg x = some (.ref C))
    (hdb : (x == ("__debug__" : Str)) = false := by decide) :
    PMk X (.Call (.Name x p) [] [] pos) (tMkN C sp) := by
  intro pins s σ H Q I h
  obtain ⟨nm, q, N, bs, bm, sn, sub, ab, col, dd, k0, k1, k2, k3, k5, hC, hbm⟩ := T.cls
  refine wpAny_Call_Name_kw (ld_glob I hg hm ?_ hdb)
  refine PySem.W.callWith_K0 I.kIn T.kC ?_
  show wpAny _ _ (call (.ref C) []) _ _ _
  obtain ⟨hp, g, dr, tk, os⟩ := s
  have hsz : hp.objs.size ≤ hp.objs.size + 1 := Nat.le_succ _
  have hn : H (hp.objs.size + 1) = none := I.hok.fresh hsz
  have hq := h (hp.objs.size + 1) hn
  have kk : ∀ b o, hp.get? b = some o → ((hp.push (PySem.W.kdv_tup [])).push (PySem.HandSPX.excO C hp.objs.size)).get? b = some o := fun b o e => Heap.get?_push_of_some _ (Heap.get?_push_of_some _ e)
  have hget : ((hp.push (PySem.W.kdv_tup [])).push (PySem.HandSPX.excO C hp.objs.size)).get? (hp.objs.size + 1) = some (PySem.HandSPX.excO C hp.objs.size) := by heap_get
  have I2 : Inv X pins σ (upd H (hp.objs.size + 1) (exo (hp.objs.size + 1) C none)) ⟨(hp.push (PySem.W.kdv_tup [])).push (PySem.HandSPX.excO C hp.objs.size), g, dr, tk, os⟩ :=
    I.laid (t' := tk) (a := hp.objs.size + 1) (o := exo (hp.objs.size + 1) C none) (h' := (hp.push (PySem.W.kdv_tup [])).push (PySem.HandSPX.excO C hp.objs.size)) kk hsz (exo_ok hget)
  have r2 : Vals [V.ref (hp.objs.size + 1)] [Value.ref (hp.objs.size + 1)] := .cons rfl .nil
  have hl : ([Value.ref (hp.objs.size + 1)] : List Value).length = ps.length := by
    have e := r2.length
    rw [F1.len _ _ _ _ hq] at e
    exact e.symm
  have bd := hb _ [Value.ref (hp.objs.size + 1)] I2.kIn (by rw [List.append_nil]; exact hl)
  rw [List.append_nil] at bd
  refine wpAny_call (PySem.HandSPX.call_own F.excBase_ValueError (fun Y => PySem.HandSPX.refsVE_contains Y bm hbm) (I.kIn _ _ hC) (PySem.W.looks_findIn I.kIn iC) (fun self => PySem.W.bind_fn I.kIn self tI) (Nat.zero_le _)
    (codeAny_mono (F1.run _ X.stack _ _ ⟨[Value.ref (hp.objs.size + 1)], []⟩ [Value.ref (hp.objs.size + 1)] _ _ (fun _ _ _ => False) (hr.make C [] []) (I2.env0.make C [] []) bd r2 hq) fun r s' hq' => ?_))
  cases r with
  | error er => exact hx pins σ _ _ er s' I2 hq'
  | ok fl =>
    cases fl with
    | ret u =>
      obtain ⟨v, H2, os2, bare2, un2, hok2, rv, ev, eH, q2⟩ := hq'
      subst ev
      subst eH
      obtain ⟨h2, g2, d2, t2, os'⟩ := s'
      exact ⟨rv, mk_endN (raises_own T.exC T.tyC) I hsz kk un2 hok2 os2 bare2 q2⟩
    | next => exact False.elim hq'
    | brk => exact False.elim hq'
    | cont => exact False.elim hq'
end
/-! ### methods of own instances called where a try is around -/
section
variable {X : Cx} {CX : CXT} {k : Nat} {C f : Addr} {fd : FuncData} {ps : List Str} {sp : Sp} {E : L2.St → XK} {m : Str} {p apos pos : Pos} {e o : Expr} {es : List Expr} {ta : TE} {t : TA}
def tMethE (C : Addr) (m : Str) (sp : Sp) (E : L2.St → XK) (to : TE) (t : TA) : TE := fun σ H Q => to σ H fun x H1 => ∃ a dx fs, x = .ref a ∧ H1 a = some (.ins C dx fs) ∧ fs.lookup m = none ∧ t σ H1 fun vs H2 => sp (x :: vs) H2 Q (E σ)
theorem pe_methE {pl : Sem Bool} (he : PE X o ta) (c : Cls X.K C) (hm : Meth X.K C m f) (F : FnOk X.prog X.w X.K X.mg X.base CX k f fd ps sp) (hr : Room k X.A) (hb : Binds X.K fd ps []) (hx : ∀ σ, PassesAt CX X σ (E σ)) (ha : PA X (e :: es) t)
    (hst : starEach (e :: es) X.env = (false, eval e X.env) :: starEach es X.env := by rfl) (hpl : (backTo pos (starEach es X.env)).any (·.1) = false := by rfl)
    (ht : eval (.Call (.Attribute o m apos) (e :: es) [] pos) X.env = (do
      let ov ← eval o X.env
      standAt apos.atName
      let (f, first) ← holding [ov] (getMethod ov m pl)
      callWith pos f first (backTo pos (starEach (e :: es) X.env)) (backToKw pos (keywordEach [] X.env))) := by rfl) :
    PE X (.Call (.Attribute o m apos) (e :: es) [] pos) (tMethE C m sp E ta t) := by
  refine ⟨fun pins s σ H Q I h => ?_⟩
  refine PySem.W.methodCall_KW (pl := pl) (thn (he.run pins s σ H _ I h) fun u s1 ⟨x, H1, I1, rx, a, dx, fs, ex, ea, l, q⟩ => ?_) ht
  subst ex
  obtain rfl : u = Value.ref a := rx
  refine getmeth_ok I1 ea c hm l ?_
  refine PySem.W.callWith_K (first := [.ref a]) (h₀ := X.base) I.ok.mod.kin hm.kp (thn (ha.run pos pins s1 σ H1 _ I1 q) fun us s2 ⟨vs, H2, I2, r, q2⟩ => ⟨I2.kIn, ?_⟩) hst hpl
  exact run_fnS (us := .ref a :: us) (vs := .ref a :: vs) F hr hb (hx σ) I2 (.cons rfl r) q2
theorem pe_methE0 {pl : Sem Bool} (he : PE X o ta) (c : Cls X.K C) (hm : Meth X.K C m f) (F : FnOk X.prog X.w X.K X.mg X.base CX k f fd ps sp) (hr : Room k X.A) (hb : Binds X.K fd ps []) (hx : ∀ σ, PassesAt CX X σ (E σ))
    (ht : eval (.Call (.Attribute o m apos) [] [] pos) X.env = (do
      let ov ← eval o X.env
      standAt apos.atName
      let (f, first) ← holding [ov] (getMethod ov m pl)
      callWith pos f first (backTo pos (starEach [] X.env)) (backToKw pos (keywordEach [] X.env))) := by rfl) :
    PE X (.Call (.Attribute o m apos) [] [] pos) (tMethE C m sp E ta tNil) := by
  refine ⟨fun pins s σ H Q I h => ?_⟩
  refine PySem.W.methodCall_KW (pl := pl) (thn (he.run pins s σ H _ I h) fun u s1 ⟨x, H1, I1, rx, a, dx, fs, ex, ea, l, q⟩ => ?_) ht
  subst ex
  obtain rfl : u = Value.ref a := rx
  refine getmeth_ok I1 ea c hm l ?_
  exact PySem.W.callWith_K0 (first := [.ref a]) I1.kIn hm.kp (run_fnS (us := [.ref a]) (vs := [.ref a]) F hr hb (hx σ) I1 (.cons rfl .nil) q)
end

/-! ### the facts of an own error class of the text -/
structure InitAt (K : PySem.W.Frag) (m qual : Str) (st : Stmt) (ps : List Str) where
  f : Addr
  fd : FuncData
  F : Fun K m qual st f fd
  b : Binds K fd ps []
structure ExcAt (K : PySem.W.Frag) (mg : Str → Option Value) (x : Str) (fI : Addr) where
  C : Addr
  g : mg x = some (.ref C)
  o : OexC K C
  i : PySem.W.findIn K (.ref C) "__init__" = some (some (.ref fI))
  t : PySem.W.typeIn K (.ref fI) = some (.type "function")
  te : PySem.W.exmOne K (.ref C) (.ref C) = some true
def initAt_mk {K : PySem.W.Frag} {m qual : Str} {st : Stmt} {ps : List Str} {f : Addr} {od an : Option Addr} {sl : Array (Option Value)} {oc kV dc pm cd ct : Value}
    (l : K.lookup f = some ⟨oc, od, .func (PySem.W.fnOf m qual (defArgs st) (defBody st) (defScope st) .none kV dc pm an cd ct), sl⟩) (c : PySem.W.codeIn K cd qual = true) (k : PySem.W.keepIn K (.ref f) = true)
    (b : ∀ (kV doc pm : Value) (an : Option Addr) (cdv ct : Value) (us : List Value), us.length = ps.length → bindArgs (PySem.W.fnOf m qual (defArgs st) (defBody st) (defScope st) .none kV doc pm an cdv ct) ⟨us, []⟩ = pure (ps.zip us)) : InitAt K m qual st ps :=
  ⟨f, _, fun_mk l c k, (fun_mk (st := st) l c k).binds b⟩
theorem exm_self {K : PySem.W.Frag} {S : Addr} (b : PySem.W.subIn K (.ref S) (.type "BaseException") = some true) (i : PySem.W.isClsIn K S = true) (t : PySem.W.typeIn K (.ref S) = some (.type "type")) (s : PySem.W.subIn K (.ref S) (.ref S) = some true) : PySem.W.exmOne K (.ref S) (.ref S) = some true := by
  unfold PySem.W.isClsIn at i
  unfold PySem.W.exmOne PySem.W.kitCls
  simp [b, i, t, s]
def excAt_mk {K : PySem.W.Frag} {mg : Str → Option Value} {h : Heap} {x : Str} {C fI f1 : Addr} {nm q : Str} {N : Addr} {bs bm : List Value} {sn : List Str} {sub : List Value} {ab : Bool} {col : Option Bool} {dd : Option Addr} {k0 k1 k2 k3 k5 : Option Value} (X : K.In h) (G : h.Ns mainGlobals mg) (a : PySem.W.nsIn K mainGlobals x = some (some (.ref C)))
    (l : K.lookup C = some (excClassObj nm q C N bs bm true sn sub ab col dd k0 k1 k2 k3 k5 "ValueError.__new__")) (hb : PySem.HandSPX.refsVE bm = true)
    (sa : PySem.W.findIn K (.ref C) "__setattr__" = some (some (.builtin "object.__setattr__"))) (exC : PySem.W.subIn K (.ref C) (.type "BaseException") = some true) (tyC : PySem.W.typeIn K (.ref C) = some (.type "type")) (kC : PySem.W.keepIn K (.ref C) = true)
    (i : PySem.W.findIn K (.ref C) "__init__" = some (some (.ref f1))) (t : PySem.W.typeIn K (.ref f1) = some (.type "function")) (hf : f1 = fI) (ic : PySem.W.isClsIn K C = true) (sc : PySem.W.subIn K (.ref C) (.ref C) = some true) : ExcAt K mg x fI :=
  ⟨C, PySem.W.mg_of X G a, ⟨⟨nm, q, N, bs, bm, sn, sub, ab, col, dd, k0, k1, k2, k3, k5, l, hb⟩, sa, exC, tyC, kC⟩, hf ▸ i, hf ▸ t, exm_self exC ic tyC sc⟩
def sp_exc_init (K : PySem.W.Frag) : Sp := fun vs H Q _ => ∃ a C, vs = [.ref a] ∧ OexC K C ∧ H a = some (exo a C none) ∧ Q .non H
theorem e_raise {C : Addr} {K : PySem.W.Frag} {σ : L2.St} {H : Hp} {Q : XK} (o : OexC K C) (q : Q (.ref C) none H) : tMkN C (sp_exc_init K) σ H Q := fun a na => ⟨a, C, rfl, o, upd_same, rfl, rfl, q⟩
theorem noAttr_mk {K : PySem.W.Frag} {C : Addr} {f : Str} (h : PySem.W.findIn K (.ref C) f = some none) : NoAttr K C f := h
end Vw

set_option Elab.async false
set_option linter.all false
set_option maxRecDepth 100000
set_option maxHeartbeats 4000000
namespace Vw
open PySem PySem.Spec PyProof.Rows L2 RT
section
variable {K : PySem.W.Frag} {σ : L2.St} {H : Hp} {Q : VK} {D : Ends} {td ty tx tv : TE} {d : Addr} {kvs : List (Key × V)} {k : Key} {v z : V} {R : Hp → Prop}
def DpQ (x y v : V) (H3 : Hp) (R : Hp → Prop) : Prop := ∃ a H4, x = .ref a ∧ DPut H3 a y v H4 ∧ R H4
theorem s_dput (h : tv σ H fun v H1 => td σ H1 fun x H2 => ty σ H2 fun y H3 => DpQ x y v H3 fun H4 => D.nx σ H4) : sDPut td ty tv D σ H := h
theorem o_dput (h : H d = some (.dK kvs)) (l : kvs.length < 100000) (q : R (upd H d (.dK (putK kvs k v)))) : DpQ (.ref d) (kV k) v H R := ⟨d, _, rfl, DPut.k h (lt_size l), q⟩
def Dg2Q (a : Addr) (y z : V) (H3 : Hp) (Q : VK) : Prop := ∃ o, DGet H3 a y o ∧ Q (o.getD z) H3
theorem e_dget2 (h : td σ H fun x H1 => SdQ x H1 fun a => ty σ H1 fun y H2 => tx σ H2 fun z H3 => Dg2Q a y z H3 Q) : tDGet2 td ty tx σ H Q := h
theorem o_dget2 (h : H d = some (.dK kvs)) (q : Q ((valV kvs k).getD z) H) : Dg2Q d (kV k) z H Q := ⟨_, DGet.k h, q⟩
def Dp1Q (a : Addr) (y : V) (H2 : Hp) (Q : VK) : Prop := ∃ kvs k v, H2 a = some (.dK kvs) ∧ y = kV k ∧ valV kvs k = some v ∧ Q v (upd H2 a (.dK (dropK kvs k)))
theorem e_dpop1 (h : td σ H fun x H1 => SdQ x H1 fun a => ty σ H1 fun y H2 => Dp1Q a y H2 Q) : tDPop1 td ty σ H Q := h
theorem o_dpop1 (h : H d = some (.dK kvs)) (e : valV kvs k = some v) (q : Q v (upd H d (.dK (dropK kvs k)))) : Dp1Q d (kV k) H Q := ⟨kvs, k, v, h, rfl, e, q⟩
theorem o_rep {r : R2} {l : Addr} {n : Nat} {xs : List V} (h : H l = some (.lst xs)) (hn : n ≤ 100000) (hl : xs.length * n ≤ 100000) (q : NewQ (.lst (List.replicate n xs).flatten) H Q) : rOr r rRep (.ref l) (.int n) H Q :=
  .inr ⟨l, n, xs, rfl, rfl, h, by omega, by omega, le_trans_size hl, q⟩
where le_trans_size {m : Nat} (h : m ≤ 100000) : m ≤ sizeLine := Nat.le_trans h (by decide)
theorem p_cons {tk tw : TE} {r : List (TE × TE)} {QP : List (V × V) → Hp → Prop} (h : tk σ H fun x H1 => tw σ H1 fun y H2 => tPairs r σ H2 fun ps H3 => QP ((x, y) :: ps) H3) : tPairs ((tk, tw) :: r) σ H QP := h
theorem p_nil {QP : List (V × V) → Hp → Prop} (h : QP [] H) : tPairs [] σ H QP := h
end
section
variable {K : PySem.W.Frag} {σ : L2.St} {H : Hp} {Q : VK} {to : TE} {C p : Addr} {fs : List (Str × V)} {m : Str} {D : Ends}
def MethEQ (C : Addr) (m : Str) (sp : Sp) (E : L2.St → XK) (t : TA) (σ : L2.St) (x : V) (H1 : Hp) (Q : VK) : Prop := ∃ a dx fs, x = .ref a ∧ H1 a = some (.ins C dx fs) ∧ fs.lookup m = none ∧ t σ H1 fun vs H2 => sp (x :: vs) H2 Q (E σ)
theorem e_methE {sp : Sp} {E : L2.St → XK} {t : TA} (h : to σ H fun x H1 => MethEQ C m sp E t σ x H1 Q) : tMethE C m sp E to t σ H Q := h
theorem m_callE {sp : Sp} {E : L2.St → XK} {t : TA} (h : InsAt C H p fs) (e : fs.lookup m = none) (q : t σ H fun vs H2 => sp (.ref p :: vs) H2 Q (E σ)) : MethEQ C m sp E t σ (.ref p) H Q := h.elim fun dx h => ⟨p, dx, fs, rfl, h, e, q⟩
theorem s_try {tb : WX → TS} {c : Value} {ts : Addr → Value → Option Addr → TS} {Wout : WX} (h : tb (wOnly K c ts Wout D) D σ H) : (fun (D : Ends) (σ : L2.St) (H : Hp) => tb (wOnly K c ts Wout D) D σ H) D σ H := h
theorem w_only {c cls : Value} {d : Option Addr} {ts : Addr → Value → Option Addr → TS} {Wout : WX} (e : PySem.W.exmOne K cls c = some true) (h : ∀ a, H a = none → ts a cls d D σ H) : wOnly K c ts Wout D cls d σ H := ⟨true, e, fun _ => h, fun z => nomatch z⟩
end
end Vw

set_option Elab.async false
set_option linter.all false
set_option maxRecDepth 100000
set_option maxHeartbeats 4000000
namespace Vw
open PySem PySem.Spec PyProof.Rows L2 RT
/-! ### list.extend of a tuple, whatever its dict and slots are -/
theorem list_extend_tup (l : Addr) (items : Array Value) (n : Nat) (b : Addr) (dd : Option Addr) (sl : Array (Option Value)) (items2 : Array Value) (n2 : Nat) (hs0 : ¬(!items.isEmpty && Builtin.List.listTooLong (items.size + items2.size)) = true) (hs1 : items.size ≤ sizeLine) (hs2 : items.size + items2.size ≤ sizeLine + 1) :
    Meets (Builtin.«list.extend» ⟨[.ref l, .ref b], []⟩) (fun _ R s => s.heap.get? l = some { cls := .type "list", dict := none, data := .seq items n, slots := #[] } ∧ s.heap.get? b = some { cls := .type "tuple", dict := dd, data := .seq items2 n2, slots := sl } ∧ R (.ok (.ret Value.none)) { s with heap := s.heap.update l (Obj.mapSeq fun x => x ++ items2), toks := s.toks }) :=
  .of_wp fun prog w A R s h => by
    obtain ⟨hp, g, d, tk, os⟩ := s; obtain ⟨hl, hb, h⟩ := h; have f1 := PySem.AutoSeq1.idx_int; have f2 := PySem.AutoSeq1.sub_tuple_tuple; have f3 := PySem.AutoSeq1.sub_list_list; have f4 := PySem.AutoSeq1.sub_tuple_list; have f5 := PySem.AutoSeq1.sub_list_tuple;
    have hz' : (items ++ items2).size ≤ sizeLine + 1 := by rw [Array.size_append]; exact hs2
    wp_walk using (wpAny_updateSeq hl rfl (hz := hs1) (_hz' := hz')), PySem.AutoSeq1.wpAny_loadPart' hl, PySem.AutoSeq1.wpAny_loadPart' hb; exact ⟨_, rfl, h⟩
def rExtT (K : PySem.W.Frag) : V → List V → Hp → VK → Prop := fun x vs H Q => ∃ l b xs zs, x = .ref l ∧ vs = [.ref b] ∧ H l = some (.lst xs) ∧ SqT K H b zs ∧ xs.length + zs.length ≤ sizeLine ∧ Q .non (upd H l (.lst (xs ++ zs)))
section
variable {X : Cx}
theorem mt_extT : MtM X "list.extend" (rExtT X.K) := by
  intro pins s σ H x vs v us Q I rx rv h
  obtain ⟨l, b, xs, zs, rfl, rfl, hH, hB, hz, q⟩ := h
  cases rx
  obtain ⟨u, rfl, ru⟩ := rv.one
  cases ru
  obtain ⟨z, its, n, r, hl, e⟩ := I.lstM hH
  obtain ⟨its2, r2, ⟨⟨cl, dd, da, sl⟩, e2, ec, n2, ed⟩, hl2⟩ := I.tuple hB
  cases ec
  cases ed
  have hl3 := r2.length
  have hsz : its.toArray.size + its2.toArray.size ≤ sizeLine := by rw [List.size_toArray, List.size_toArray]; omega
  have hlong : ¬ (!its.toArray.isEmpty && Builtin.List.listTooLong (its.toArray.size + its2.toArray.size)) = true := by
    rw [show Builtin.List.listTooLong (its.toArray.size + its2.toArray.size) = false from decide_eq_false (by omega), Bool.and_false]
    exact Bool.false_ne_true
  refine call_meets F.slot_list_extend ⟨_, e, rfl⟩ F.entry_list_extend (F.args_list_extend_2 _ _)
    (list_extend_tup l its.toArray n b dd sl its2.toArray n2 hlong (by rw [List.size_toArray]; omega) (by omega)) ⟨e, e2, ?_⟩
  refine ⟨.non, _, I.lset (its' := its ++ its2) hH e (by simp) (r.append r2) ?_, rfl, q⟩
  rw [List.length_append]
  omega
theorem mtExtT {K : PySem.W.Frag} (e : X.K = K := by rfl) : MtM X "list.extend" (rExtT K) := by cases e; exact mt_extT
/-! ### a test of a if t else b -/
def tIfT (t u v : TT) : TT := fun σ H Q => t σ H fun c H1 => if c = true then u σ H1 Q else v σ H1 Q
theorem pt_ifExp {c a b : Expr} {pos : Pos} {t u v : TT} (hc : PT X c t) (ha : PT X a u) (hb : PT X b v) : PT X (.IfExp c a b pos) (tIfT t u v) := by
  refine ⟨fun pins s σ H Q I h => ?_⟩
  refine isTrue_IfExp (thn (hc.run pins s σ H _ I h) fun d s1 ⟨H1, I1, q1⟩ => ?_)
  cases d with
  | true => exact ha.run pins s1 σ H1 Q I1 q1
  | false => exact hb.run pins s1 σ H1 Q I1 q1
/-! ### isinstance of an own class -/
theorem cIsC {K : PySem.W.Frag} {C : Addr} (c : C8.InsC K C) (e : X.K = K := by rfl) : CallR X (.builtin "isinstance") (fun xs H Q => ∃ a dx fs, xs = [.ref a, .ref C] ∧ H a = some (.ins C dx fs) ∧ Q (.bl true) H) := by
  cases e
  exact C8.call_isC c
end
section
variable {K : PySem.W.Frag} {σ : L2.St} {H : Hp} {Q : VK} {l b : Addr} {xs zs : List V} {C p : Addr} {fs : List (Str × V)} {t u v : TT} {QB : Bool → Hp → Prop} {R : It → Hp → Prop}
theorem r_extT (h : H l = some (.lst xs)) (hb : SqT K H b zs) (hl : xs.length + zs.length < 100000) (q : ∀ H2, Oth l H H2 → H2 l = some (.lst (xs ++ zs)) → Q .non H2) : rExtT K (.ref l) [.ref b] H Q :=
  ⟨l, b, xs, zs, rfl, rfl, h, hb, Nat.le_of_lt (lt_size hl), q _ (fun c o z e => by rw [upd_ne z]; exact e) upd_same⟩
theorem e_ifT (h : t σ H fun c H1 => if c = true then u σ H1 QB else v σ H1 QB) : tIfT t u v σ H QB := h
theorem o_isC (h : InsAt C H p fs) (q : Q (.bl true) H) : ∃ a dx fs, [V.ref p, V.ref C] = [.ref a, .ref C] ∧ H a = some (.ins C dx fs) ∧ Q (.bl true) H := h.elim fun dx h => ⟨p, dx, fs, rfl, h, q⟩
def Rg3Q (R : It → Hp → Prop) (vs : List V) (H1 : Hp) : Prop := ∃ (i j c : Int) (n : Nat), vs = [.int i, .int j, .int c] ∧ RgC i j c n ∧ R (Itc i c n) H1
theorem i_rng3 {ta : TA} (h : ta σ H fun vs H1 => Rg3Q R vs H1) : iRng3 ta σ H R := h
theorem i_rg3 {i j c : Int} {n : Nat} (r : RgC i j c n) (h : R (Itc i c n) H) : Rg3Q R [.int i, .int j, .int c] H := ⟨i, j, c, n, rfl, r, h⟩
end
end Vw

set_option Elab.async false
set_option linter.all false
set_option maxRecDepth 100000
set_option maxHeartbeats 4000000
namespace Vw
open PySem PySem.Spec PyProof.Rows L2 RT
/-! ### slices of tuples, the whole one too -/
theorem slT {X : Cx} {K : PySem.W.Frag} (e : X.K = K := by rfl) : SlR X (rSlA K) := by cases e; exact sl_tupA
theorem cut_nat {xs : List V} {i j : Nat} : cutV xs (some (i : Int)) (some (j : Int)) = (xs.drop i).take (j - i) := by
  unfold cutV
  rw [HT.sIx_nat, HT.sIx_nat]
  by_cases hi : i ≤ xs.length
  · rw [Nat.min_eq_left hi]
    by_cases hj : j ≤ xs.length
    · rw [Nat.min_eq_left hj]
    · rw [Nat.min_eq_right (by omega), List.take_of_length_le (by rw [List.length_drop]; omega), List.take_of_length_le (by rw [List.length_drop]; omega)]
  · rw [List.drop_of_length_le (show xs.length ≤ min i xs.length by omega), List.drop_of_length_le (show xs.length ≤ i by omega), List.take_nil, List.take_nil]
theorem cut_from {xs : List V} {i : Nat} : cutV xs (some (i : Int)) none = xs.drop i := by
  unfold cutV
  rw [HT.sIx_nat, HT.sIx_none, List.take_of_length_le (by rw [List.length_drop]; omega)]
  by_cases hi : i ≤ xs.length
  · rw [Nat.min_eq_left hi]
  · rw [Nat.min_eq_right (by omega), List.drop_of_length_le (by omega), List.drop_of_length_le (by omega)]
theorem cut_to {xs : List V} {j : Nat} : cutV xs none (some (j : Int)) = xs.take j := by
  unfold cutV
  rw [HT.sIx_nat, HT.sIx_none, List.drop_zero, Nat.sub_zero]
  by_cases hj : j ≤ xs.length
  · rw [Nat.min_eq_left hj]
  · rw [Nat.min_eq_right (by omega), List.take_of_length_le (by omega), List.take_of_length_le (by omega)]
section
variable {K : PySem.W.Frag} {H : Hp} {Q : VK} {a : Addr} {xs : List V} {lo hi : Option Int}
theorem r_slT (s : SqT K H a xs) (q : ∀ c H2, Same H H2 → SqT K H2 c (cutV xs lo hi) → Q (.ref c) H2) : rSlA K (.ref a) lo hi H Q := by
  refine ⟨a, xs, rfl, s, fun w => ?_, fun w p n => q p _ (Same.new n) (stO upd_same)⟩
  refine q a H (Same.refl _) ?_
  have e : cutV xs lo hi = xs := by
    unfold cutV
    rw [w.1, w.2, List.drop_zero, Nat.sub_zero, List.take_length]
  rw [e]; exact s
end
/-! ### range(0, n, 36) -/
theorem rsize36 {n : Nat} : Builtin.Range.rangeSize 0 (n : Int) 36 = (((n + 35) / 36 : Nat) : Int) := by
  unfold Builtin.Range.rangeSize
  simp only [show (36 : Int) > 0 by decide, if_true]
  split <;> omega
theorem fitL {i : Int} (h0 : 0 ≤ i) (h1 : i ≤ 1000000) : Builtin.Range.rangeFitsLong i = true := by
  unfold Builtin.Range.rangeFitsLong
  rw [Bool.and_eq_true, decide_eq_true_eq, decide_eq_true_eq]
  constructor <;> omega
theorem rgc36 {n : Nat} (h : n ≤ 100000) : RgC 0 (n : Int) 36 ((n + 35) / 36) := by
  refine ⟨by decide, by decide, ?_, rsize36⟩
  unfold Builtin.Range.small
  rw [rsize36]
  rw [fitL (by omega) (by omega), fitL (i := (n : Int)) (by omega) (by omega), fitL (i := 36) (by omega) (by omega), fitL (i := (((n + 35) / 36 : Nat) : Int)) (by omega) (by omega), if_pos (by decide), fitL (by omega) (by omega), Bool.or_true]
  rfl
def rIsC (C : Addr) : List V → Hp → VK → Prop := fun xs H Q => ∃ a dx fs, xs = [.ref a, .ref C] ∧ H a = some (.ins C dx fs) ∧ Q (.bl true) H
theorem cIsD {X : Cx} {K : PySem.W.Frag} {C : Addr} (c : C8.InsC K C) (e : X.K = K := by rfl) : CallR X (.builtin "isinstance") (rIsC C) := cIsC c e
theorem o_isD {C p : Addr} {H : Hp} {Q : VK} {fs : List (Str × V)} (h : InsAt C H p fs) (q : Q (.bl true) H) : rIsC C [.ref p, .ref C] H Q := h.elim fun dx h => ⟨p, dx, fs, rfl, h, q⟩
theorem peExt {X : Cx} {K : PySem.W.Frag} {o ex : Expr} {to te : TE} {apos cpos : Pos} {r : V → List V → Hp → VK → Prop} (h : PE X (.Call (.Attribute o "extend" apos) [ex] [] cpos) (tBM X.K "list" r to (tCons te tNil))) (e : X.K = K := by rfl) :
    PE X (.Call (.Attribute o "extend" apos) [ex] [] cpos) (tBM K "list" r to (tCons te tNil)) := by cases e; exact h
end Vw

set_option Elab.async false
set_option linter.all false
set_option maxRecDepth 100000
set_option maxHeartbeats 4000000
namespace Vw
open PySem PySem.Spec PyProof.Rows L2 RT
/-! ### a tuple so many times, up to 2000 -/
def rTimesT (K : PySem.W.Frag) : R2 := fun x y H Q => ∃ (a : Addr) (n : Nat) (xs : List V), x = .ref a ∧ y = .int n ∧ SqT K H a xs ∧ xs ≠ [] ∧ 2 ≤ n ∧ n ≤ 2000 ∧ xs.length ≤ 40 ∧ ∀ p, H p = none → Q (.ref p) (upd H p (.tup (List.replicate n xs).flatten))
theorem times_len {α : Type} {xs : List α} {n : Nat} (h : n ≤ 2000) (h2 : xs.length ≤ 40) : (List.replicate n xs).flatten.length ≤ sizeLine := by
  rw [PyProof.Rows.lm_len_rep_flat]
  exact Nat.le_trans (Nat.mul_le_mul h h2) (by decide)
theorem op_timesT {X : Cx} : OpR X (binaryOp .Mult) (rTimesT X.K) := by
  intro pins st σ H x y v u Q I rx ry ⟨a, n, xs, ex, ey, hT, hne, h2, hn, hz, q⟩
  subst ex ey
  cases rx
  obtain ⟨tk, rfl⟩ := ry
  obtain ⟨its, r, ⟨ob, ho, hc, m, hd⟩, hs⟩ := I.tuple hT
  obtain ⟨cls, dd, data, sl⟩ := ob
  have hc : cls = .type "tuple" := hc
  have hd : data = .seq its.toArray m := hd
  subst hc hd
  have ln : its.length = xs.length := r.length.symm
  have pos : 0 < its.length := by rw [ln]; exact List.length_pos_iff.mpr hne
  have em : its.toArray.isEmpty = false := by rw [List.isEmpty_toArray]; cases its with
    | nil => cases pos
    | cons _ _ => rfl
  have sz : its.toArray.size = xs.length := by rw [List.size_toArray, ln]
  have pm : ((its.toArray.size : Nat) : Int) * (n : Int) ≤ 80000 := by
    rw [sz, ← Int.natCast_mul]
    have := Nat.mul_le_mul hz hn
    omega
  have nn : ((n : Nat) : Int).toNat = n := Int.toNat_natCast n
  have tm : Builtin.Tuple.tupleTooMany (((its.toArray.size : Nat) : Int) * (n : Int)) = false := by
    have e : (80000 : Int) < (sizeLine : Nat) := by decide
    unfold Builtin.Tuple.tupleTooMany; exact decide_eq_false (by omega)
  have b0 : (decide ((n : Int) < -(2 ^ 63)) || decide ((n : Int) ≥ 2 ^ 63)) = false := by
    rw [Bool.or_eq_false_iff]; exact ⟨decide_eq_false (by omega), decide_eq_false (by omega)⟩
  have b1 : (its.toArray.isEmpty || (n : Int) == 1) = false := by
    rw [em, Bool.false_or, beq_eq_false_iff_ne]; omega
  have b2 : (decide ((n : Int) ≤ 0) || its.toArray.isEmpty) = false := by
    rw [em, Bool.or_false]; exact decide_eq_false (by omega)
  have fl := size_rep its n
  have road := tuple_mulW a its.toArray m dd sl (n : Int) tk b0 b1 b2 (by omega) tm (by rw [nn, fl, List.size_toArray]; exact times_len hn (by omega))
  have fin : EP X pins σ Q (.ref st.heap.objs.size) { st with heap := st.heap.push { cls := Value.type "tuple", data := Data.seq (List.replicate n its).flatten.toArray }, toks := st.toks } :=
    ⟨.ref st.heap.objs.size, _, I.laid (t' := st.toks) (o := .tup (List.replicate n xs).flatten) (fun _ _ g => Heap.get?_push_of_some _ g) (Nat.le_refl _) ⟨times_len hn hz, _, r.rep n, IsTup.new _ _⟩, rfl, q _ (I.hok.fresh (Nat.le_refl _))⟩
  exact wpAny_binaryOp_repeat_ref (T := "tuple") (U := "int") (by decide) ⟨_, ho, rfl⟩ (fun s' => typeIs_int s' (n : Int) tk) noFill_tuple_mul F.fills_int_mul F.slot_int_rmul repeat_tuple F.slot_int_index.lookup
    (call_meets F.slot_int_rmul (typeIs_int st (n : Int) tk) F.entry_int_rmul (F.args_int_rmul_2 _ _) (int_rmul_tuple (n : Int) tk a its.toArray m dd sl) ⟨ho, rfl, ⟨_, ho, rfl⟩,
      call_meets F.slot_tuple_mul ⟨_, ho, rfl⟩ F.entry_tuple_mul (F.args_tuple_mul_2 _ _) road ⟨ho, by rw [nn, fl]; exact fin⟩⟩)
theorem oTimesT {K : PySem.W.Frag} {X : Cx} (e : X.K = K := by rfl) : OpR X (binaryOp .Mult) (rTimesT K) := by cases e; exact op_timesT
section
variable {K : PySem.W.Frag} {H : Hp} {Q : VK}
theorem o_times {a : Addr} {n : Nat} {xs : List V} {i : Int} (h : SqT K H a xs) (ne : xs ≠ []) (e : i = (n : Nat)) (h2 : 2 ≤ n) (hn : n ≤ 2000) (hz : xs.length ≤ 40) (q : ∀ p H2, H p = none → Same H H2 → H2 p = some (.tup (List.replicate n xs).flatten) → Q (.ref p) H2) : rTimesT K (.ref a) (.int i) H Q :=
  ⟨a, n, xs, rfl, by rw [e], h, ne, h2, hn, hz, fun p np => q p _ np (Same.new np) upd_same⟩
end
end Vw

set_option Elab.async false
set_option linter.all false
set_option maxRecDepth 100000
set_option maxHeartbeats 4000000
namespace Vw
open PySem PySem.Spec PyProof.Rows L2 RT
/-! ### a tuple no times -/
theorem mul0_road (a : Addr) (its : Array Value) (m : Nat) (od : Option Addr) (sl : Array (Option Value)) (k : Tok) (e1 : (its.isEmpty || (0 : Int) == 1) = false) :
    Meets (Builtin.«tuple.__mul__» ⟨[.ref a, .int 0 k], []⟩) (fun _ R s => s.heap.get? a = some { cls := .type "tuple", dict := od, data := .seq its m, slots := sl } ∧
      R (.ok (.ret (Value.ref s.heap.objs.size))) { s with heap := s.heap.push { cls := Value.type "tuple", data := Data.seq #[] } }) :=
  .of_wp fun prog w A R s h => by
    obtain ⟨hp, gl, dd, tk, os⟩ := s
    obtain ⟨hl, h⟩ := h
    have f1 := AutoSeq1.idx_int
    wp_walk using wpAny_loadPart' hl
    repeat (first
      | (refine wpAny_ite_false (by decide) ?_; wp_walk using wpAny_loadPart' hl)
      | (refine wpAny_ite_false (decide_eq_false (by rw [e1]; decide)) ?_; wp_walk using wpAny_loadPart' hl)
      | (refine wpAny_ite_true (by decide) ?_; wp_walk using wpAny_loadPart' hl)
      | (refine wpAny_ite_true (by simp) ?_; wp_walk using wpAny_loadPart' hl))
    exact ⟨_, rfl, h⟩
def rNoTimes (K : PySem.W.Frag) : R2 := fun x y H Q => ∃ (a : Addr) (xs : List V), x = .ref a ∧ y = .int 0 ∧ SqT K H a xs ∧ xs ≠ [] ∧ ∀ p, H p = none → Q (.ref p) (upd H p (.tup []))
theorem op_noTimes {X : Cx} : OpR X (binaryOp .Mult) (rNoTimes X.K) := by
  intro pins st σ H x y v u Q I rx ry ⟨a, xs, ex, ey, hT, hne, q⟩
  subst ex ey
  cases rx
  obtain ⟨tk, rfl⟩ := ry
  obtain ⟨its, r, ⟨ob, ho, hc, m, hd⟩, hs⟩ := I.tuple hT
  obtain ⟨cls, dd, data, sl⟩ := ob
  have hc : cls = .type "tuple" := hc
  have hd : data = .seq its.toArray m := hd
  subst hc hd
  have ln : its.length = xs.length := r.length.symm
  have pos : 0 < its.length := by rw [ln]; exact List.length_pos_iff.mpr hne
  have em : its.toArray.isEmpty = false := by rw [List.isEmpty_toArray]; cases its with
    | nil => cases pos
    | cons _ _ => rfl
  have fin : EP X pins σ Q (.ref st.heap.objs.size) { st with heap := st.heap.push { cls := Value.type "tuple", data := Data.seq #[] } } :=
    ⟨.ref st.heap.objs.size, _, I.laid (t' := st.toks) (o := .tup []) (fun _ _ g => Heap.get?_push_of_some _ g) (Nat.le_refl _) ⟨Nat.zero_le _, [], .nil, IsTup.new _ _⟩, rfl, q _ (I.hok.fresh (Nat.le_refl _))⟩
  exact wpAny_binaryOp_repeat_ref (T := "tuple") (U := "int") (by decide) ⟨_, ho, rfl⟩ (fun s' => typeIs_int s' 0 tk) noFill_tuple_mul F.fills_int_mul F.slot_int_rmul repeat_tuple F.slot_int_index.lookup
    (call_meets F.slot_int_rmul (typeIs_int st 0 tk) F.entry_int_rmul (F.args_int_rmul_2 _ _) (int_rmul_tuple 0 tk a its.toArray m dd sl) ⟨ho, rfl, ⟨_, ho, rfl⟩,
      call_meets F.slot_tuple_mul ⟨_, ho, rfl⟩ F.entry_tuple_mul (F.args_tuple_mul_2 _ _) (mul0_road a its.toArray m dd sl tk (by rw [em]; rfl)) ⟨ho, fin⟩⟩)
theorem oMulA {K : PySem.W.Frag} {X : Cx} (e : X.K = K := by rfl) : OpR X (binaryOp .Mult) (rOr rIMul (rOr (rTimesT K) (rNoTimes K))) := by cases e; exact oOr op_mul (oOr op_timesT op_noTimes)
section
variable {K : PySem.W.Frag} {H : Hp} {Q : VK}
/-- so many times, none too -/
theorem o_timesA {r : R2} {a : Addr} {n : Nat} {xs : List V} {i : Int} (h : SqT K H a xs) (ne : xs ≠ []) (e : i = (n : Nat)) (h2 : n = 0 ∨ 2 ≤ n) (hn : n ≤ 2000) (hz : xs.length ≤ 40) (q : ∀ p H2, H p = none → Same H H2 → H2 p = some (.tup (List.replicate n xs).flatten) → Q (.ref p) H2) : rOr r (rOr (rTimesT K) (rNoTimes K)) (.ref a) (.int i) H Q := by
  rcases h2 with rfl | h2
  · exact .inr (.inr ⟨a, xs, rfl, by rw [e]; rfl, h, ne, fun p np => q p _ np (Same.new np) upd_same⟩)
  · exact .inr (.inl (o_times h ne e h2 hn hz q))
end
end Vw

set_option Elab.async false
set_option linter.all false
set_option maxRecDepth 100000
set_option maxHeartbeats 4000000
namespace Vw
open PySem PySem.Spec PyProof.Rows L2 RT
local macro_rules | `(tactic| walk_at "s") => `(tactic| with_reducible first
  | refine' s_seq ?_ | refine' s_next ?_ | refine' s_set ?_ | refine' s_ret ?_ | refine' s_retN ?_ | refine' s_drop ?_ | refine' s_if ?_ | refine' s_ipI ?_
  | refine' e_c ?_ | refine' e_op ?_ | refine' e_un ?_ | refine' e_neg ?_ | refine' e_test ?_ | refine' e_tB ?_ | refine' e_bl ?_ | refine' e_and ?_ | refine' e_or ?_ | refine' e_not ?_
  | refine' e_andV ?_ | refine' e_orV ?_ | refine' e_notV ?_ | refine' e_kV ?_ | refine' e_ife ?_ | refine' e_nil ?_ | refine' e_cons ?_ | refine' e_cb ?_ | refine' e_call ?_ | refine' e_chain ?_
  | refine' o_addI ?_ | refine' o_eqI ?_ | refine' o_neI ?_ | refine' o_I0 ?_ | refine' o_pow16 ?_ | refine' o_pow17 ?_ | refine' o_pow18 ?_ | refine' o_pow19 ?_ | refine' o_pow30 ?_ | refine' o_pow31 ?_ | refine' o_pow1 ?_ | refine' o_pow2 ?_ | refine' o_pow3 ?_ | refine' o_pow4 ?_ | refine' o_pow5 ?_ | refine' o_pow6 ?_ | refine' o_pow9 ?_ | refine' o_pow10 ?_ | refine' o_pow12 ?_ | refine' o_pow15 ?_ | refine' o_pow20 ?_ | refine' e_lst ?_ | refine' e_tup ?_ | refine' iteT ?_ | refine' i_nt ?_ | refine' i_nf ?_ | refine' iteF ?_ | refine' c_int ?_ | refine' c_abs ?_ | refine' c_min2 ?_ | refine' c_max2 ?_ | refine' e_tru ?_ | refine' t_bl ?_ | refine' t_non ?_ | refine' t_int ?_ | refine' isN_non ?_ | refine' isN_int ?_ | refine' isN_ref ?_ | refine' isN_str ?_ | refine' isN_bl ?_ | refine' noN_non ?_ | refine' noN_int ?_ | refine' noN_ref ?_ | refine' noN_str ?_ | refine' noN_bl ?_
  | refine' s_brk ?_ | refine' s_cont ?_ | refine' s_for ?_ | refine' e_lc ?_ | refine' e_dc ?_ | refine' e_yes ?_ | refine' i_rng1 ?_ | refine' i_lst0 ?_ | refine' i_tup0 ?_ | refine' e_bm ?_ | refine' e_sl ?_ | refine' e_np ?_ | refine' e_pt ?_ | refine' e_ptI ?_ | refine' e_din ?_ | refine' e_dnin ?_ | refine' e_methE ?_ | refine' p_cons ?_ | refine' p_nil ?_ | refine' s_dput ?_ | refine' e_dget2 ?_ | refine' e_dpop1 ?_ | refine' i_enum0 ?_ | refine' i_rev0 ?_ | refine' g_sub ?_ | refine' s_asg ?_ | refine' i_zip0 ?_ | refine' e_revT ?_ | refine' isB_bl ?_ | refine' notB_bl ?_ | refine' o_neB ?_ | refine' i_nrr ?_ | refine' e_meth ?_ | refine' s_setf ?_ | refine' e_fld ?_ | refine' e_bm0 ?_ | refine' r_tx ?_ | refine' o_eqStr ?_ | refine' o_neStr ?_)
local macro_rules | `(tactic| walk_at "v") => `(tactic| ((with_reducible refine' e_var ?hv ?_); (case hv => exact rfl)))
local macro_rules | `(tactic| walk_at "a") => `(tactic| ((with_reducible refine' s_aug ?hv ?_); (case hv => exact rfl)))
local macro_rules | `(tactic| walk_at "m") => `(tactic| first
  | ((with_reducible refine' o_mod ?hv ?_); (case hv => first | decide | omega))
  | ((with_reducible refine' o_mulR ?hv ?_); (case hv => omega))
  | ((with_reducible refine' o_mulL ?hv ?_); (case hv => omega))
  | ((with_reducible refine' o_div ?hv ?hw ?_); (case hv => omega); (case hw => omega))
  | ((with_reducible refine' o_pow _ ?hv ?hw ?hx ?_); (case hv => exact rfl); (case hw => decide); (case hx => decide)))
local macro_rules | `(tactic| walk_at "i") => `(tactic| (first
  | ((with_reducible refine' isi_int true ?hv ?_); (case hv => exact (by decide +kernel)))
  | ((with_reducible refine' isi_int false ?hv ?_); (case hv => exact (by decide +kernel)))
  | ((with_reducible refine' isi_non true ?hv ?_); (case hv => exact (by decide +kernel)))
  | ((with_reducible refine' isi_non false ?hv ?_); (case hv => exact (by decide +kernel)))
  | ((with_reducible refine' isi_str true ?hv ?_); (case hv => exact (by decide +kernel)))
  | ((with_reducible refine' isi_str false ?hv ?_); (case hv => exact (by decide +kernel)))
  | ((with_reducible refine' isi_bl true ?hv ?_); (case hv => exact (by decide +kernel)))
  | ((with_reducible refine' isi_bl false ?hv ?_); (case hv => exact (by decide +kernel)))
  | ((with_reducible refine' isi_t true ?hw ?hv ?_); (case hw => assumption); (case hv => exact (by decide +kernel)))
  | ((with_reducible refine' isi_t false ?hw ?hv ?_); (case hw => assumption); (case hv => exact (by decide +kernel)))
  | ((with_reducible refine' isi_l true ?hw ?hv ?_); (case hw => assumption); (case hv => exact (by decide +kernel)))
  | ((with_reducible refine' isi_l false ?hw ?hv ?_); (case hw => assumption); (case hv => exact (by decide +kernel)))
  | ((with_reducible refine' isi_tup true ?hw ?hv ?_); (case hw => assumption); (case hv => exact (by decide +kernel)))
  | ((with_reducible refine' isi_tup false ?hw ?hv ?_); (case hw => assumption); (case hv => exact (by decide +kernel)))
  | ((with_reducible refine' isi_lst true ?hw ?hv ?_); (case hw => assumption); (case hv => exact (by decide +kernel)))
  | ((with_reducible refine' isi_lst false ?hw ?hv ?_); (case hw => assumption); (case hv => exact (by decide +kernel)))))
local macro_rules | `(tactic| walk_at "om") => `(tactic| first | omega | (simp only [List.length_cons, List.length_nil, List.length_map, List.length_append, List.length_range]; omega))
local macro_rules | `(tactic| walk_at "d") => `(tactic| (first
  | ((with_reducible refine' i_dt ?hv ?_); (case hv => walk_at "om"))
  | ((with_reducible refine' i_df ?hv ?_); (case hv => walk_at "om"))
  | ((with_reducible refine' i_ndt ?hv ?_); (case hv => walk_at "om"))
  | ((with_reducible refine' i_ndf ?hv ?_); (case hv => walk_at "om"))))
local macro_rules | `(tactic| walk_at "x") => `(tactic| first
  | ((with_reducible refine' o_ixA ?hv ?hw ?_); (case hv => assumption); (case hw => exact rfl))
  | ((with_reducible refine' o_ixU ?hv ?hw ?_); (case hv => assumption); (case hw => exact rfl))
  | ((with_reducible refine' o_ixL ?hv ?hw ?_); (case hv => assumption); (case hw => exact rfl))
  | ((with_reducible refine' o_ixT ?hv ?hw ?_); (case hv => assumption); (case hw => exact rfl))
  | ((with_reducible refine' set_ ?hv ?hw ?_); (case hv => assumption); (case hw => exact rfl))
  | ((with_reducible refine' e_lenM ?hv ?_); (case hv => first | assumption | exact slO (by assumption)))
  | ((with_reducible refine' e_lenN ?hv ?_); (case hv => first | assumption | exact stO (by assumption)))
  | ((with_reducible refine' e_lenL ?hv ?_); (case hv => first | assumption | exact slO (by assumption)))
  | ((with_reducible refine' e_lenT ?hv ?_); (case hv => first | assumption | exact stO (by assumption))))
local macro_rules | `(tactic| walk_at "c") => `(tactic| first
  | ((with_reducible refine' c_listL ?hv ?_); (case hv => assumption))
  | ((with_reducible refine' c_listT ?hv ?_); (case hv => assumption))
  | ((with_reducible refine' c_tupL ?hv ?_); (case hv => first | assumption | exact slO (by assumption)))
  | ((with_reducible refine' c_tupT ?hv ?_); (case hv => assumption))
  | ((with_reducible refine' t_lst ?hv ?_); (case hv => first | assumption | exact slO (by assumption)))
  | ((with_reducible refine' t_tup ?hv ?_); (case hv => assumption))
  | ((with_reducible refine' r_sl ?hv ?_); (case hv => first | assumption | exact slO (by assumption)))
  | ((with_reducible refine' o_inL ?hv ?_); (case hv => first | assumption | exact slO (by assumption)))
  | ((with_reducible refine' o_inT ?hv ?_); (case hv => first | assumption | exact stO (by assumption)))
  | ((with_reducible refine' o_niL ?hv ?_); (case hv => first | assumption | exact slO (by assumption)))
  | ((with_reducible refine' o_niT ?hv ?_); (case hv => first | assumption | exact stO (by assumption)))
  | ((with_reducible refine' ty_lst ?hv ?_); (case hv => assumption)))
local macro_rules | `(tactic| walk_at "mo") => `(tactic| repeat' (first | exact m_yes | exact m_var | exact m_c | exact m_I0 | exact m_I | exact m_ix | exact m_add | exact m_in | exact m_int1 | exact m_abs | exact m_nil | refine' m_and ?_ ?_ | refine' m_test ?_ | refine' m_tB ?_ | refine' m_op ?_ ?_ ?_ | refine' m_cons ?_ ?_ | refine' m_cb ?_ ?_))
local macro_rules | `(tactic| walk_at "go") => `(tactic| repeat' (first | walk_at "s" | walk_at "v" | walk_at "a" | walk_at "x" | walk_at "m" | walk_at "c" | walk_at "i" | walk_at "d"))

def topS (i : Nat) : Stmt := PySem.Challenge.pw_wholeways_k09_whole_leftovers_never_come.main.body.getD i (.Pass ⟨0, 0, 0, 0⟩)
abbrev s_wall : Stmt := (topS 0)
abbrev n_wall : List Str := ["k"]
theorem sc_wall : FnScope n_wall ["k"] (defScope s_wall) := ⟨rfl, rfl, rfl, by decide +kernel, rfl, by decide +kernel, by decide +kernel⟩
abbrev s_StoreError_init : Stmt := (inClass (topS 2) 0)
abbrev n_StoreError_init : List Str := ["self"]
theorem sc_StoreError_init : FnScope n_StoreError_init ["self"] (defScope s_StoreError_init) := ⟨rfl, rfl, rfl, by decide +kernel, rfl, by decide +kernel, by decide +kernel⟩
abbrev s_is_integer : Stmt := (topS 14)
abbrev n_is_integer : List Str := ["thing"]
theorem sc_is_integer : FnScope n_is_integer ["thing"] (defScope s_is_integer) := ⟨rfl, rfl, rfl, by decide +kernel, rfl, by decide +kernel, by decide +kernel⟩
abbrev s_is_within : Stmt := (topS 15)
abbrev n_is_within : List Str := ["thing", "low", "high"]
theorem sc_is_within : FnScope n_is_within ["thing", "low", "high"] (defScope s_is_within) := ⟨rfl, rfl, rfl, by decide +kernel, rfl, by decide +kernel, by decide +kernel⟩
abbrev s_is_number : Stmt := (topS 16)
abbrev n_is_number : List Str := ["thing"]
theorem sc_is_number : FnScope n_is_number ["thing"] (defScope s_is_number) := ⟨rfl, rfl, rfl, by decide +kernel, rfl, by decide +kernel, by decide +kernel⟩
abbrev s_is_word : Stmt := (topS 17)
abbrev n_is_word : List Str := ["thing"]
theorem sc_is_word : FnScope n_is_word ["thing"] (defScope s_is_word) := ⟨rfl, rfl, rfl, by decide +kernel, rfl, by decide +kernel, by decide +kernel⟩
abbrev s_is_item : Stmt := (topS 18)
abbrev n_is_item : List Str := ["thing"]
theorem sc_is_item : FnScope n_is_item ["thing"] (defScope s_is_item) := ⟨rfl, rfl, rfl, by decide +kernel, rfl, by decide +kernel, by decide +kernel⟩
abbrev s_is_ascending : Stmt := (topS 19)
abbrev n_is_ascending : List Str := ["row", "k"]
theorem sc_is_ascending : FnScope n_is_ascending ["row"] (defScope s_is_ascending) := ⟨rfl, rfl, rfl, by decide +kernel, rfl, by decide +kernel, by decide +kernel⟩
abbrev s_is_lot : Stmt := (topS 20)
abbrev n_is_lot : List Str := ["thing", "item"]
theorem sc_is_lot : FnScope n_is_lot ["thing"] (defScope s_is_lot) := ⟨rfl, rfl, rfl, by decide +kernel, rfl, by decide +kernel, by decide +kernel⟩
abbrev s_is_items : Stmt := (topS 21)
abbrev n_is_items : List Str := ["thing", "least", "most", "item"]
theorem sc_is_items : FnScope n_is_items ["thing", "least", "most"] (defScope s_is_items) := ⟨rfl, rfl, rfl, by decide +kernel, rfl, by decide +kernel, by decide +kernel⟩
abbrev s_Disk_init : Stmt := (inClass (topS 27) 0)
abbrev n_Disk_init : List Str := ["self", "blocks", "_"]
theorem sc_Disk_init : FnScope n_Disk_init ["self", "blocks"] (defScope s_Disk_init) := ⟨rfl, rfl, rfl, by decide +kernel, rfl, by decide +kernel, by decide +kernel⟩
abbrev s_Disk_blocks : Stmt := (inClass (topS 27) 1)
abbrev n_Disk_blocks : List Str := ["self"]
theorem sc_Disk_blocks : FnScope n_Disk_blocks ["self"] (defScope s_Disk_blocks) := ⟨rfl, rfl, rfl, by decide +kernel, rfl, by decide +kernel, by decide +kernel⟩
abbrev s_Disk_write : Stmt := (inClass (topS 27) 2)
abbrev n_Disk_write : List Str := ["self", "block", "content"]
theorem sc_Disk_write : FnScope n_Disk_write ["self", "block", "content"] (defScope s_Disk_write) := ⟨rfl, rfl, rfl, by decide +kernel, rfl, by decide +kernel, by decide +kernel⟩
abbrev s_Disk_read : Stmt := (inClass (topS 27) 3)
abbrev n_Disk_read : List Str := ["self", "block"]
theorem sc_Disk_read : FnScope n_Disk_read ["self", "block"] (defScope s_Disk_read) := ⟨rfl, rfl, rfl, by decide +kernel, rfl, by decide +kernel, by decide +kernel⟩
abbrev s_Disk_reach : Stmt := (inClass (topS 27) 4)
abbrev n_Disk_reach : List Str := ["self", "block"]
theorem sc_Disk_reach : FnScope n_Disk_reach ["self", "block"] (defScope s_Disk_reach) := ⟨rfl, rfl, rfl, by decide +kernel, rfl, by decide +kernel, by decide +kernel⟩
abbrev s_Disk_force : Stmt := (inClass (topS 27) 5)
abbrev n_Disk_force : List Str := ["self", "lot", "block"]
theorem sc_Disk_force : FnScope n_Disk_force ["self", "lot"] (defScope s_Disk_force) := ⟨rfl, rfl, rfl, by decide +kernel, rfl, by decide +kernel, by decide +kernel⟩
abbrev s_Disk_calm : Stmt := (inClass (topS 27) 6)
abbrev n_Disk_calm : List Str := ["self"]
theorem sc_Disk_calm : FnScope n_Disk_calm ["self"] (defScope s_Disk_calm) := ⟨rfl, rfl, rfl, by decide +kernel, rfl, by decide +kernel, by decide +kernel⟩
abbrev s_Disk_power : Stmt := (inClass (topS 27) 7)
abbrev n_Disk_power : List Str := ["self", "many"]
theorem sc_Disk_power : FnScope n_Disk_power ["self", "many"] (defScope s_Disk_power) := ⟨rfl, rfl, rfl, by decide +kernel, rfl, by decide +kernel, by decide +kernel⟩
abbrev s_Disk_cut : Stmt := (inClass (topS 27) 8)
abbrev n_Disk_cut : List Str := ["self"]
theorem sc_Disk_cut : FnScope n_Disk_cut ["self"] (defScope s_Disk_cut) := ⟨rfl, rfl, rfl, by decide +kernel, rfl, by decide +kernel, by decide +kernel⟩
abbrev s_Disk_waiting : Stmt := (inClass (topS 27) 9)
abbrev n_Disk_waiting : List Str := ["self", "block"]
theorem sc_Disk_waiting : FnScope n_Disk_waiting ["self"] (defScope s_Disk_waiting) := ⟨rfl, rfl, rfl, by decide +kernel, rfl, by decide +kernel, by decide +kernel⟩
abbrev s_Disk_lying : Stmt := (inClass (topS 27) 10)
abbrev n_Disk_lying : List Str := ["self", "block"]
theorem sc_Disk_lying : FnScope n_Disk_lying ["self", "block"] (defScope s_Disk_lying) := ⟨rfl, rfl, rfl, by decide +kernel, rfl, by decide +kernel, by decide +kernel⟩
abbrev s_Disk_reached : Stmt := (inClass (topS 27) 11)
abbrev n_Disk_reached : List Str := ["self"]
theorem sc_Disk_reached : FnScope n_Disk_reached ["self"] (defScope s_Disk_reached) := ⟨rfl, rfl, rfl, by decide +kernel, rfl, by decide +kernel, by decide +kernel⟩
abbrev s_Disk_copy : Stmt := (inClass (topS 27) 12)
abbrev n_Disk_copy : List Str := ["self"]
theorem sc_Disk_copy : FnScope n_Disk_copy ["self"] (defScope s_Disk_copy) := ⟨rfl, rfl, rfl, by decide +kernel, rfl, by decide +kernel, by decide +kernel⟩
abbrev s_Disk__need_block : Stmt := (inClass (topS 27) 13)
abbrev n_Disk__need_block : List Str := ["self", "block"]
theorem sc_Disk__need_block : FnScope n_Disk__need_block ["self", "block"] (defScope s_Disk__need_block) := ⟨rfl, rfl, rfl, by decide +kernel, rfl, by decide +kernel, by decide +kernel⟩
abbrev s_Disk__reach_one : Stmt := (inClass (topS 27) 14)
abbrev n_Disk__reach_one : List Str := ["self", "block", "row"]
theorem sc_Disk__reach_one : FnScope n_Disk__reach_one ["self", "block"] (defScope s_Disk__reach_one) := ⟨rfl, rfl, rfl, by decide +kernel, rfl, by decide +kernel, by decide +kernel⟩
abbrev s_formatted : Stmt := (topS 35)
abbrev n_formatted : List Str := ["blocks", "ring", "disk"]
theorem sc_formatted : FnScope n_formatted ["blocks", "ring"] (defScope s_formatted) := ⟨rfl, rfl, rfl, by decide +kernel, rfl, by decide +kernel, by decide +kernel⟩
abbrev s_is_ring_size : Stmt := (topS 36)
abbrev n_is_ring_size : List Str := ["ring", "blocks"]
theorem sc_is_ring_size : FnScope n_is_ring_size ["ring", "blocks"] (defScope s_is_ring_size) := ⟨rfl, rfl, rfl, by decide +kernel, rfl, by decide +kernel, by decide +kernel⟩
abbrev s_is_master : Stmt := (topS 37)
abbrev n_is_master : List Str := ["content", "blocks", "item"]
theorem sc_is_master : FnScope n_is_master ["content", "blocks"] (defScope s_is_master) := ⟨rfl, rfl, rfl, by decide +kernel, rfl, by decide +kernel, by decide +kernel⟩
abbrev s_pieces_of : Stmt := (topS 38)
abbrev n_pieces_of : List Str := ["record", "k"]
theorem sc_pieces_of : FnScope n_pieces_of ["record"] (defScope s_pieces_of) := ⟨rfl, rfl, rfl, by decide +kernel, rfl, by decide +kernel, by decide +kernel⟩
abbrev s_master_of : Stmt := (topS 39)
abbrev n_master_of : List Str := ["disk"]
theorem sc_master_of : FnScope n_master_of ["disk"] (defScope s_master_of) := ⟨rfl, rfl, rfl, by decide +kernel, rfl, by decide +kernel, by decide +kernel⟩
abbrev s_counted : Stmt := (topS 40)
abbrev n_counted : List Str := ["disk", "latest", "master", "found", "k", "content"]
theorem sc_counted : FnScope n_counted ["disk", "latest"] (defScope s_counted) := ⟨rfl, rfl, rfl, by decide +kernel, rfl, by decide +kernel, by decide +kernel⟩
abbrev s_is_piece : Stmt := (topS 41)
abbrev n_is_piece : List Str := ["content", "k", "item"]
theorem sc_is_piece : FnScope n_is_piece ["content", "k"] (defScope s_is_piece) := ⟨rfl, rfl, rfl, by decide +kernel, rfl, by decide +kernel, by decide +kernel⟩
abbrev s_begins : Stmt := (topS 42)
abbrev n_begins : List Str := ["master", "content"]
theorem sc_begins : FnScope n_begins ["master", "content"] (defScope s_begins) := ⟨rfl, rfl, rfl, by decide +kernel, rfl, by decide +kernel, by decide +kernel⟩
abbrev s_goes_on : Stmt := (topS 43)
abbrev n_goes_on : List Str := ["ahead", "content", "_", "epoch", "record", "left"]
theorem sc_goes_on : FnScope n_goes_on ["ahead", "content"] (defScope s_goes_on) := ⟨rfl, rfl, rfl, by decide +kernel, rfl, by decide +kernel, by decide +kernel⟩
abbrev s_read_prefix : Stmt := (topS 44)
abbrev n_read_prefix : List Str := ["disk", "latest", "found", "items", "content"]
theorem sc_read_prefix : FnScope n_read_prefix ["disk", "latest"] (defScope s_read_prefix) := ⟨rfl, rfl, rfl, by decide +kernel, rfl, by decide +kernel, by decide +kernel⟩
abbrev s_Log_init : Stmt := (inClass (topS 45) 0)
abbrev n_Log_init : List Str := ["self", "disk", "_", "epoch", "ring", "k", "number", "first", "record", "written"]
theorem sc_Log_init : FnScope n_Log_init ["self", "disk"] (defScope s_Log_init) := ⟨rfl, rfl, rfl, by decide +kernel, rfl, by decide +kernel, by decide +kernel⟩
abbrev s_Log__keep : Stmt := (inClass (topS 45) 1)
abbrev n_Log__keep : List Str := ["self", "record", "epoch"]
theorem sc_Log__keep : FnScope n_Log__keep ["self", "record", "epoch"] (defScope s_Log__keep) := ⟨rfl, rfl, rfl, by decide +kernel, rfl, by decide +kernel, by decide +kernel⟩
abbrev s_Log_append : Stmt := (inClass (topS 45) 2)
abbrev n_Log_append : List Str := ["self", "thing", "pieces", "number", "place", "piece", "k"]
theorem sc_Log_append : FnScope n_Log_append ["self", "thing"] (defScope s_Log_append) := ⟨rfl, rfl, rfl, by decide +kernel, rfl, by decide +kernel, by decide +kernel⟩
abbrev s_Log__block : Stmt := (inClass (topS 45) 3)
abbrev n_Log__block : List Str := ["self", "k"]
theorem sc_Log__block : FnScope n_Log__block ["self", "k"] (defScope s_Log__block) := ⟨rfl, rfl, rfl, by decide +kernel, rfl, by decide +kernel, by decide +kernel⟩
abbrev s_Log_force : Stmt := (inClass (topS 45) 4)
abbrev n_Log_force : List Str := ["self", "number", "first", "k"]
theorem sc_Log_force : FnScope n_Log_force ["self", "number"] (defScope s_Log_force) := ⟨rfl, rfl, rfl, by decide +kernel, rfl, by decide +kernel, by decide +kernel⟩
abbrev s_Log__first_k : Stmt := (inClass (topS 45) 5)
abbrev n_Log__first_k : List Str := ["self", "number"]
theorem sc_Log__first_k : FnScope n_Log__first_k ["self", "number"] (defScope s_Log__first_k) := ⟨rfl, rfl, rfl, by decide +kernel, rfl, by decide +kernel, by decide +kernel⟩
abbrev s_Log_forced : Stmt := (inClass (topS 45) 6)
abbrev n_Log_forced : List Str := ["self"]
theorem sc_Log_forced : FnScope n_Log_forced ["self"] (defScope s_Log_forced) := ⟨rfl, rfl, rfl, by decide +kernel, rfl, by decide +kernel, by decide +kernel⟩
abbrev s_Log_last : Stmt := (inClass (topS 45) 7)
abbrev n_Log_last : List Str := ["self"]
theorem sc_Log_last : FnScope n_Log_last ["self"] (defScope s_Log_last) := ⟨rfl, rfl, rfl, by decide +kernel, rfl, by decide +kernel, by decide +kernel⟩
abbrev s_Log_records : Stmt := (inClass (topS 45) 8)
abbrev n_Log_records : List Str := ["self", "place", "row"]
theorem sc_Log_records : FnScope n_Log_records ["self"] (defScope s_Log_records) := ⟨rfl, rfl, rfl, by decide +kernel, rfl, by decide +kernel, by decide +kernel⟩
abbrev s_Log_room : Stmt := (inClass (topS 45) 9)
abbrev n_Log_room : List Str := ["self"]
theorem sc_Log_room : FnScope n_Log_room ["self"] (defScope s_Log_room) := ⟨rfl, rfl, rfl, by decide +kernel, rfl, by decide +kernel, by decide +kernel⟩
abbrev s_Log_ring_size : Stmt := (inClass (topS 45) 10)
abbrev n_Log_ring_size : List Str := ["self"]
theorem sc_Log_ring_size : FnScope n_Log_ring_size ["self"] (defScope s_Log_ring_size) := ⟨rfl, rfl, rfl, by decide +kernel, rfl, by decide +kernel, by decide +kernel⟩
abbrev s_Log_begin_at : Stmt := (inClass (topS 45) 11)
abbrev n_Log_begin_at : List Str := ["self", "number", "first_k", "kept", "first"]
theorem sc_Log_begin_at : FnScope n_Log_begin_at ["self", "number"] (defScope s_Log_begin_at) := ⟨rfl, rfl, rfl, by decide +kernel, rfl, by decide +kernel, by decide +kernel⟩
abbrev s_law_hand : Stmt := (topS 47)
abbrev n_law_hand : List Str := ["script", "cells", "cell"]
theorem sc_law_hand : FnScope n_law_hand ["script"] (defScope s_law_hand) := ⟨rfl, rfl, rfl, by decide +kernel, rfl, by decide +kernel, by decide +kernel⟩
abbrev s_law_draw : Stmt := (topS 48)
abbrev n_law_draw : List Str := ["hand", "many", "cell", "digit", "number"]
theorem sc_law_draw : FnScope n_law_draw ["hand", "many"] (defScope s_law_draw) := ⟨rfl, rfl, rfl, by decide +kernel, rfl, by decide +kernel, by decide +kernel⟩
abbrev s_law_cut_up : Stmt := (topS 49)
abbrev n_law_cut_up : List Str := ["record", "at"]
theorem sc_law_cut_up : FnScope n_law_cut_up ["record"] (defScope s_law_cut_up) := ⟨rfl, rfl, rfl, by decide +kernel, rfl, by decide +kernel, by decide +kernel⟩
abbrev s_law_new : Stmt := (topS 50)
abbrev n_law_new : List Str := ["ring"]
theorem sc_law_new : FnScope n_law_new ["ring"] (defScope s_law_new) := ⟨rfl, rfl, rfl, by decide +kernel, rfl, by decide +kernel, by decide +kernel⟩
abbrev s_law_next_k : Stmt := (topS 51)
abbrev n_law_next_k : List Str := ["model", "k", "epoch", "items"]
theorem sc_law_next_k : FnScope n_law_next_k ["model"] (defScope s_law_next_k) := ⟨rfl, rfl, rfl, by decide +kernel, rfl, by decide +kernel, by decide +kernel⟩
abbrev s_law_room : Stmt := (topS 52)
abbrev n_law_room : List Str := ["model"]
theorem sc_law_room : FnScope n_law_room ["model"] (defScope s_law_room) := ⟨rfl, rfl, rfl, by decide +kernel, rfl, by decide +kernel, by decide +kernel⟩
abbrev s_law_added : Stmt := (topS 53)
abbrev n_law_added : List Str := ["model", "items"]
theorem sc_law_added : FnScope n_law_added ["model", "items"] (defScope s_law_added) := ⟨rfl, rfl, rfl, by decide +kernel, rfl, by decide +kernel, by decide +kernel⟩
abbrev s_law_contents : Stmt := (topS 54)
abbrev n_law_contents : List Str := ["model", "at", "k", "epoch", "items", "pieces", "found", "step", "piece", "content"]
theorem sc_law_contents : FnScope n_law_contents ["model", "at"] (defScope s_law_contents) := ⟨rfl, rfl, rfl, by decide +kernel, rfl, by decide +kernel, by decide +kernel⟩
abbrev s_law_lying : Stmt := (topS 55)
abbrev n_law_lying : List Str := ["disk", "model", "many", "at", "block", "content"]
theorem sc_law_lying : FnScope n_law_lying ["disk", "model"] (defScope s_law_lying) := ⟨rfl, rfl, rfl, by decide +kernel, rfl, by decide +kernel, by decide +kernel⟩
abbrev s_law_pairs : Stmt := (topS 56)
abbrev n_law_pairs : List Str := ["model", "at", "row"]
theorem sc_law_pairs : FnScope n_law_pairs ["model"] (defScope s_law_pairs) := ⟨rfl, rfl, rfl, by decide +kernel, rfl, by decide +kernel, by decide +kernel⟩
abbrev s_law_told_right : Stmt := (topS 57)
abbrev n_law_told_right : List Str := ["log", "model", "sure", "last"]
theorem sc_law_told_right : FnScope n_law_told_right ["log", "model", "sure"] (defScope s_law_told_right) := ⟨rfl, rfl, rfl, by decide +kernel, rfl, by decide +kernel, by decide +kernel⟩
abbrev s_law_started : Stmt := (topS 58)
abbrev n_law_started : List Str := ["model", "number", "at", "k"]
theorem sc_law_started : FnScope n_law_started ["model", "number"] (defScope s_law_started) := ⟨rfl, rfl, rfl, by decide +kernel, rfl, by decide +kernel, by decide +kernel⟩
abbrev s_law : Stmt := (topS 59)
abbrev n_law : List Str := ["script", "hand", "ring", "disk", "model", "pieces", "life", "log", "kept", "many", "turn", "items", "lost", "blocks", "away", "block", "content"]
theorem sc_law : FnScope n_law ["script"] (defScope s_law) := ⟨rfl, rfl, rfl, by decide +kernel, rfl, by decide +kernel, by decide +kernel⟩
structure Txt (K : PySem.W.Frag) (mg : Str → Option Value) where
  wall : DefAt K mg "_wall" "_wall" s_wall ["k"]
  is_integer : DefAt K mg "is_integer" "is_integer" s_is_integer ["thing"]
  is_within : DefAt K mg "is_within" "is_within" s_is_within ["thing", "low", "high"]
  is_number : DefAt K mg "is_number" "is_number" s_is_number ["thing"]
  is_word : DefAt K mg "is_word" "is_word" s_is_word ["thing"]
  is_item : DefAt K mg "is_item" "is_item" s_is_item ["thing"]
  is_ascending : DefAt K mg "is_ascending" "is_ascending" s_is_ascending ["row"]
  is_lot : DefAt K mg "is_lot" "is_lot" s_is_lot ["thing"]
  is_items : DefAt K mg "is_items" "is_items" s_is_items ["thing", "least", "most"]
  formatted : DefAt K mg "formatted" "formatted" s_formatted ["blocks", "ring"]
  is_ring_size : DefAt K mg "is_ring_size" "is_ring_size" s_is_ring_size ["ring", "blocks"]
  is_master : DefAt K mg "is_master" "is_master" s_is_master ["content", "blocks"]
  pieces_of : DefAt K mg "pieces_of" "pieces_of" s_pieces_of ["record"]
  master_of : DefAt K mg "master_of" "master_of" s_master_of ["disk"]
  counted : DefAt K mg "counted" "counted" s_counted ["disk", "latest"]
  is_piece : DefAt K mg "is_piece" "is_piece" s_is_piece ["content", "k"]
  begins : DefAt K mg "begins" "begins" s_begins ["master", "content"]
  goes_on : DefAt K mg "goes_on" "goes_on" s_goes_on ["ahead", "content"]
  read_prefix : DefAt K mg "read_prefix" "read_prefix" s_read_prefix ["disk", "latest"]
  law_hand : DefAt K mg "_law_hand" "_law_hand" s_law_hand ["script"]
  law_draw : DefAt K mg "_law_draw" "_law_draw" s_law_draw ["hand", "many"]
  law_cut_up : DefAt K mg "_law_cut_up" "_law_cut_up" s_law_cut_up ["record"]
  law_new : DefAt K mg "_law_new" "_law_new" s_law_new ["ring"]
  law_next_k : DefAt K mg "_law_next_k" "_law_next_k" s_law_next_k ["model"]
  law_room : DefAt K mg "_law_room" "_law_room" s_law_room ["model"]
  law_added : DefAt K mg "_law_added" "_law_added" s_law_added ["model", "items"]
  law_contents : DefAt K mg "_law_contents" "_law_contents" s_law_contents ["model", "at"]
  law_lying : DefAt K mg "_law_lying" "_law_lying" s_law_lying ["disk", "model"]
  law_pairs : DefAt K mg "_law_pairs" "_law_pairs" s_law_pairs ["model"]
  law_told_right : DefAt K mg "_law_told_right" "_law_told_right" s_law_told_right ["log", "model", "sure"]
  law_started : DefAt K mg "_law_started" "_law_started" s_law_started ["model", "number"]
  C_Disk : Addr
  k_Disk : ClsAt K mg "Disk" C_Disk
  C_Log : Addr
  k_Log : ClsAt K mg "Log" C_Log
  i_Disk : C8.InsC K C_Disk
  m_Disk_init : MethAt K C_Disk "__init__" "Disk.__init__" s_Disk_init ["self", "blocks"]
  m_Disk_blocks : MethAt K C_Disk "blocks" "Disk.blocks" s_Disk_blocks ["self"]
  m_Disk_write : MethAt K C_Disk "write" "Disk.write" s_Disk_write ["self", "block", "content"]
  m_Disk_read : MethAt K C_Disk "read" "Disk.read" s_Disk_read ["self", "block"]
  m_Disk_reach : MethAt K C_Disk "reach" "Disk.reach" s_Disk_reach ["self", "block"]
  m_Disk_force : MethAt K C_Disk "force" "Disk.force" s_Disk_force ["self", "lot"]
  m_Disk_calm : MethAt K C_Disk "calm" "Disk.calm" s_Disk_calm ["self"]
  m_Disk_power : MethAt K C_Disk "power" "Disk.power" s_Disk_power ["self", "many"]
  m_Disk_cut : MethAt K C_Disk "cut" "Disk.cut" s_Disk_cut ["self"]
  m_Disk_waiting : MethAt K C_Disk "waiting" "Disk.waiting" s_Disk_waiting ["self"]
  m_Disk_lying : MethAt K C_Disk "lying" "Disk.lying" s_Disk_lying ["self", "block"]
  m_Disk_reached : MethAt K C_Disk "reached" "Disk.reached" s_Disk_reached ["self"]
  m_Disk_copy : MethAt K C_Disk "copy" "Disk.copy" s_Disk_copy ["self"]
  m_Disk__need_block : MethAt K C_Disk "_need_block" "Disk._need_block" s_Disk__need_block ["self", "block"]
  m_Disk__reach_one : MethAt K C_Disk "_reach_one" "Disk._reach_one" s_Disk__reach_one ["self", "block"]
  m_Log_init : MethAt K C_Log "__init__" "Log.__init__" s_Log_init ["self", "disk"]
  m_Log__keep : MethAt K C_Log "_keep" "Log._keep" s_Log__keep ["self", "record", "epoch"]
  m_Log_append : MethAt K C_Log "append" "Log.append" s_Log_append ["self", "thing"]
  m_Log__block : MethAt K C_Log "_block" "Log._block" s_Log__block ["self", "k"]
  m_Log_force : MethAt K C_Log "force" "Log.force" s_Log_force ["self", "number"]
  m_Log__first_k : MethAt K C_Log "_first_k" "Log._first_k" s_Log__first_k ["self", "number"]
  m_Log_forced : MethAt K C_Log "forced" "Log.forced" s_Log_forced ["self"]
  m_Log_last : MethAt K C_Log "last" "Log.last" s_Log_last ["self"]
  m_Log_records : MethAt K C_Log "records" "Log.records" s_Log_records ["self"]
  m_Log_room : MethAt K C_Log "room" "Log.room" s_Log_room ["self"]
  m_Log_ring_size : MethAt K C_Log "ring_size" "Log.ring_size" s_Log_ring_size ["self"]
  m_Log_begin_at : MethAt K C_Log "begin_at" "Log.begin_at" s_Log_begin_at ["self", "number"]
  m_StoreError_init : InitAt K "__init__" "StoreError.__init__" s_StoreError_init ["self"]
  vV : PySem.W.findCls K (.type "ValueError") (.type "type") "__init__" = some (.val (.builtin "ValueError.__init__"))
  e_Stopped : ExcAt K mg "Stopped" m_StoreError_init.f
  n_Disk__lies : NoAttr K C_Disk "_lies"
  n_Disk__waits : NoAttr K C_Disk "_waits"
  n_Disk__power : NoAttr K C_Disk "_power"
  n_Disk__reached : NoAttr K C_Disk "_reached"
  n_Log__disk : NoAttr K C_Log "_disk"
  n_Log__epoch : NoAttr K C_Log "_epoch"
  n_Log__ring : NoAttr K C_Log "_ring"
  n_Log__begin : NoAttr K C_Log "_begin"
  n_Log__kept : NoAttr K C_Log "_kept"
  n_Log__begin_k : NoAttr K C_Log "_begin_k"
  n_Log__next_k : NoAttr K C_Log "_next_k"
  n_Log__forced : NoAttr K C_Log "_forced"
  z_ValueError : mg "ValueError" = none
  z_abs : mg "abs" = none
  z_all : mg "all" = none
  z_any : mg "any" = none
  z_bool : mg "bool" = none
  z_enumerate : mg "enumerate" = none
  z_int : mg "int" = none
  z_isinstance : mg "isinstance" = none
  z_len : mg "len" = none
  z_max : mg "max" = none
  z_range : mg "range" = none
  z_sorted : mg "sorted" = none
  z_str : mg "str" = none
  z_tuple : mg "tuple" = none
  c_GREATEST_ITEM : CAt mg "GREATEST_ITEM" (.int (1000000000000000000000000000000))
  c_LONGEST_WORD : CAt mg "LONGEST_WORD" (.int (12))
  c_LEAST_BLOCKS : CAt mg "LEAST_BLOCKS" (.int (16))
  c_MOST_BLOCKS : CAt mg "MOST_BLOCKS" (.int (600))
  c_MOST_ITEMS : CAt mg "MOST_ITEMS" (.int (40))
  c_MOST_POWER : CAt mg "MOST_POWER" (.int (1000000))
  c_MASTER : CAt mg "MASTER" (.str "master")
  c_LEAST_RING : CAt mg "LEAST_RING" (.int (4))
  c_OTHER_BLOCKS : CAt mg "OTHER_BLOCKS" (.int (8))
  c_PIECE : CAt mg "PIECE" (.int (36))
  c_HEAD : CAt mg "HEAD" (.int (4))
  c_MOST_RECORD : CAt mg "MOST_RECORD" (.int (6000))
end Vw

set_option Elab.async false
set_option linter.all false
set_option maxRecDepth 100000
set_option maxHeartbeats 4000000
namespace Vw
open PySem PySem.Spec PyProof.Rows L2 RT
local macro_rules | `(tactic| walk_at "s") => `(tactic| with_reducible first
  | refine' s_seq ?_ | refine' s_next ?_ | refine' s_set ?_ | refine' s_ret ?_ | refine' s_retN ?_ | refine' s_drop ?_ | refine' s_if ?_ | refine' s_ipI ?_
  | refine' e_c ?_ | refine' e_op ?_ | refine' e_un ?_ | refine' e_neg ?_ | refine' e_test ?_ | refine' e_tB ?_ | refine' e_bl ?_ | refine' e_and ?_ | refine' e_or ?_ | refine' e_not ?_
  | refine' e_andV ?_ | refine' e_orV ?_ | refine' e_notV ?_ | refine' e_kV ?_ | refine' e_ife ?_ | refine' e_nil ?_ | refine' e_cons ?_ | refine' e_cb ?_ | refine' e_call ?_ | refine' e_chain ?_
  | refine' o_addI ?_ | refine' o_eqI ?_ | refine' o_neI ?_ | refine' o_I0 ?_ | refine' o_pow16 ?_ | refine' o_pow17 ?_ | refine' o_pow18 ?_ | refine' o_pow19 ?_ | refine' o_pow30 ?_ | refine' o_pow31 ?_ | refine' o_pow1 ?_ | refine' o_pow2 ?_ | refine' o_pow3 ?_ | refine' o_pow4 ?_ | refine' o_pow5 ?_ | refine' o_pow6 ?_ | refine' o_pow9 ?_ | refine' o_pow10 ?_ | refine' o_pow12 ?_ | refine' o_pow15 ?_ | refine' o_pow20 ?_ | refine' e_lst ?_ | refine' e_tup ?_ | refine' iteT ?_ | refine' i_nt ?_ | refine' i_nf ?_ | refine' iteF ?_ | refine' c_int ?_ | refine' c_abs ?_ | refine' c_min2 ?_ | refine' c_max2 ?_ | refine' e_tru ?_ | refine' t_bl ?_ | refine' t_non ?_ | refine' t_int ?_ | refine' isN_non ?_ | refine' isN_int ?_ | refine' isN_ref ?_ | refine' isN_str ?_ | refine' isN_bl ?_ | refine' noN_non ?_ | refine' noN_int ?_ | refine' noN_ref ?_ | refine' noN_str ?_ | refine' noN_bl ?_
  | refine' s_brk ?_ | refine' s_cont ?_ | refine' s_for ?_ | refine' e_lc ?_ | refine' e_dc ?_ | refine' e_yes ?_ | refine' i_rng1 ?_ | refine' i_lst0 ?_ | refine' i_tup0 ?_ | refine' e_bm ?_ | refine' e_sl ?_ | refine' e_np ?_ | refine' e_pt ?_ | refine' e_ptI ?_ | refine' e_din ?_ | refine' e_dnin ?_ | refine' e_methE ?_ | refine' p_cons ?_ | refine' p_nil ?_ | refine' s_dput ?_ | refine' e_dget2 ?_ | refine' e_dpop1 ?_ | refine' i_enum0 ?_ | refine' i_rev0 ?_ | refine' g_sub ?_ | refine' s_asg ?_ | refine' i_zip0 ?_ | refine' e_revT ?_ | refine' isB_bl ?_ | refine' notB_bl ?_ | refine' o_neB ?_ | refine' i_nrr ?_ | refine' e_meth ?_ | refine' s_setf ?_ | refine' e_fld ?_ | refine' e_bm0 ?_ | refine' r_tx ?_ | refine' o_eqStr ?_ | refine' o_neStr ?_)
local macro_rules | `(tactic| walk_at "v") => `(tactic| ((with_reducible refine' e_var ?hv ?_); (case hv => exact rfl)))
local macro_rules | `(tactic| walk_at "a") => `(tactic| ((with_reducible refine' s_aug ?hv ?_); (case hv => exact rfl)))
local macro_rules | `(tactic| walk_at "m") => `(tactic| first
  | ((with_reducible refine' o_mod ?hv ?_); (case hv => first | decide | omega))
  | ((with_reducible refine' o_mulR ?hv ?_); (case hv => omega))
  | ((with_reducible refine' o_mulL ?hv ?_); (case hv => omega))
  | ((with_reducible refine' o_div ?hv ?hw ?_); (case hv => omega); (case hw => omega))
  | ((with_reducible refine' o_pow _ ?hv ?hw ?hx ?_); (case hv => exact rfl); (case hw => decide); (case hx => decide)))
local macro_rules | `(tactic| walk_at "i") => `(tactic| (first
  | ((with_reducible refine' isi_int true ?hv ?_); (case hv => exact (by decide +kernel)))
  | ((with_reducible refine' isi_int false ?hv ?_); (case hv => exact (by decide +kernel)))
  | ((with_reducible refine' isi_non true ?hv ?_); (case hv => exact (by decide +kernel)))
  | ((with_reducible refine' isi_non false ?hv ?_); (case hv => exact (by decide +kernel)))
  | ((with_reducible refine' isi_str true ?hv ?_); (case hv => exact (by decide +kernel)))
  | ((with_reducible refine' isi_str false ?hv ?_); (case hv => exact (by decide +kernel)))
  | ((with_reducible refine' isi_bl true ?hv ?_); (case hv => exact (by decide +kernel)))
  | ((with_reducible refine' isi_bl false ?hv ?_); (case hv => exact (by decide +kernel)))
  | ((with_reducible refine' isi_t true ?hw ?hv ?_); (case hw => assumption); (case hv => exact (by decide +kernel)))
  | ((with_reducible refine' isi_t false ?hw ?hv ?_); (case hw => assumption); (case hv => exact (by decide +kernel)))
  | ((with_reducible refine' isi_l true ?hw ?hv ?_); (case hw => assumption); (case hv => exact (by decide +kernel)))
  | ((with_reducible refine' isi_l false ?hw ?hv ?_); (case hw => assumption); (case hv => exact (by decide +kernel)))
  | ((with_reducible refine' isi_tup true ?hw ?hv ?_); (case hw => assumption); (case hv => exact (by decide +kernel)))
  | ((with_reducible refine' isi_tup false ?hw ?hv ?_); (case hw => assumption); (case hv => exact (by decide +kernel)))
  | ((with_reducible refine' isi_lst true ?hw ?hv ?_); (case hw => assumption); (case hv => exact (by decide +kernel)))
  | ((with_reducible refine' isi_lst false ?hw ?hv ?_); (case hw => assumption); (case hv => exact (by decide +kernel)))))
local macro_rules | `(tactic| walk_at "om") => `(tactic| first | omega | (simp only [List.length_cons, List.length_nil, List.length_map, List.length_append, List.length_range]; omega))
local macro_rules | `(tactic| walk_at "d") => `(tactic| (first
  | ((with_reducible refine' i_dt ?hv ?_); (case hv => walk_at "om"))
  | ((with_reducible refine' i_df ?hv ?_); (case hv => walk_at "om"))
  | ((with_reducible refine' i_ndt ?hv ?_); (case hv => walk_at "om"))
  | ((with_reducible refine' i_ndf ?hv ?_); (case hv => walk_at "om"))))
local macro_rules | `(tactic| walk_at "x") => `(tactic| first
  | ((with_reducible refine' o_ixA ?hv ?hw ?_); (case hv => assumption); (case hw => exact rfl))
  | ((with_reducible refine' o_ixU ?hv ?hw ?_); (case hv => assumption); (case hw => exact rfl))
  | ((with_reducible refine' o_ixL ?hv ?hw ?_); (case hv => assumption); (case hw => exact rfl))
  | ((with_reducible refine' o_ixT ?hv ?hw ?_); (case hv => assumption); (case hw => exact rfl))
  | ((with_reducible refine' set_ ?hv ?hw ?_); (case hv => assumption); (case hw => exact rfl))
  | ((with_reducible refine' e_lenM ?hv ?_); (case hv => first | assumption | exact slO (by assumption)))
  | ((with_reducible refine' e_lenN ?hv ?_); (case hv => first | assumption | exact stO (by assumption)))
  | ((with_reducible refine' e_lenL ?hv ?_); (case hv => first | assumption | exact slO (by assumption)))
  | ((with_reducible refine' e_lenT ?hv ?_); (case hv => first | assumption | exact stO (by assumption))))
local macro_rules | `(tactic| walk_at "c") => `(tactic| first
  | ((with_reducible refine' c_listL ?hv ?_); (case hv => assumption))
  | ((with_reducible refine' c_listT ?hv ?_); (case hv => assumption))
  | ((with_reducible refine' c_tupL ?hv ?_); (case hv => first | assumption | exact slO (by assumption)))
  | ((with_reducible refine' c_tupT ?hv ?_); (case hv => assumption))
  | ((with_reducible refine' t_lst ?hv ?_); (case hv => first | assumption | exact slO (by assumption)))
  | ((with_reducible refine' t_tup ?hv ?_); (case hv => assumption))
  | ((with_reducible refine' r_sl ?hv ?_); (case hv => first | assumption | exact slO (by assumption)))
  | ((with_reducible refine' o_inL ?hv ?_); (case hv => first | assumption | exact slO (by assumption)))
  | ((with_reducible refine' o_inT ?hv ?_); (case hv => first | assumption | exact stO (by assumption)))
  | ((with_reducible refine' o_niL ?hv ?_); (case hv => first | assumption | exact slO (by assumption)))
  | ((with_reducible refine' o_niT ?hv ?_); (case hv => first | assumption | exact stO (by assumption)))
  | ((with_reducible refine' ty_lst ?hv ?_); (case hv => assumption)))
local macro_rules | `(tactic| walk_at "mo") => `(tactic| repeat' (first | exact m_yes | exact m_var | exact m_c | exact m_I0 | exact m_I | exact m_ix | exact m_add | exact m_in | exact m_int1 | exact m_abs | exact m_nil | refine' m_and ?_ ?_ | refine' m_test ?_ | refine' m_tB ?_ | refine' m_op ?_ ?_ ?_ | refine' m_cons ?_ ?_ | refine' m_cb ?_ ?_))
local macro_rules | `(tactic| walk_at "go") => `(tactic| repeat' (first | walk_at "s" | walk_at "v" | walk_at "a" | walk_at "x" | walk_at "m" | walk_at "c" | walk_at "i" | walk_at "d"))

section
variable {P : Program} {w : World} {K : PySem.W.Frag} {mg : Str → Option Value} {base : Heap}
theorem ok_StoreError_init (M : InitAt K "__init__" "StoreError.__init__" s_StoreError_init ["self"]) (z : mg "ValueError" = none) (vV : PySem.W.findCls K (.type "ValueError") (.type "type") "__init__" = some (.val (.builtin "ValueError.__init__"))) : FnOk P w K mg base CX0 1 M.f M.fd ["self"] (sp_exc_init K) := by
  refine M.F.ok sc_StoreError_init (fun vs H Q E h => ?_) (fun cdv A outer s H vs Q E hr h => ?_)
  · obtain ⟨a, C, rfl, _⟩ := h
    rfl
  · obtain ⟨a, C, rfl, o, ha, k⟩ := h
    exact ⟨_, pss_one (ps_expr (pe_veinit (by rfl) z vV (pa_cons (pv 0) pa_nil))), _, rfl, a, C, [], rfl, by decide, o, ha, k⟩
end
end Vw

set_option Elab.async false
set_option linter.all false
set_option maxRecDepth 100000
set_option maxHeartbeats 4000000
namespace Vw
open PySem PySem.Spec PyProof.Rows L2 RT
local macro_rules | `(tactic| walk_at "s") => `(tactic| with_reducible first
  | refine' s_seq ?_ | refine' s_next ?_ | refine' s_set ?_ | refine' s_ret ?_ | refine' s_retN ?_ | refine' s_drop ?_ | refine' s_if ?_ | refine' s_ipI ?_
  | refine' e_c ?_ | refine' e_op ?_ | refine' e_un ?_ | refine' e_neg ?_ | refine' e_test ?_ | refine' e_tB ?_ | refine' e_bl ?_ | refine' e_and ?_ | refine' e_or ?_ | refine' e_not ?_
  | refine' e_andV ?_ | refine' e_orV ?_ | refine' e_notV ?_ | refine' e_kV ?_ | refine' e_ife ?_ | refine' e_nil ?_ | refine' e_cons ?_ | refine' e_cb ?_ | refine' e_call ?_ | refine' e_chain ?_
  | refine' o_addI ?_ | refine' o_eqI ?_ | refine' o_neI ?_ | refine' o_I0 ?_ | refine' o_pow16 ?_ | refine' o_pow17 ?_ | refine' o_pow18 ?_ | refine' o_pow19 ?_ | refine' o_pow30 ?_ | refine' o_pow31 ?_ | refine' o_pow1 ?_ | refine' o_pow2 ?_ | refine' o_pow3 ?_ | refine' o_pow4 ?_ | refine' o_pow5 ?_ | refine' o_pow6 ?_ | refine' o_pow9 ?_ | refine' o_pow10 ?_ | refine' o_pow12 ?_ | refine' o_pow15 ?_ | refine' o_pow20 ?_ | refine' e_lst ?_ | refine' e_tup ?_ | refine' iteT ?_ | refine' i_nt ?_ | refine' i_nf ?_ | refine' iteF ?_ | refine' c_int ?_ | refine' c_abs ?_ | refine' c_min2 ?_ | refine' c_max2 ?_ | refine' e_tru ?_ | refine' t_bl ?_ | refine' t_non ?_ | refine' t_int ?_ | refine' isN_non ?_ | refine' isN_int ?_ | refine' isN_ref ?_ | refine' isN_str ?_ | refine' isN_bl ?_ | refine' noN_non ?_ | refine' noN_int ?_ | refine' noN_ref ?_ | refine' noN_str ?_ | refine' noN_bl ?_
  | refine' s_brk ?_ | refine' s_cont ?_ | refine' s_for ?_ | refine' e_lc ?_ | refine' e_dc ?_ | refine' e_yes ?_ | refine' i_rng1 ?_ | refine' i_lst0 ?_ | refine' i_tup0 ?_ | refine' e_bm ?_ | refine' e_sl ?_ | refine' e_np ?_ | refine' e_pt ?_ | refine' e_ptI ?_ | refine' e_din ?_ | refine' e_dnin ?_ | refine' e_methE ?_ | refine' p_cons ?_ | refine' p_nil ?_ | refine' s_dput ?_ | refine' e_dget2 ?_ | refine' e_dpop1 ?_ | refine' i_enum0 ?_ | refine' i_rev0 ?_ | refine' g_sub ?_ | refine' s_asg ?_ | refine' i_zip0 ?_ | refine' e_revT ?_ | refine' isB_bl ?_ | refine' notB_bl ?_ | refine' o_neB ?_ | refine' i_nrr ?_ | refine' e_meth ?_ | refine' s_setf ?_ | refine' e_fld ?_ | refine' e_bm0 ?_ | refine' r_tx ?_ | refine' o_eqStr ?_ | refine' o_neStr ?_)
local macro_rules | `(tactic| walk_at "v") => `(tactic| ((with_reducible refine' e_var ?hv ?_); (case hv => exact rfl)))
local macro_rules | `(tactic| walk_at "a") => `(tactic| ((with_reducible refine' s_aug ?hv ?_); (case hv => exact rfl)))
local macro_rules | `(tactic| walk_at "m") => `(tactic| first
  | ((with_reducible refine' o_mod ?hv ?_); (case hv => first | decide | omega))
  | ((with_reducible refine' o_mulR ?hv ?_); (case hv => omega))
  | ((with_reducible refine' o_mulL ?hv ?_); (case hv => omega))
  | ((with_reducible refine' o_div ?hv ?hw ?_); (case hv => omega); (case hw => omega))
  | ((with_reducible refine' o_pow _ ?hv ?hw ?hx ?_); (case hv => exact rfl); (case hw => decide); (case hx => decide)))
local macro_rules | `(tactic| walk_at "i") => `(tactic| (first
  | ((with_reducible refine' isi_int true ?hv ?_); (case hv => exact (by decide +kernel)))
  | ((with_reducible refine' isi_int false ?hv ?_); (case hv => exact (by decide +kernel)))
  | ((with_reducible refine' isi_non true ?hv ?_); (case hv => exact (by decide +kernel)))
  | ((with_reducible refine' isi_non false ?hv ?_); (case hv => exact (by decide +kernel)))
  | ((with_reducible refine' isi_str true ?hv ?_); (case hv => exact (by decide +kernel)))
  | ((with_reducible refine' isi_str false ?hv ?_); (case hv => exact (by decide +kernel)))
  | ((with_reducible refine' isi_bl true ?hv ?_); (case hv => exact (by decide +kernel)))
  | ((with_reducible refine' isi_bl false ?hv ?_); (case hv => exact (by decide +kernel)))
  | ((with_reducible refine' isi_t true ?hw ?hv ?_); (case hw => assumption); (case hv => exact (by decide +kernel)))
  | ((with_reducible refine' isi_t false ?hw ?hv ?_); (case hw => assumption); (case hv => exact (by decide +kernel)))
  | ((with_reducible refine' isi_l true ?hw ?hv ?_); (case hw => assumption); (case hv => exact (by decide +kernel)))
  | ((with_reducible refine' isi_l false ?hw ?hv ?_); (case hw => assumption); (case hv => exact (by decide +kernel)))
  | ((with_reducible refine' isi_tup true ?hw ?hv ?_); (case hw => assumption); (case hv => exact (by decide +kernel)))
  | ((with_reducible refine' isi_tup false ?hw ?hv ?_); (case hw => assumption); (case hv => exact (by decide +kernel)))
  | ((with_reducible refine' isi_lst true ?hw ?hv ?_); (case hw => assumption); (case hv => exact (by decide +kernel)))
  | ((with_reducible refine' isi_lst false ?hw ?hv ?_); (case hw => assumption); (case hv => exact (by decide +kernel)))))
local macro_rules | `(tactic| walk_at "om") => `(tactic| first | omega | (simp only [List.length_cons, List.length_nil, List.length_map, List.length_append, List.length_range]; omega))
local macro_rules | `(tactic| walk_at "d") => `(tactic| (first
  | ((with_reducible refine' i_dt ?hv ?_); (case hv => walk_at "om"))
  | ((with_reducible refine' i_df ?hv ?_); (case hv => walk_at "om"))
  | ((with_reducible refine' i_ndt ?hv ?_); (case hv => walk_at "om"))
  | ((with_reducible refine' i_ndf ?hv ?_); (case hv => walk_at "om"))))
local macro_rules | `(tactic| walk_at "x") => `(tactic| first
  | ((with_reducible refine' o_ixA ?hv ?hw ?_); (case hv => assumption); (case hw => exact rfl))
  | ((with_reducible refine' o_ixU ?hv ?hw ?_); (case hv => assumption); (case hw => exact rfl))
  | ((with_reducible refine' o_ixL ?hv ?hw ?_); (case hv => assumption); (case hw => exact rfl))
  | ((with_reducible refine' o_ixT ?hv ?hw ?_); (case hv => assumption); (case hw => exact rfl))
  | ((with_reducible refine' set_ ?hv ?hw ?_); (case hv => assumption); (case hw => exact rfl))
  | ((with_reducible refine' e_lenM ?hv ?_); (case hv => first | assumption | exact slO (by assumption)))
  | ((with_reducible refine' e_lenN ?hv ?_); (case hv => first | assumption | exact stO (by assumption)))
  | ((with_reducible refine' e_lenL ?hv ?_); (case hv => first | assumption | exact slO (by assumption)))
  | ((with_reducible refine' e_lenT ?hv ?_); (case hv => first | assumption | exact stO (by assumption))))
local macro_rules | `(tactic| walk_at "c") => `(tactic| first
  | ((with_reducible refine' c_listL ?hv ?_); (case hv => assumption))
  | ((with_reducible refine' c_listT ?hv ?_); (case hv => assumption))
  | ((with_reducible refine' c_tupL ?hv ?_); (case hv => first | assumption | exact slO (by assumption)))
  | ((with_reducible refine' c_tupT ?hv ?_); (case hv => assumption))
  | ((with_reducible refine' t_lst ?hv ?_); (case hv => first | assumption | exact slO (by assumption)))
  | ((with_reducible refine' t_tup ?hv ?_); (case hv => assumption))
  | ((with_reducible refine' r_sl ?hv ?_); (case hv => first | assumption | exact slO (by assumption)))
  | ((with_reducible refine' o_inL ?hv ?_); (case hv => first | assumption | exact slO (by assumption)))
  | ((with_reducible refine' o_inT ?hv ?_); (case hv => first | assumption | exact stO (by assumption)))
  | ((with_reducible refine' o_niL ?hv ?_); (case hv => first | assumption | exact slO (by assumption)))
  | ((with_reducible refine' o_niT ?hv ?_); (case hv => first | assumption | exact stO (by assumption)))
  | ((with_reducible refine' ty_lst ?hv ?_); (case hv => assumption)))
local macro_rules | `(tactic| walk_at "mo") => `(tactic| repeat' (first | exact m_yes | exact m_var | exact m_c | exact m_I0 | exact m_I | exact m_ix | exact m_add | exact m_in | exact m_int1 | exact m_abs | exact m_nil | refine' m_and ?_ ?_ | refine' m_test ?_ | refine' m_tB ?_ | refine' m_op ?_ ?_ ?_ | refine' m_cons ?_ ?_ | refine' m_cb ?_ ?_))
local macro_rules | `(tactic| walk_at "go") => `(tactic| repeat' (first | walk_at "s" | walk_at "v" | walk_at "a" | walk_at "x" | walk_at "m" | walk_at "c" | walk_at "i" | walk_at "d"))

section
variable {P : Program} {w : World} {K : PySem.W.Frag} {mg : Str → Option Value} {base : Heap}
/-! ### kinds of numbers -/
abbrev isI : V → Bool
  | .int _ => true
  | _ => false
abbrev isN : V → Bool
  | .int i => decide (0 ≤ i)
  | _ => false
abbrev plainV : V → Bool
  | .int _ => true | .non => true | .bl _ => true | .str _ => true
  | _ => false
abbrev within (x : V) (lo hi : Int) : Bool := match x with
  | .int i => decide (lo ≤ i) && decide (i ≤ hi)
  | _ => false
abbrev markB : V → Bool
  | .non => true
  | x => within x (-1000000000000000000) 1000000000000000000
def sp_is_integer : Sp := fun vs H Q _ => ∃ x, vs = [x] ∧ plainV x = true ∧ Q (.bl (isI x)) H
theorem ok_is_integer (T : Txt K mg) : FnOk P w K mg base CX0 1 T.is_integer.f T.is_integer.fd ["thing"] (sp_is_integer) := by
  refine T.is_integer.F.ok sc_is_integer (fun vs H Q E h => ?_) (fun cdv A outer s H vs Q E hr h => ?_)
  · obtain ⟨x, rfl, _⟩ := h
    rfl
  · obtain ⟨x, rfl, hp, k⟩ := h
    refine ⟨_, (pss_one (ps_ret (pe_and (pe_callB (cIsi (K := K)) (by rfl) T.z_isinstance (by decide +kernel) (pa_cons (pv 0) (pa_cons (pe_bltn (v := .ty "int") (by rfl) T.z_int (by decide +kernel) rfl) pa_nil))) (pe_one (pe_not (pe_callB (cIsi (K := K)) (by rfl) T.z_isinstance (by decide +kernel) (pa_cons (pv 0) (pa_cons (pe_bltn (v := .ty "bool") (by rfl) T.z_bool (by decide +kernel) rfl) pa_nil)))))))), ?_⟩
    cases x with
    | int a => walk_at "go"; exact k
    | non => walk_at "go"; exact k
    | bl b => walk_at "go"; exact k
    | str z => walk_at "go"; exact k
    | _ => cases hp
def sp_is_within : Sp := fun vs H Q _ => ∃ x lo hi, vs = [x, .int lo, .int hi] ∧ plainV x = true ∧ Q (.bl (within x lo hi)) H
theorem ok_is_within (T : Txt K mg) : FnOk P w K mg base CX0 2 T.is_within.f T.is_within.fd ["thing", "low", "high"] (sp_is_within) := by
  refine T.is_within.F.ok sc_is_within (fun vs H Q E h => ?_) (fun cdv A outer s H vs Q E hr h => ?_)
  · obtain ⟨x, lo, hi, rfl, _⟩ := h
    rfl
  · obtain ⟨x, lo, hi, rfl, hp, k⟩ := h
    refine ⟨_, (pss_one (ps_ret (pe_and (pe_call (ok_is_integer T) (hr.mono (by decide)) (by rfl) T.is_integer.g T.is_integer.F.kp T.is_integer.b .nil pass0 (pa_cons (pv 0) pa_nil)) (pe_one (pe_chain op_le op_le (pv 1) (pv 0) (pv 2)))))), ?_⟩
    walk_at "go"
    refine ⟨x, rfl, hp, ?_⟩
    cases x with
    | int a =>
      walk_at "go"
      refine i_d (fun h1 => ?_) (fun h1 => ?_)
      · walk_at "go"
        simpa [within, h1] using k
      · walk_at "go"
        simpa [within, h1] using k
    | non => walk_at "go"; exact k
    | bl b => walk_at "go"; exact k
    | str z => walk_at "go"; exact k
    | _ => cases hp
def sp_is_number : Sp := fun vs H Q _ => ∃ x, vs = [x] ∧ plainV x = true ∧ Q (.bl (isN x)) H
theorem ok_is_number (T : Txt K mg) : FnOk P w K mg base CX0 2 T.is_number.f T.is_number.fd ["thing"] (sp_is_number) := by
  refine T.is_number.F.ok sc_is_number (fun vs H Q E h => ?_) (fun cdv A outer s H vs Q E hr h => ?_)
  · obtain ⟨x, rfl, _⟩ := h
    rfl
  · obtain ⟨x, rfl, hp, k⟩ := h
    refine ⟨_, (pss_one (ps_ret (pe_and (pe_call (ok_is_integer T) (hr.mono (by decide)) (by rfl) T.is_integer.g T.is_integer.F.kp T.is_integer.b .nil pass0 (pa_cons (pv 0) pa_nil)) (pe_one (pe_cmpR op_ge (pv 0) pe_int (nomark _)))))), ?_⟩
    walk_at "go"
    refine ⟨x, rfl, hp, ?_⟩
    cases x with
    | int a => walk_at "go"; exact k
    | non => walk_at "go"; exact k
    | bl b => walk_at "go"; exact k
    | str z => walk_at "go"; exact k
    | _ => cases hp
/-! ### words and items -/
def wordB (z : Str) : Bool := decide (z.length ≤ 12) && (decide (z = "") || (Txt.isascii z && (Txt.isalpha z && Txt.islower z)))
abbrev smallV (x : V) : Bool := match x with
  | .str z => decide (z.length ≤ 100000)
  | x => plainV x
theorem small_plain {x : V} (h : smallV x = true) : plainV x = true := by
  cases x <;> first | rfl | exact h
abbrev isW : V → Bool
  | .str z => wordB z
  | _ => false
def sp_is_word : Sp := fun vs H Q _ => ∃ x, vs = [x] ∧ smallV x = true ∧ Q (.bl (isW x)) H
theorem ok_is_word (T : Txt K mg) : FnOk P w K mg base CX0 1 T.is_word.f T.is_word.fd ["thing"] (sp_is_word) := by
  refine T.is_word.F.ok sc_is_word (fun vs H Q E h => ?_) (fun cdv A outer s H vs Q E hr h => ?_)
  · obtain ⟨x, rfl, _⟩ := h
    rfl
  · obtain ⟨x, rfl, hp, k⟩ := h
    refine ⟨_, (pss_cons (ps_if (PW.pt (pw_or (pt_not (ptTruth (K := K) (pe_callB (cIsi (K := K)) (by rfl) T.z_isinstance (by decide +kernel) (pa_cons (pv 0) (pa_cons (pe_bltn (v := .ty "str") (by rfl) T.z_str (by decide +kernel) rfl) pa_nil))) (by intro _; rfl))) (pw_or1 (pt_cmpR op_gt (pe_callB (cLen (K := K)) (by rfl) T.z_len PySem.boot_len (pa_cons (pv 0) pa_nil)) (pe_glob (by rfl) T.c_LONGEST_WORD.h T.c_LONGEST_WORD.r) (nomark _))))) (pss_one (ps_ret pe_bl)) pss_nil)
    (pss_one (ps_ret (pe_or (pe_cmpR (oEq (K := K) hr.units) (pv 0) pe_str (nomark _)) (pe_one (pe_and (peIsascii (K := K) (pv 0)) (pe_and (peIsalpha (K := K) (pv 0)) (pe_one (peIslower (K := K) (pv 0)))))))))), ?_⟩
    cases x with
    | int a => walk_at "go"; exact k
    | non => walk_at "go"; exact k
    | bl b => walk_at "go"; exact k
    | str z =>
      have hz : z.length ≤ 100000 := of_decide_eq_true hp
      walk_at "go"
      refine e_lenS hz ?_
      walk_at "go"
      have k : Q (.bl (wordB z)) H := k
      unfold wordB at k
      refine i_d (fun q => ?_) (fun q => ?_)
      · rw [decide_eq_false (show ¬ z.length ≤ 12 by omega)] at k
        walk_at "go"
        exact k
      · rw [decide_eq_true (show z.length ≤ 12 by omega), Bool.true_and] at k
        walk_at "go"
        refine i_d (fun q2 => ?_) (fun q2 => ?_)
        · rw [decide_eq_true q2, Bool.true_or] at k
          walk_at "go"
          exact k
        · rw [decide_eq_false q2, Bool.false_or] at k
          walk_at "go"
          cases e1 : Txt.isascii z with
          | false =>
            rw [e1] at k
            walk_at "go"
            exact k
          | true =>
            rw [e1, Bool.true_and] at k
            walk_at "go"
            cases e2 : Txt.isalpha z with
            | false =>
              rw [e2] at k
              walk_at "go"
              exact k
            | true =>
              rw [e2, Bool.true_and] at k
              walk_at "go"
              exact k
    | _ => cases hp
def itemB (x : V) : Bool := isW x || within x (-1000000000000000000000000000000) 1000000000000000000000000000000
def sp_is_item : Sp := fun vs H Q _ => ∃ x, vs = [x] ∧ smallV x = true ∧ Q (.bl (itemB x)) H
theorem ok_is_item (T : Txt K mg) : FnOk P w K mg base CX0 3 T.is_item.f T.is_item.fd ["thing"] (sp_is_item) := by
  refine T.is_item.F.ok sc_is_item (fun vs H Q E h => ?_) (fun cdv A outer s H vs Q E hr h => ?_)
  · obtain ⟨x, rfl, _⟩ := h
    rfl
  · obtain ⟨x, rfl, hp, k⟩ := h
    refine ⟨_, (pss_one (ps_ret (pe_or (pe_call (ok_is_word T) (hr.mono (by decide)) (by rfl) T.is_word.g T.is_word.F.kp T.is_word.b .nil pass0 (pa_cons (pv 0) pa_nil)) (pe_one (pe_call (ok_is_within T) (hr.mono (by decide)) (by rfl) T.is_within.g T.is_within.F.kp T.is_within.b .nil pass0 (pa_cons (pv 0) (pa_cons (pe_un un_neg (pe_glob (by rfl) T.c_GREATEST_ITEM.h T.c_GREATEST_ITEM.r)) (pa_cons (pe_glob (by rfl) T.c_GREATEST_ITEM.h T.c_GREATEST_ITEM.r) pa_nil)))))))), ?_⟩
    walk_at "go"
    refine ⟨x, rfl, hp, ?_⟩
    unfold itemB at k
    cases e : isW x with
    | true =>
      rw [e] at k
      walk_at "go"
      exact k
    | false =>
      rw [e, Bool.false_or] at k
      walk_at "go"
      exact ⟨x, _, _, rfl, small_plain hp, k⟩
/-! ### lots -/
def ascF (ns : List Int) (k : Nat) : Bool := decide (ns.getD k 0 < ns.getD (k + 1) 0)
def ascB (ns : List Int) : Bool := ((List.range (ns.length - 1)).map (ascF ns)).all id
def sp_is_ascending (K : PySem.W.Frag) : Sp := fun vs H Q _ => ∃ a ns, vs = [.ref a] ∧ SqT K H a (ns.map V.int) ∧ ns.length ≤ 1000 ∧ ∀ H', Same H H' → Q (.bl (ascB ns)) H'
theorem ok_is_ascending (T : Txt K mg) : FnOk P w K mg base CX0 1 T.is_ascending.f T.is_ascending.fd ["row"] (sp_is_ascending K) := by
  refine T.is_ascending.F.ok sc_is_ascending (fun vs H Q E h => ?_) (fun cdv A outer s H vs Q E hr h => ?_)
  · obtain ⟨a, ns, rfl, _⟩ := h
    rfl
  · obtain ⟨a, ns, rfl, hS, hl, k⟩ := h
    refine ⟨_, (pss_one (ps_ret (pe_callB (cAll (K := K) rfl) (by rfl) T.z_all (by decide +kernel) (pa_cons (pe_lc (own := [("k", 1)]) rfl sc_is_ascending.nd (pi_range1 (by rfl) T.z_range (pa_cons (pe_op op_sub (pe_callB (cLen (K := K)) (by rfl) T.z_len PySem.boot_len (pa_cons (pv 0) pa_nil)) pe_int) pa_nil)) (blkOk_by (N := n_is_ascending) (sc := defScope s_is_ascending) (by decide +kernel)) (fun _ _ _ _ _ => (pg_name (i := 1) sc_is_ascending.nd rfl (Or.inl rfl))) (fun _ _ _ _ _ => pts_nil) (fun _ _ _ _ _ => (pe_cmpR oLt (pe_ix (ixLT (K := K)) (pv 0) (pv 1) (fun _ _ => rfl)) (pe_ix (ixLT (K := K)) (pv 0) (pe_op oAdd (pv 1) pe_int) (fun _ _ => rfl)) (nomark _)))) pa_nil)))), ?_⟩
    walk_at "go"
    refine i_rng (ns.length - 1) (by omega) (by omega) (by omega) ?_
    refine c_rng (fun i acc H1 => Same H H1 ∧ acc = ((List.range i).map (ascF ns)).map V.bl) (fun D hD => ⟨upd_free (Same.refl _) hD, rfl⟩) (fun acc D H1 hD hp p => ?_) (fun _ => rfl) (fun i acc H1 D hi hD hp p => ?_)
    · obtain ⟨p1, rfl⟩ := p
      walk_at "go"
      exact e_allB hp (k _ p1)
    · obtain ⟨p1, rfl⟩ := p
      have hS1 := st_ p1 hS
      walk_at "go"
      refine o_ixT hS1 (atI_map i rfl (by omega)) ?_
      walk_at "go"
      refine o_ixT hS1 (atI_map (i + 1) (by omega) (by omega)) ?_
      walk_at "go"
      refine ⟨_, hp, lt_size (by simp; omega), _, upd_same, upd_free p1 hD, ?_⟩
      rw [List.range_succ, List.map_append, List.map_append]; rfl
def lotB (ns : List Int) : Bool := ns.all (fun i => decide (0 ≤ i)) && ascB ns
def sp_is_lot (K : PySem.W.Frag) : Sp := fun vs H Q _ => ∃ a ns, vs = [.ref a] ∧ SqT K H a (ns.map V.int) ∧ ns.length ≤ 1000 ∧ ∀ H', Same H H' → Q (.bl (lotB ns)) H'
theorem ok_is_lot (T : Txt K mg) : FnOk P w K mg base CX0 3 T.is_lot.f T.is_lot.fd ["thing"] (sp_is_lot K) := by
  refine T.is_lot.F.ok sc_is_lot (fun vs H Q E h => ?_) (fun cdv A outer s H vs Q E hr h => ?_)
  · obtain ⟨a, ns, rfl, _⟩ := h
    rfl
  · obtain ⟨a, ns, rfl, hS, hl, k⟩ := h
    refine ⟨_, (pss_one (ps_ret (pe_and (pe_callB (cIsi (K := K)) (by rfl) T.z_isinstance (by decide +kernel) (pa_cons (pv 0) (pa_cons (pe_bltn (v := .ty "tuple") (by rfl) T.z_tuple (by decide +kernel) rfl) pa_nil))) (pe_and (pe_callB (cAll (K := K) rfl) (by rfl) T.z_all (by decide +kernel) (pa_cons (pe_lc (own := [("item", 1)]) rfl sc_is_lot.nd (piT (K := K) (pv 0)) (blkOk_by (N := n_is_lot) (sc := defScope s_is_lot) (by decide +kernel)) (fun _ _ _ _ _ => (pg_name (i := 1) sc_is_lot.nd rfl (Or.inl rfl))) (fun _ _ _ _ _ => pts_nil) (fun _ _ _ _ _ => (pe_call (ok_is_number T) (hr.mono (by decide)) (by rfl) T.is_number.g T.is_number.F.kp T.is_number.b .nil pass0 (pa_cons (pv 1) pa_nil)))) pa_nil)) (pe_one (pe_call (ok_is_ascending T) (hr.mono (by decide)) (by rfl) T.is_ascending.g T.is_ascending.F.kp T.is_ascending.b .nil pass0 (pa_cons (pv 0) pa_nil))))))), ?_⟩
    walk_at "go"
    refine i_tup hS ?_
    refine c_tup (xs := ns.map V.int) (fun i acc H1 => Same H H1 ∧ acc = ((ns.take i).map (fun i => decide (0 ≤ i))).map V.bl) (fun D hD => ⟨upd_free (Same.refl _) hD, rfl⟩) (fun i acc H1 hi p => st_ p.1 hS) (fun acc D H1 hD hp p => ?_) (fun _ => rfl) (fun i x acc H1 D hx hD hp p => ?_)
    · obtain ⟨p1, rfl⟩ := p
      walk_at "go"
      refine e_allB hp ?_
      walk_at "go"
      have e0 : (List.map (fun i => decide (0 ≤ i)) (List.take (List.map V.int ns).length ns)).all id = ns.all (fun i => decide (0 ≤ i)) := by
        rw [List.length_map, List.take_length, List.all_map]; rfl
      rw [e0]
      cases e1 : ns.all (fun i => decide (0 ≤ i)) with
      | true =>
        walk_at "go"
        refine ⟨a, ns, rfl, st_ p1 hS, hl, fun H2 s2 => ?_⟩
        have e2 : lotB ns = ascB ns := by unfold lotB; rw [e1]; rfl
        rw [← e2]
        exact k _ (p1.trans s2)
      | false =>
        walk_at "go"
        have e2 : lotB ns = false := by unfold lotB; rw [e1]; rfl
        rw [← e2]
        exact k _ p1
    · obtain ⟨p1, rfl⟩ := p
      have hi : i < ns.length := by
        have := (List.getElem?_eq_some_iff.mp hx).1
        simpa using this
      have ex : x = .int ns[i] := by
        rw [List.getElem?_map, List.getElem?_eq_getElem hi] at hx
        exact (Option.some.inj hx).symm
      subst ex
      walk_at "go"
      refine ⟨_, rfl, rfl, ?_⟩
      refine ⟨_, hp, lt_size (by simp; omega), _, upd_same, upd_free p1 hD, ?_⟩
      rw [List.take_add_one, List.getElem?_eq_getElem hi, List.map_append, List.map_append]; rfl
def itemsB (xs : List V) (lo hi : Int) : Bool := decide (lo ≤ xs.length) && (decide ((xs.length : Int) ≤ hi) && xs.all itemB)
def sp_is_items (K : PySem.W.Frag) : Sp := fun vs H Q _ => ∃ a xs lo hi, vs = [.ref a, .int lo, .int hi] ∧ SqT K H a xs ∧ xs.length ≤ 20000 ∧ (∀ x ∈ xs, smallV x = true) ∧ ∀ H', Same H H' → Q (.bl (itemsB xs lo hi)) H'
theorem ok_is_items (T : Txt K mg) : FnOk P w K mg base CX0 4 T.is_items.f T.is_items.fd ["thing", "least", "most"] (sp_is_items K) := by
  refine T.is_items.F.ok sc_is_items (fun vs H Q E h => ?_) (fun cdv A outer s H vs Q E hr h => ?_)
  · obtain ⟨a, xs, lo, hi, rfl, _⟩ := h
    rfl
  · obtain ⟨a, xs, lo, hi, rfl, hS, hl, hx, k⟩ := h
    refine ⟨_, (pss_one (ps_ret (pe_and (pe_callB (cIsi (K := K)) (by rfl) T.z_isinstance (by decide +kernel) (pa_cons (pv 0) (pa_cons (pe_bltn (v := .ty "tuple") (by rfl) T.z_tuple (by decide +kernel) rfl) pa_nil))) (pe_and (pe_chain op_le op_le (pv 1) (pe_callB (cLen (K := K)) (by rfl) T.z_len PySem.boot_len (pa_cons (pv 0) pa_nil)) (pv 2)) (pe_one (pe_callB (cAll (K := K) rfl) (by rfl) T.z_all (by decide +kernel) (pa_cons (pe_lc (own := [("item", 3)]) rfl sc_is_items.nd (piT (K := K) (pv 0)) (blkOk_by (N := n_is_items) (sc := defScope s_is_items) (by decide +kernel)) (fun _ _ _ _ _ => (pg_name (i := 3) sc_is_items.nd rfl (Or.inl rfl))) (fun _ _ _ _ _ => pts_nil) (fun _ _ _ _ _ => (pe_call (ok_is_item T) (hr.mono (by decide)) (by rfl) T.is_item.g T.is_item.F.kp T.is_item.b .nil pass0 (pa_cons (pv 3) pa_nil)))) pa_nil))))))), ?_⟩
    walk_at "go"
    unfold itemsB at k
    refine i_d (fun q1 => ?_) (fun q1 => ?_)
    · rw [decide_eq_true q1, Bool.true_and] at k
      walk_at "go"
      refine i_d (fun q2 => ?_) (fun q2 => ?_)
      · rw [decide_eq_true q2, Bool.true_and] at k
        walk_at "go"
        refine i_tup hS ?_
        refine c_tup (xs := xs) (fun i acc H1 => Same H H1 ∧ acc = ((xs.take i).map itemB).map V.bl) (fun D hD => ⟨upd_free (Same.refl _) hD, rfl⟩) (fun i acc H1 hi p => st_ p.1 hS) (fun acc D H1 hD hp p => ?_) (fun _ => rfl) (fun i x acc H1 D hx1 hD hp p => ?_)
        · obtain ⟨p1, rfl⟩ := p
          walk_at "go"
          refine e_allB hp ?_
          rw [List.take_length, List.all_map]
          exact k _ p1
        · obtain ⟨p1, rfl⟩ := p
          have hi : i < xs.length := (List.getElem?_eq_some_iff.mp hx1).1
          walk_at "go"
          refine ⟨x, rfl, hx x (List.mem_of_getElem? hx1), ?_⟩
          refine ⟨_, hp, lt_size (by simp; omega), _, upd_same, upd_free p1 hD, ?_⟩
          rw [List.take_add_one, hx1, List.map_append, List.map_append]; rfl
      · rw [decide_eq_false q2] at k
        simp only [Bool.false_and] at k
        walk_at "go"
        exact k _ (Same.refl _)
    · rw [decide_eq_false q1, Bool.false_and] at k
      walk_at "go"
      exact k _ (Same.refl _)
end
end Vw

set_option Elab.async false
set_option linter.all false
set_option maxRecDepth 100000
set_option maxHeartbeats 4000000
namespace Vw
open PySem PySem.Spec PyProof.Rows L2 RT
local macro_rules | `(tactic| walk_at "s") => `(tactic| with_reducible first
  | refine' s_seq ?_ | refine' s_next ?_ | refine' s_set ?_ | refine' s_ret ?_ | refine' s_retN ?_ | refine' s_drop ?_ | refine' s_if ?_ | refine' s_ipI ?_
  | refine' e_c ?_ | refine' e_op ?_ | refine' e_un ?_ | refine' e_neg ?_ | refine' e_test ?_ | refine' e_tB ?_ | refine' e_bl ?_ | refine' e_and ?_ | refine' e_or ?_ | refine' e_not ?_
  | refine' e_andV ?_ | refine' e_orV ?_ | refine' e_notV ?_ | refine' e_kV ?_ | refine' e_ife ?_ | refine' e_nil ?_ | refine' e_cons ?_ | refine' e_cb ?_ | refine' e_call ?_ | refine' e_chain ?_
  | refine' o_addI ?_ | refine' o_eqI ?_ | refine' o_neI ?_ | refine' o_I0 ?_ | refine' o_pow16 ?_ | refine' o_pow17 ?_ | refine' o_pow18 ?_ | refine' o_pow19 ?_ | refine' o_pow30 ?_ | refine' o_pow31 ?_ | refine' o_pow1 ?_ | refine' o_pow2 ?_ | refine' o_pow3 ?_ | refine' o_pow4 ?_ | refine' o_pow5 ?_ | refine' o_pow6 ?_ | refine' o_pow9 ?_ | refine' o_pow10 ?_ | refine' o_pow12 ?_ | refine' o_pow15 ?_ | refine' o_pow20 ?_ | refine' e_lst ?_ | refine' e_tup ?_ | refine' iteT ?_ | refine' i_nt ?_ | refine' i_nf ?_ | refine' iteF ?_ | refine' c_int ?_ | refine' c_abs ?_ | refine' c_min2 ?_ | refine' c_max2 ?_ | refine' e_tru ?_ | refine' t_bl ?_ | refine' t_non ?_ | refine' t_int ?_ | refine' isN_non ?_ | refine' isN_int ?_ | refine' isN_ref ?_ | refine' isN_str ?_ | refine' isN_bl ?_ | refine' noN_non ?_ | refine' noN_int ?_ | refine' noN_ref ?_ | refine' noN_str ?_ | refine' noN_bl ?_
  | refine' s_brk ?_ | refine' s_cont ?_ | refine' s_for ?_ | refine' e_lc ?_ | refine' e_dc ?_ | refine' e_yes ?_ | refine' i_rng1 ?_ | refine' i_lst0 ?_ | refine' i_tup0 ?_ | refine' e_bm ?_ | refine' e_sl ?_ | refine' e_np ?_ | refine' e_pt ?_ | refine' e_ptI ?_ | refine' e_din ?_ | refine' e_dnin ?_ | refine' e_methE ?_ | refine' p_cons ?_ | refine' p_nil ?_ | refine' s_dput ?_ | refine' e_dget2 ?_ | refine' e_dpop1 ?_ | refine' i_enum0 ?_ | refine' i_rev0 ?_ | refine' g_sub ?_ | refine' s_asg ?_ | refine' i_zip0 ?_ | refine' e_revT ?_ | refine' isB_bl ?_ | refine' notB_bl ?_ | refine' o_neB ?_ | refine' i_nrr ?_ | refine' e_meth ?_ | refine' s_setf ?_ | refine' e_fld ?_ | refine' e_bm0 ?_ | refine' r_tx ?_ | refine' o_eqStr ?_ | refine' o_neStr ?_)
local macro_rules | `(tactic| walk_at "v") => `(tactic| ((with_reducible refine' e_var ?hv ?_); (case hv => exact rfl)))
local macro_rules | `(tactic| walk_at "a") => `(tactic| ((with_reducible refine' s_aug ?hv ?_); (case hv => exact rfl)))
local macro_rules | `(tactic| walk_at "m") => `(tactic| first
  | ((with_reducible refine' o_mod ?hv ?_); (case hv => first | decide | omega))
  | ((with_reducible refine' o_mulR ?hv ?_); (case hv => omega))
  | ((with_reducible refine' o_mulL ?hv ?_); (case hv => omega))
  | ((with_reducible refine' o_div ?hv ?hw ?_); (case hv => omega); (case hw => omega))
  | ((with_reducible refine' o_pow _ ?hv ?hw ?hx ?_); (case hv => exact rfl); (case hw => decide); (case hx => decide)))
local macro_rules | `(tactic| walk_at "i") => `(tactic| (first
  | ((with_reducible refine' isi_int true ?hv ?_); (case hv => exact (by decide +kernel)))
  | ((with_reducible refine' isi_int false ?hv ?_); (case hv => exact (by decide +kernel)))
  | ((with_reducible refine' isi_non true ?hv ?_); (case hv => exact (by decide +kernel)))
  | ((with_reducible refine' isi_non false ?hv ?_); (case hv => exact (by decide +kernel)))
  | ((with_reducible refine' isi_str true ?hv ?_); (case hv => exact (by decide +kernel)))
  | ((with_reducible refine' isi_str false ?hv ?_); (case hv => exact (by decide +kernel)))
  | ((with_reducible refine' isi_bl true ?hv ?_); (case hv => exact (by decide +kernel)))
  | ((with_reducible refine' isi_bl false ?hv ?_); (case hv => exact (by decide +kernel)))
  | ((with_reducible refine' isi_t true ?hw ?hv ?_); (case hw => assumption); (case hv => exact (by decide +kernel)))
  | ((with_reducible refine' isi_t false ?hw ?hv ?_); (case hw => assumption); (case hv => exact (by decide +kernel)))
  | ((with_reducible refine' isi_l true ?hw ?hv ?_); (case hw => assumption); (case hv => exact (by decide +kernel)))
  | ((with_reducible refine' isi_l false ?hw ?hv ?_); (case hw => assumption); (case hv => exact (by decide +kernel)))
  | ((with_reducible refine' isi_tup true ?hw ?hv ?_); (case hw => assumption); (case hv => exact (by decide +kernel)))
  | ((with_reducible refine' isi_tup false ?hw ?hv ?_); (case hw => assumption); (case hv => exact (by decide +kernel)))
  | ((with_reducible refine' isi_lst true ?hw ?hv ?_); (case hw => assumption); (case hv => exact (by decide +kernel)))
  | ((with_reducible refine' isi_lst false ?hw ?hv ?_); (case hw => assumption); (case hv => exact (by decide +kernel)))))
local macro_rules | `(tactic| walk_at "om") => `(tactic| first | omega | (simp only [List.length_cons, List.length_nil, List.length_map, List.length_append, List.length_range]; omega))
local macro_rules | `(tactic| walk_at "d") => `(tactic| (first
  | ((with_reducible refine' i_dt ?hv ?_); (case hv => walk_at "om"))
  | ((with_reducible refine' i_df ?hv ?_); (case hv => walk_at "om"))
  | ((with_reducible refine' i_ndt ?hv ?_); (case hv => walk_at "om"))
  | ((with_reducible refine' i_ndf ?hv ?_); (case hv => walk_at "om"))))
local macro_rules | `(tactic| walk_at "x") => `(tactic| first
  | ((with_reducible refine' o_ixA ?hv ?hw ?_); (case hv => assumption); (case hw => exact rfl))
  | ((with_reducible refine' o_ixU ?hv ?hw ?_); (case hv => assumption); (case hw => exact rfl))
  | ((with_reducible refine' o_ixL ?hv ?hw ?_); (case hv => assumption); (case hw => exact rfl))
  | ((with_reducible refine' o_ixT ?hv ?hw ?_); (case hv => assumption); (case hw => exact rfl))
  | ((with_reducible refine' set_ ?hv ?hw ?_); (case hv => assumption); (case hw => exact rfl))
  | ((with_reducible refine' e_lenM ?hv ?_); (case hv => first | assumption | exact slO (by assumption)))
  | ((with_reducible refine' e_lenN ?hv ?_); (case hv => first | assumption | exact stO (by assumption)))
  | ((with_reducible refine' e_lenL ?hv ?_); (case hv => first | assumption | exact slO (by assumption)))
  | ((with_reducible refine' e_lenT ?hv ?_); (case hv => first | assumption | exact stO (by assumption))))
local macro_rules | `(tactic| walk_at "c") => `(tactic| first
  | ((with_reducible refine' c_listL ?hv ?_); (case hv => assumption))
  | ((with_reducible refine' c_listT ?hv ?_); (case hv => assumption))
  | ((with_reducible refine' c_tupL ?hv ?_); (case hv => first | assumption | exact slO (by assumption)))
  | ((with_reducible refine' c_tupT ?hv ?_); (case hv => assumption))
  | ((with_reducible refine' t_lst ?hv ?_); (case hv => first | assumption | exact slO (by assumption)))
  | ((with_reducible refine' t_tup ?hv ?_); (case hv => assumption))
  | ((with_reducible refine' r_sl ?hv ?_); (case hv => first | assumption | exact slO (by assumption)))
  | ((with_reducible refine' o_inL ?hv ?_); (case hv => first | assumption | exact slO (by assumption)))
  | ((with_reducible refine' o_inT ?hv ?_); (case hv => first | assumption | exact stO (by assumption)))
  | ((with_reducible refine' o_niL ?hv ?_); (case hv => first | assumption | exact slO (by assumption)))
  | ((with_reducible refine' o_niT ?hv ?_); (case hv => first | assumption | exact stO (by assumption)))
  | ((with_reducible refine' ty_lst ?hv ?_); (case hv => assumption)))
local macro_rules | `(tactic| walk_at "mo") => `(tactic| repeat' (first | exact m_yes | exact m_var | exact m_c | exact m_I0 | exact m_I | exact m_ix | exact m_add | exact m_in | exact m_int1 | exact m_abs | exact m_nil | refine' m_and ?_ ?_ | refine' m_test ?_ | refine' m_tB ?_ | refine' m_op ?_ ?_ ?_ | refine' m_cons ?_ ?_ | refine' m_cb ?_ ?_))
local macro_rules | `(tactic| walk_at "go") => `(tactic| repeat' (first | walk_at "s" | walk_at "v" | walk_at "a" | walk_at "x" | walk_at "m" | walk_at "c" | walk_at "i" | walk_at "d"))

section
variable {P : Program} {w : World} {K : PySem.W.Frag} {mg : Str → Option Value} {base : Heap}
/-! ### the hand that draws -/
/-- its list, the list of cells, the cells -/
structure Bg where
  hd : Addr
  g : Addr
  ns : List Int
def BagAt (K : PySem.W.Frag) (H : Hp) (B : Bg) : Prop := ∃ i big mix c : Int, H B.hd = some (.lst [.ref B.g, .int i, .int big, .int mix, .int c]) ∧ SqL K H B.g (B.ns.map V.int) ∧ B.g ≠ B.hd ∧ B.ns.length ≤ 63 ∧ (∀ z ∈ B.ns, 0 ≤ z) ∧ 0 ≤ i ∧ 0 ≤ big ∧ 0 ≤ mix ∧ mix < 2147483648 ∧ 0 ≤ c
structure Hs (K : PySem.W.Frag) (B : Bg) (H H' : Hp) : Prop where
  o : Oth B.hd H H'
  b : BagAt K H' B
theorem Hs.trans {B : Bg} {H H1 H2 : Hp} (a : Hs K B H H1) (b : Hs K B H1 H2) : Hs K B H H2 := ⟨a.o.trans b.o, b.b⟩
theorem bag_same {B : Bg} {H H' : Hp} (b : BagAt K H B) (s : Same H H') : BagAt K H' B := by
  obtain ⟨i, big, x, c, h1, h2, h3⟩ := b
  exact ⟨i, big, x, c, s _ _ h1, sl_ s h2, h3⟩
theorem Hs.of {B : Bg} {H H' : Hp} (b : BagAt K H B) (s : Same H H') : Hs K B H H' := ⟨fun c o _ h => s c o h, bag_same b s⟩
theorem Hs.sl {B : Bg} {a : Addr} {H H' : Hp} {xs : List V} (h : Hs K B H H') (n : a ≠ B.hd) (s : SqL K H a xs) : SqL K H' a xs := oth_sl h.o n s
theorem bag_lst {B : Bg} {H : Hp} (b : BagAt K H B) : ∃ xs, H B.hd = some (.lst xs) := by
  obtain ⟨i, big, x, c, h1, h2, h3⟩ := b
  exact ⟨_, h1⟩
theorem Hs.st {B : Bg} {a : Addr} {H H' : Hp} {xs : List V} (h : Hs K B H H') (b : BagAt K H B) (s : SqT K H a xs) : SqT K H' a xs := by
  obtain ⟨ys, q⟩ := bag_lst b
  exact oth_st h.o q s
theorem Hs.ls {B : Bg} {a : Addr} {H H' : Hp} {xs : List V} (h : Hs K B H H') (n : a ≠ B.hd) (s : H a = some (.lst xs)) : H' a = some (.lst xs) := h.o _ _ n s
theorem new_ne {B : Bg} {p : Addr} {H : Hp} (b : BagAt K H B) (n : H p = none) : p ≠ B.hd := by
  obtain ⟨xs, h⟩ := bag_lst b
  exact (ne_of_none h n).symm
theorem Hs.free {B : Bg} {p : Addr} {H H' : Hp} (h : Hs K B H H') (n : H' p = none) : H p = none := by
  cases e : H p with
  | none => rfl
  | some o =>
    by_cases z : p = B.hd
    · obtain ⟨xs, q⟩ := bag_lst h.b
      rw [← z, n] at q; cases q
    · rw [h.o p o z e] at n; cases n
/-- an object of one's own, not there at H, may change -/
theorem Hs.mut {B : Bg} {f : Addr} {H H3 H4 : Hp} (h : Hs K B H H3) (b : BagAt K H B) (n : H f = none) (o : Oth f H3 H4) : Hs K B H H4 := by
  refine ⟨fun c u nc z => o c u (ne_of_none z n) (h.o c u nc z), ?_⟩
  obtain ⟨i, big, x, c, h1, h2, h3⟩ := b
  obtain ⟨i', big', x', c', g1, g2, g3⟩ := h.b
  refine ⟨i', big', x', c', o _ _ (ne_of_none h1 n) g1, ?_, g3⟩
  rcases h2 with (s | ⟨u, s⟩) | s
  · exact oth_sl o (ne_of_none s n) g2
  · exact oth_sl o (ne_of_none s n) g2
  · exact .inr s
def sp_hand (K : PySem.W.Frag) : Sp := fun vs H Q _ => ∃ a, ∃ ns : List Int, vs = [.ref a] ∧ SqL K H a (ns.map V.int) ∧ ns.length ≤ 63 ∧ ∀ (B : Bg) H', H B.hd = none → Same H H' → BagAt K H' B → Q (.ref B.hd) H'
theorem ok_law_hand (T : Txt K mg) : FnOk P w K mg base CX0 1 T.law_hand.f T.law_hand.fd ["script"] (sp_hand K) := by
  refine T.law_hand.F.ok sc_law_hand (fun vs H Q E h => ?_) (fun cdv A outer s H vs Q E hr h => ?_)
  · obtain ⟨a, ns, rfl, _⟩ := h
    rfl
  · obtain ⟨a, ns, rfl, hS, hl, k⟩ := h
    refine ⟨_, (pss_cons (ps_setLc (i := 1) (own := [("cell", 2)]) rfl sc_law_hand.nd rfl rfl (sw_true rfl rfl rfl (by decide +kernel)) (piL (K := K) (pe_slice (slL (K := K)) (pv 0) po_none (po_some pe_int))) (blkOk_by (N := n_law_hand) (sc := defScope s_law_hand) (by decide +kernel)) (fun _ _ _ _ _ => (pg_name (i := 2) sc_law_hand.nd rfl (Or.inl rfl))) (fun _ _ _ _ _ => pts_nil) (fun _ _ _ _ _ => (pe_callB cAbs (by rfl) T.z_abs (by decide +kernel) (pa_cons (pe_callTy cInt (by rfl) T.z_int (by decide +kernel) (pa_cons (pv 2) pa_nil)) pa_nil))))
    (pss_one (ps_ret (pe_lst (pa_cons (pv 1) (pa_cons pe_int (pa_cons pe_int (pa_cons (pe_op oAdd pe_int (pe_callB (cLen (K := K)) (by rfl) T.z_len PySem.boot_len (pa_cons (pv 1) pa_nil))) (pa_cons pe_int pa_nil))))))))), ?_⟩
    walk_at "go"
    refine n_new0 fun p1 H1 n1 s1 h1 => ?_
    obtain ⟨ms, e1, e2, _⟩ := cut_map (f := V.int) ns none (some 63)
    rw [e1] at h1
    refine i_lst (slO h1) ?_
    refine c_lst (xs := ms.map V.int) (fun i acc H' => Same H1 H' ∧ acc = ((ms.take i).map fun z => if z < 0 then -z else z).map V.int) (fun D hD => ⟨upd_free (Same.refl _) hD, rfl⟩) (fun i acc H' hi p => slO (at_ p.1 h1)) (fun acc D H2 hD hp p => ?_) (fun _ => rfl) (fun i x acc H' D hx hD hp p => ?_)
    · obtain ⟨s2, rfl⟩ := p
      rw [List.length_map, List.take_length] at hp
      walk_at "go"
      refine n_new (le_size (by simp)) fun p3 H3 n3 s3 h3 => ?_
      have ss := s1.trans s2
      rw [List.length_map] at h3
      refine k ⟨p3, D, ms.map fun z => if z < 0 then -z else z⟩ H3 (free_ ss n3) (ss.trans s3) ⟨0, 0, 1 + (ms.length : Nat), 0, h3, slO (at_ s3 hp), ne_new hp n3, by show (List.map _ ms).length ≤ 63; rw [List.length_map]; omega, fun z hz => ?_, by omega, by omega, by omega, by omega, by omega⟩
      obtain ⟨y, _, e⟩ := List.mem_map.mp hz
      rw [← e]; split <;> omega
    · obtain ⟨s2, rfl⟩ := p
      have hi : i < ms.length := by
        have := (List.getElem?_eq_some_iff.mp hx).1
        simpa using this
      have ex : x = .int ms[i] := by
        rw [List.getElem?_map, List.getElem?_eq_getElem hi] at hx
        exact (Option.some.inj hx).symm
      subst ex
      walk_at "go"
      refine ⟨_, hp, lt_size (by simp; omega), _, upd_same, upd_free s2 hD, ?_⟩
      rw [List.take_add_one, List.getElem?_eq_getElem hi, List.map_append, List.map_append]; rfl
def sp_draw (K : PySem.W.Frag) : Sp := fun vs H Q _ => ∃ (B : Bg) (m : Int), vs = [.ref B.hd, .int m] ∧ BagAt K H B ∧ 0 < m ∧ m < 2 ^ 100 ∧ ∀ r H', 0 ≤ r → r < m → Hs K B H H' → Q (.int r) H'
theorem ok_law_draw (T : Txt K mg) : FnOk P w K mg base CX0 1 T.law_draw.f T.law_draw.fd ["hand", "many"] (sp_draw K) := by
  refine T.law_draw.F.ok sc_law_draw (fun vs H Q E h => ?_) (fun cdv A outer s H vs Q E hr h => ?_)
  · obtain ⟨a, b, rfl, _⟩ := h
    rfl
  · obtain ⟨⟨hd, g, ns⟩, m, rfl, ⟨i, big, mix, c, h1, h2, h3, h4, hn, h5, h6, h7, h8, h9⟩, hm, hM, k⟩ := h
    dsimp only at h1 h2 h3 h4 hn k ⊢
    refine ⟨_, (Evl.pss_cut (ps_if (PW.pt (pw_and (pt_cmpR (oEq (K := K) hr.units) (pe_ix (ixLT (K := K)) (pv 0) pe_int (fun _ _ => rfl)) pe_int (nomark _)) (pw_and1 (pt_cmpR oLt (pe_ix (ixLT (K := K)) (pv 0) pe_int (fun _ _ => rfl)) (pe_callB (cLen (K := K)) (by rfl) T.z_len PySem.boot_len (pa_cons (pe_ix (ixLT (K := K)) (pv 0) pe_int (fun _ _ => rfl)) pa_nil)) (nomark _))))) (pss_cons (ps_set (i := 2) sc_law_draw.nd rfl (Or.inl rfl) (pe_ix (ixLT (K := K)) (pe_ix (ixLT (K := K)) (pv 0) pe_int (fun _ _ => rfl)) (pe_ix (ixLT (K := K)) (pv 0) pe_int (fun _ _ => rfl)) (fun _ _ => rfl)))
    (pss_cons (ps_asg (pe_op oAdd (pe_ix (ixLT (K := K)) (pv 0) pe_int (fun _ _ => rfl)) pe_int) (pg_sub (pv 0) pe_int set_list))
    (pss_cons (ps_asg (pe_op op_mod (pe_callTy cInt (by rfl) T.z_int (by decide +kernel) (pa_cons (pe_op oAdd (pe_op oAdd (pe_op oMul (pe_ix (ixLT (K := K)) (pv 0) pe_int (fun _ _ => rfl)) pe_int) (pv 2)) pe_int) pa_nil)) pe_int) (pg_sub (pv 0) pe_int set_list))
    (pss_one (ps_if (pt_cmpR op_ge (pv 2) (pe_op op_pow pe_int pe_int) (nomark _)) (pss_one (ps_asg (pv 2) (pg_sub (pv 0) pe_int set_list))) pss_nil))))) pss_nil)
    (pss_cons (ps_if (pt_cmpR op_gt (pe_ix (ixLT (K := K)) (pv 0) pe_int (fun _ _ => rfl)) pe_int (nomark _)) (pss_cons (ps_set (i := 3) sc_law_draw.nd rfl (Or.inl rfl) (pe_op op_mod (pe_callTy cInt (by rfl) T.z_int (by decide +kernel) (pa_cons (pe_ix (ixLT (K := K)) (pv 0) pe_int (fun _ _ => rfl)) pa_nil)) (pv 1)))
    (pss_cons (ps_asg (pe_op op_fdivW (pe_ix (ixLT (K := K)) (pv 0) pe_int (fun _ _ => rfl)) (pv 1)) (pg_sub (pv 0) pe_int set_list))
    (pss_one (ps_ret (pv 3))))) pss_nil)
    (pss_cons (ps_asg (pe_op oAdd (pe_ix (ixLT (K := K)) (pv 0) pe_int (fun _ _ => rfl)) pe_int) (pg_sub (pv 0) pe_int set_list))
    (pss_cons (ps_set (i := 4) sc_law_draw.nd rfl (Or.inl rfl) (pe_op op_mod (pe_callTy cInt (by rfl) T.z_int (by decide +kernel) (pa_cons (pe_op oMul (pe_callTy cInt (by rfl) T.z_int (by decide +kernel) (pa_cons (pe_op oAdd (pe_ix (ixLT (K := K)) (pv 0) pe_int (fun _ _ => rfl)) (pe_op oMul pe_int (pe_ix (ixLT (K := K)) (pv 0) pe_int (fun _ _ => rfl)))) pa_nil)) pe_int) pa_nil)) pe_int))
    (pss_cons (ps_set (i := 4) sc_law_draw.nd rfl (Or.inl rfl) (pe_op op_mod (pe_callTy cInt (by rfl) T.z_int (by decide +kernel) (pa_cons (pe_op oMul (pv 4) (pe_op oAdd (pe_op op_fdivW (pv 4) pe_int) pe_int)) pa_nil)) pe_int))
    (pss_cons (ps_set (i := 4) sc_law_draw.nd rfl (Or.inl rfl) (pe_op op_mod (pe_callTy cInt (by rfl) T.z_int (by decide +kernel) (pa_cons (pe_op oMul (pv 4) (pe_op oAdd (pe_op op_fdivW (pv 4) pe_int) pe_int)) pa_nil)) pe_int))
    (pss_one (ps_ret (pe_op op_mod (pe_callTy cInt (by rfl) T.z_int (by decide +kernel) (pa_cons (pe_op op_fdivW (pv 4) pe_int) pa_nil)) (pv 1)))))))))), ?_⟩
    walk_at "go"
    refine s_cut (fun σ2 H2 => Oth hd H H2 ∧ ∃ i' big' mix' : Int, ∃ y2, σ2 = [some (.ref hd), some (.int m), y2, none, none] ∧ H2 hd = some (.lst [.ref g, .int i', .int big', .int mix', .int c]) ∧ 0 ≤ i' ∧ 0 ≤ big' ∧ 0 ≤ mix' ∧ mix' < 2147483648) ?_ ?_
    · walk_at "go"
      have self : Oth hd H H := fun _ _ _ z => z
      refine i_d (fun q1 => ?_) (fun q1 => ?_)
      · walk_at "go"
        refine i_d (fun q2 => ?_) (fun q2 => ?_)
        · walk_at "go"
          have hj : i.toNat < ns.length := by omega
          refine o_ixL h2 (atI_map i.toNat (by omega) hj) ?_
          have c0 := hn _ (getD_mem hj)
          generalize ns.getD i.toNat 0 = cell at *
          walk_at "go"
          intro H1 o1 e1
          walk_at "go"
          intro H2 o2 e2
          have m0 : 0 ≤ (mix * 69621 + cell + 11) % 2147483629 := Int.emod_nonneg _ (by omega)
          have m1 : (mix * 69621 + cell + 11) % 2147483629 < 2147483629 := Int.emod_lt_of_pos _ (by omega)
          generalize (mix * 69621 + cell + 11) % 2147483629 = mix2 at *
          walk_at "go"
          refine i_d (fun q3 => ?_) (fun q3 => ?_)
          · walk_at "go"
            intro H3 o3 e3
            exact ⟨o1.trans (o2.trans o3), i + 1, cell, mix2, _, rfl, e3, by omega, by omega, by omega, by omega⟩
          · walk_at "go"
            exact ⟨o1.trans o2, i + 1, big, mix2, _, rfl, e2, by omega, by omega, by omega, by omega⟩
        · walk_at "go"
          exact ⟨self, i, big, mix, none, rfl, h1, h5, h6, h7, h8⟩
      · walk_at "go"
        exact ⟨self, i, big, mix, none, rfl, h1, h5, h6, h7, h8⟩
    · rintro σ2 H2 ⟨o1, i', big', mix', y2, rfl, e1, g5, g6, g7, g8⟩
      have g1 : SqL K H2 g (ns.map V.int) := oth_sl o1 h3 h2
      clear h1 h5 h6 h7 h8
      walk_at "go"
      refine i_d (fun q1 => ?_) (fun q1 => ?_)
      · walk_at "go"
        intro H3 o3 e3
        walk_at "go"
        exact k _ _ (Int.emod_nonneg _ (by omega)) (Int.emod_lt_of_pos _ hm) ⟨o1.trans o3, i', big' / m, mix', c, e3, oth_sl o3 h3 g1, h3, h4, hn, g5, Int.ediv_nonneg g6 (by omega), g7, g8, h9⟩
      · walk_at "go"
        intro H3 o3 e3
        walk_at "go"
        exact k _ _ (Int.emod_nonneg _ (by omega)) (Int.emod_lt_of_pos _ hm) ⟨o1.trans o3, i', big', mix', c + 1, e3, oth_sl o3 h3 g1, h3, h4, hn, g5, g6, g7, g8, by omega⟩
end
end Vw

set_option Elab.async false
set_option linter.all false
set_option maxRecDepth 100000
set_option maxHeartbeats 4000000
namespace Vw
open PySem PySem.Spec PyProof.Rows L2 RT
local macro_rules | `(tactic| walk_at "s") => `(tactic| with_reducible first
  | refine' s_seq ?_ | refine' s_next ?_ | refine' s_set ?_ | refine' s_ret ?_ | refine' s_retN ?_ | refine' s_drop ?_ | refine' s_if ?_ | refine' s_ipI ?_
  | refine' e_c ?_ | refine' e_op ?_ | refine' e_un ?_ | refine' e_neg ?_ | refine' e_test ?_ | refine' e_tB ?_ | refine' e_bl ?_ | refine' e_and ?_ | refine' e_or ?_ | refine' e_not ?_
  | refine' e_andV ?_ | refine' e_orV ?_ | refine' e_notV ?_ | refine' e_kV ?_ | refine' e_ife ?_ | refine' e_nil ?_ | refine' e_cons ?_ | refine' e_cb ?_ | refine' e_call ?_ | refine' e_chain ?_
  | refine' o_addI ?_ | refine' o_eqI ?_ | refine' o_neI ?_ | refine' o_I0 ?_ | refine' o_pow16 ?_ | refine' o_pow17 ?_ | refine' o_pow18 ?_ | refine' o_pow19 ?_ | refine' o_pow30 ?_ | refine' o_pow31 ?_ | refine' o_pow1 ?_ | refine' o_pow2 ?_ | refine' o_pow3 ?_ | refine' o_pow4 ?_ | refine' o_pow5 ?_ | refine' o_pow6 ?_ | refine' o_pow9 ?_ | refine' o_pow10 ?_ | refine' o_pow12 ?_ | refine' o_pow15 ?_ | refine' o_pow20 ?_ | refine' e_lst ?_ | refine' e_tup ?_ | refine' iteT ?_ | refine' i_nt ?_ | refine' i_nf ?_ | refine' iteF ?_ | refine' c_int ?_ | refine' c_abs ?_ | refine' c_min2 ?_ | refine' c_max2 ?_ | refine' e_tru ?_ | refine' t_bl ?_ | refine' t_non ?_ | refine' t_int ?_ | refine' isN_non ?_ | refine' isN_int ?_ | refine' isN_ref ?_ | refine' isN_str ?_ | refine' isN_bl ?_ | refine' noN_non ?_ | refine' noN_int ?_ | refine' noN_ref ?_ | refine' noN_str ?_ | refine' noN_bl ?_
  | refine' s_brk ?_ | refine' s_cont ?_ | refine' s_for ?_ | refine' e_lc ?_ | refine' e_dc ?_ | refine' e_yes ?_ | refine' i_rng1 ?_ | refine' i_lst0 ?_ | refine' i_tup0 ?_ | refine' e_bm ?_ | refine' e_sl ?_ | refine' e_np ?_ | refine' e_pt ?_ | refine' e_ptI ?_ | refine' e_din ?_ | refine' e_dnin ?_ | refine' e_methE ?_ | refine' p_cons ?_ | refine' p_nil ?_ | refine' s_dput ?_ | refine' e_dget2 ?_ | refine' e_dpop1 ?_ | refine' i_enum0 ?_ | refine' i_rev0 ?_ | refine' g_sub ?_ | refine' s_asg ?_ | refine' i_zip0 ?_ | refine' e_revT ?_ | refine' isB_bl ?_ | refine' notB_bl ?_ | refine' o_neB ?_ | refine' i_nrr ?_ | refine' e_meth ?_ | refine' s_setf ?_ | refine' e_fld ?_ | refine' e_bm0 ?_ | refine' r_tx ?_ | refine' o_eqStr ?_ | refine' o_neStr ?_)
local macro_rules | `(tactic| walk_at "v") => `(tactic| ((with_reducible refine' e_var ?hv ?_); (case hv => exact rfl)))
local macro_rules | `(tactic| walk_at "a") => `(tactic| ((with_reducible refine' s_aug ?hv ?_); (case hv => exact rfl)))
local macro_rules | `(tactic| walk_at "m") => `(tactic| first
  | ((with_reducible refine' o_mod ?hv ?_); (case hv => first | decide | omega))
  | ((with_reducible refine' o_mulR ?hv ?_); (case hv => omega))
  | ((with_reducible refine' o_mulL ?hv ?_); (case hv => omega))
  | ((with_reducible refine' o_div ?hv ?hw ?_); (case hv => omega); (case hw => omega))
  | ((with_reducible refine' o_pow _ ?hv ?hw ?hx ?_); (case hv => exact rfl); (case hw => decide); (case hx => decide)))
local macro_rules | `(tactic| walk_at "i") => `(tactic| (first
  | ((with_reducible refine' isi_int true ?hv ?_); (case hv => exact (by decide +kernel)))
  | ((with_reducible refine' isi_int false ?hv ?_); (case hv => exact (by decide +kernel)))
  | ((with_reducible refine' isi_non true ?hv ?_); (case hv => exact (by decide +kernel)))
  | ((with_reducible refine' isi_non false ?hv ?_); (case hv => exact (by decide +kernel)))
  | ((with_reducible refine' isi_str true ?hv ?_); (case hv => exact (by decide +kernel)))
  | ((with_reducible refine' isi_str false ?hv ?_); (case hv => exact (by decide +kernel)))
  | ((with_reducible refine' isi_bl true ?hv ?_); (case hv => exact (by decide +kernel)))
  | ((with_reducible refine' isi_bl false ?hv ?_); (case hv => exact (by decide +kernel)))
  | ((with_reducible refine' isi_t true ?hw ?hv ?_); (case hw => assumption); (case hv => exact (by decide +kernel)))
  | ((with_reducible refine' isi_t false ?hw ?hv ?_); (case hw => assumption); (case hv => exact (by decide +kernel)))
  | ((with_reducible refine' isi_l true ?hw ?hv ?_); (case hw => assumption); (case hv => exact (by decide +kernel)))
  | ((with_reducible refine' isi_l false ?hw ?hv ?_); (case hw => assumption); (case hv => exact (by decide +kernel)))
  | ((with_reducible refine' isi_tup true ?hw ?hv ?_); (case hw => assumption); (case hv => exact (by decide +kernel)))
  | ((with_reducible refine' isi_tup false ?hw ?hv ?_); (case hw => assumption); (case hv => exact (by decide +kernel)))
  | ((with_reducible refine' isi_lst true ?hw ?hv ?_); (case hw => assumption); (case hv => exact (by decide +kernel)))
  | ((with_reducible refine' isi_lst false ?hw ?hv ?_); (case hw => assumption); (case hv => exact (by decide +kernel)))))
local macro_rules | `(tactic| walk_at "om") => `(tactic| first | omega | (simp only [List.length_cons, List.length_nil, List.length_map, List.length_append, List.length_range]; omega))
local macro_rules | `(tactic| walk_at "d") => `(tactic| (first
  | ((with_reducible refine' i_dt ?hv ?_); (case hv => walk_at "om"))
  | ((with_reducible refine' i_df ?hv ?_); (case hv => walk_at "om"))
  | ((with_reducible refine' i_ndt ?hv ?_); (case hv => walk_at "om"))
  | ((with_reducible refine' i_ndf ?hv ?_); (case hv => walk_at "om"))))
local macro_rules | `(tactic| walk_at "x") => `(tactic| first
  | ((with_reducible refine' o_ixA ?hv ?hw ?_); (case hv => assumption); (case hw => exact rfl))
  | ((with_reducible refine' o_ixU ?hv ?hw ?_); (case hv => assumption); (case hw => exact rfl))
  | ((with_reducible refine' o_ixL ?hv ?hw ?_); (case hv => assumption); (case hw => exact rfl))
  | ((with_reducible refine' o_ixT ?hv ?hw ?_); (case hv => assumption); (case hw => exact rfl))
  | ((with_reducible refine' set_ ?hv ?hw ?_); (case hv => assumption); (case hw => exact rfl))
  | ((with_reducible refine' e_lenM ?hv ?_); (case hv => first | assumption | exact slO (by assumption)))
  | ((with_reducible refine' e_lenN ?hv ?_); (case hv => first | assumption | exact stO (by assumption)))
  | ((with_reducible refine' e_lenL ?hv ?_); (case hv => first | assumption | exact slO (by assumption)))
  | ((with_reducible refine' e_lenT ?hv ?_); (case hv => first | assumption | exact stO (by assumption))))
local macro_rules | `(tactic| walk_at "c") => `(tactic| first
  | ((with_reducible refine' c_listL ?hv ?_); (case hv => assumption))
  | ((with_reducible refine' c_listT ?hv ?_); (case hv => assumption))
  | ((with_reducible refine' c_tupL ?hv ?_); (case hv => first | assumption | exact slO (by assumption)))
  | ((with_reducible refine' c_tupT ?hv ?_); (case hv => assumption))
  | ((with_reducible refine' t_lst ?hv ?_); (case hv => first | assumption | exact slO (by assumption)))
  | ((with_reducible refine' t_tup ?hv ?_); (case hv => assumption))
  | ((with_reducible refine' r_sl ?hv ?_); (case hv => first | assumption | exact slO (by assumption)))
  | ((with_reducible refine' o_inL ?hv ?_); (case hv => first | assumption | exact slO (by assumption)))
  | ((with_reducible refine' o_inT ?hv ?_); (case hv => first | assumption | exact stO (by assumption)))
  | ((with_reducible refine' o_niL ?hv ?_); (case hv => first | assumption | exact slO (by assumption)))
  | ((with_reducible refine' o_niT ?hv ?_); (case hv => first | assumption | exact stO (by assumption)))
  | ((with_reducible refine' ty_lst ?hv ?_); (case hv => assumption)))
local macro_rules | `(tactic| walk_at "mo") => `(tactic| repeat' (first | exact m_yes | exact m_var | exact m_c | exact m_I0 | exact m_I | exact m_ix | exact m_add | exact m_in | exact m_int1 | exact m_abs | exact m_nil | refine' m_and ?_ ?_ | refine' m_test ?_ | refine' m_tB ?_ | refine' m_op ?_ ?_ ?_ | refine' m_cons ?_ ?_ | refine' m_cb ?_ ?_))
local macro_rules | `(tactic| walk_at "go") => `(tactic| repeat' (first | walk_at "s" | walk_at "v" | walk_at "a" | walk_at "x" | walk_at "m" | walk_at "c" | walk_at "i" | walk_at "d"))

section
variable {P : Program} {w : World} {K : PySem.W.Frag} {mg : Str → Option Value} {base : Heap}
/-! ### a disk's fields -/
def df (l w : Addr) (pw : V) (rc : Int) : List (Str × V) := [("_lies", .ref l), ("_waits", .ref w), ("_power", pw), ("_reached", .int rc)]
section
variable (l w : Addr) (pw v : V) (rc n : Int)
theorem df_l : (df l w pw rc).lookup ("_lies" : Str) = some (V.ref l) := rfl
theorem df_w : (df l w pw rc).lookup ("_waits" : Str) = some (V.ref w) := rfl
theorem df_p : (df l w pw rc).lookup ("_power" : Str) = some pw := rfl
theorem df_r : (df l w pw rc).lookup ("_reached" : Str) = some (V.int rc) := rfl
theorem df_pp : putF "_power" v (df l w pw rc) = df l w v rc := rfl
theorem df_pr : putF "_reached" (.int n) (df l w pw rc) = df l w pw n := rfl
theorem df_pw (w2 : Addr) : putF "_waits" (.ref w2) (df l w pw rc) = df l w2 pw rc := rfl
theorem df_new : putF "_reached" (.int rc) (putF "_power" pw (putF "_waits" (.ref w) (putF "_lies" (.ref l) []))) = df l w pw rc := rfl
theorem df_no {m : Str} (h : ((["_lies", "_waits", "_power", "_reached"] : List Str)).contains m = false) : (df l w pw rc).lookup m = none := by
  unfold df
  simp only [List.contains_cons, List.contains_nil, Bool.or_false, Bool.or_eq_false_iff] at h
  simp only [List.lookup, h.1, h.2.1, h.2.2.1, h.2.2.2]
end
abbrev pwV : Option Int → V
  | none => .non
  | some i => .int i
structure Dsk where
  l : Addr
  lies : List Addr
  w : Addr
  rows : List (Int × Addr × List Addr)
  pw : Option Int
  rc : Int
structure DiskAt (C : Addr) (H : Hp) (p : Addr) (D : Dsk) : Prop where
  ob : InsAt C H p (df D.l D.w (pwV D.pw) D.rc)
  hl : H D.l = some (.lst (D.lies.map V.ref))
  hw : H D.w = some (.dK (D.rows.map fun r => ((Sum.inl r.1 : Key), V.ref r.2.1)))
  hr : ∀ r ∈ D.rows, H r.2.1 = some (.lst (r.2.2.map V.ref)) ∧ r.2.2 ≠ []
  nd : (D.rows.map (·.2.1)).Nodup
  kd : (D.rows.map (·.1)).Nodup
  lr : D.l ∉ D.rows.map (·.2.1)
  few : D.lies.length ≤ 600
  kb : ∀ r ∈ D.rows, 0 ≤ r.1 ∧ r.1 < D.lies.length
/-- the places that a disk holds -/
def Dsk.foot (D : Dsk) (p : Addr) : List Addr := p :: D.l :: D.w :: D.rows.map (·.2.1)
/-- all but some places is as it was -/
def But (as : List Addr) (H H' : Hp) : Prop := ∀ b o, b ∉ as → H b = some o → H' b = some o
theorem ins_same {C p : Addr} {H H' : Hp} {fs : List (Str × V)} (s : Same H H') (h : InsAt C H p fs) : InsAt C H' p fs := h.elim fun dx h => ⟨dx, s _ _ h⟩
theorem DiskAt.same {C p : Addr} {H H' : Hp} {D : Dsk} (s : Same H H') (h : DiskAt C H p D) : DiskAt C H' p D :=
  ⟨ins_same s h.ob, s _ _ h.hl, s _ _ h.hw, fun r hr => ⟨s _ _ (h.hr r hr).1, (h.hr r hr).2⟩, h.nd, h.kd, h.lr, h.few, h.kb⟩
def sp_disk_blocks (C : Addr) : Sp := fun vs H Q _ => ∃ p D, vs = [.ref p] ∧ DiskAt C H p D ∧ Q (.int D.lies.length) H
theorem ok_Disk_blocks (T : Txt K mg) : FnOk P w K mg base CX0 1 T.m_Disk_blocks.f T.m_Disk_blocks.fd ["self"] ((sp_disk_blocks T.C_Disk)) := by
  refine T.m_Disk_blocks.F.ok sc_Disk_blocks (fun vs H Q E h => ?_) (fun cdv A outer s H vs Q E hr h => ?_)
  · obtain ⟨p, D, rfl, _⟩ := h
    rfl
  · obtain ⟨p, D, rfl, h, k⟩ := h
    refine ⟨_, (pss_one (ps_ret (pe_callB (cLen (K := K)) (by rfl) T.z_len PySem.boot_len (pa_cons (peFld (K := K) (pv 0) rfl) pa_nil)))), ?_⟩
    have hl := slO (K := K) h.hl
    walk_at "go"
    refine o_fld h.ob T.k_Disk.cl T.n_Disk__lies (df_l _ _ _ _) ?_
    walk_at "go"
    exact k
def sp_disk_need_block (C : Addr) : Sp := fun vs H Q _ => ∃ p D b, vs = [.ref p, .int b] ∧ DiskAt C H p D ∧ 0 ≤ b ∧ b < D.lies.length ∧ Q .non H
theorem ok_Disk__need_block (T : Txt K mg) : FnOk P w K mg base CX0 3 T.m_Disk__need_block.f T.m_Disk__need_block.fd ["self", "block"] ((sp_disk_need_block T.C_Disk)) := by
  refine T.m_Disk__need_block.F.ok sc_Disk__need_block (fun vs H Q E h => ?_) (fun cdv A outer s H vs Q E hr h => ?_)
  · obtain ⟨p, D, b, rfl, _⟩ := h
    rfl
  · obtain ⟨p, D, b, rfl, h, h0, h1, k⟩ := h
    refine ⟨_, (pss_one (ps_if (pt_not (ptTruth (K := K) (pe_call (ok_is_within T) (hr.mono (by decide)) (by rfl) T.is_within.g T.is_within.F.kp T.is_within.b .nil pass0 (pa_cons (pv 1) (pa_cons pe_int (pa_cons (pe_op op_sub (pe_callB (cLen (K := K)) (by rfl) T.z_len PySem.boot_len (pa_cons (peFld (K := K) (pv 0) rfl) pa_nil)) pe_int) pa_nil)))) (by intro _; rfl))) (pss_one ps_never) pss_nil)), ?_⟩
    have hl := slO (K := K) h.hl
    walk_at "go"
    refine o_fld h.ob T.k_Disk.cl T.n_Disk__lies (df_l _ _ _ _) ?_
    walk_at "go"
    refine ⟨_, _, _, rfl, rfl, ?_⟩
    have e : within (.int b) 0 ((D.lies.length : Int) - 1) = true := by simp [within, h0]; omega
    rw [e]
    walk_at "go"
    exact k
def sp_disk_lying (C : Addr) : Sp := fun vs H Q _ => ∃ p D b c, vs = [.ref p, .int b] ∧ DiskAt C H p D ∧ 0 ≤ b ∧ D.lies[b.toNat]? = some c ∧ Q (.ref c) H
theorem ok_Disk_lying (T : Txt K mg) : FnOk P w K mg base CX0 4 T.m_Disk_lying.f T.m_Disk_lying.fd ["self", "block"] ((sp_disk_lying T.C_Disk)) := by
  refine T.m_Disk_lying.F.ok sc_Disk_lying (fun vs H Q E h => ?_) (fun cdv A outer s H vs Q E hr h => ?_)
  · obtain ⟨p, D, b, c, rfl, _⟩ := h
    rfl
  · obtain ⟨p, D, b, c, rfl, h, h0, h1, k⟩ := h
    refine ⟨_, (pss_cons (ps_expr (pe_meth (pv 0) T.k_Disk.cl T.m_Disk__need_block.i (ok_Disk__need_block T) (hr.mono (by decide)) T.m_Disk__need_block.b .nil pass0 (pa_cons (pv 1) pa_nil)))
    (pss_one (ps_ret (pe_ix (ixLT (K := K)) (peFld (K := K) (pv 0) rfl) (pv 1) (fun _ _ => rfl))))), ?_⟩
    have hl := slO (K := K) h.hl
    have hb := (List.getElem?_eq_some_iff.mp h1).1
    walk_at "go"
    refine m_call0 h.ob (df_no _ _ _ _ (by decide +kernel)) ?_
    walk_at "go"
    refine ⟨p, D, b, rfl, h, h0, by omega, ?_⟩
    walk_at "go"
    refine o_fld h.ob T.k_Disk.cl T.n_Disk__lies (df_l _ _ _ _) ?_
    walk_at "go"
    refine o_ixL hl (atI_in (j := b.toNat) (by omega) (by rw [List.getElem?_map, h1]; rfl)) ?_
    walk_at "go"
    exact k
def sp_disk_power (C : Addr) : Sp := fun vs H Q _ => ∃ p D m, vs = [.ref p, pwV m] ∧ DiskAt C H p D ∧ (∀ i, m = some i → 0 ≤ i ∧ i ≤ 1000000) ∧ ∀ H', DiskAt C H' p { D with pw := m } → But [p] H H' → Q .non H'
theorem ok_Disk_power (T : Txt K mg) : FnOk P w K mg base CX0 3 T.m_Disk_power.f T.m_Disk_power.fd ["self", "many"] ((sp_disk_power T.C_Disk)) := by
  refine T.m_Disk_power.F.ok sc_Disk_power (fun vs H Q E h => ?_) (fun cdv A outer s H vs Q E hr h => ?_)
  · obtain ⟨p, D, m, rfl, _⟩ := h
    rfl
  · obtain ⟨p, D, m, rfl, h, hm, k⟩ := h
    refine ⟨_, (pss_cons (ps_if (PW.pt (pw_and (pt_cmpR oNotN (pv 1) pe_non (nomark _)) (pw_and1 (pt_not (ptTruth (K := K) (pe_call (ok_is_within T) (hr.mono (by decide)) (by rfl) T.is_within.g T.is_within.F.kp T.is_within.b .nil pass0 (pa_cons (pv 1) (pa_cons pe_int (pa_cons (pe_glob (by rfl) T.c_MOST_POWER.h T.c_MOST_POWER.r) pa_nil)))) (by intro _; rfl)))))) (pss_one ps_never) pss_nil)
    (pss_one (psFld (K := K) (pv 0) (pv 1) rfl))), ?_⟩
    have fin : ∀ σ, (∃ v, σ = L2.start n_Disk_power [.ref p, v]) → True := fun _ _ => trivial
    obtain ⟨dx, hob⟩ := h.ob
    have set1 : Q .non (upd H p (.ins T.C_Disk dx (df D.l D.w (pwV m) D.rc))) := by
      refine k _ ⟨⟨dx, upd_same⟩, ?_, ?_, fun r hr => ⟨?_, (h.hr r hr).2⟩, h.nd, h.kd, h.lr, h.few, h.kb⟩ fun b o hb e => by rw [upd_ne (fun z => hb (by rw [z]; exact List.mem_cons_self))]; exact e
      · show upd H p _ D.l = _
        rw [upd_ne (fun z => by have := h.hl; rw [z, hob] at this; cases this)]; exact h.hl
      · show upd H p _ D.w = _
        rw [upd_ne (fun z => by have := h.hw; rw [z, hob] at this; cases this)]; exact h.hw
      · rw [upd_ne (fun z => by have := (h.hr r hr).1; rw [z, hob] at this; cases this)]; exact (h.hr r hr).1
    cases m with
    | none =>
      walk_at "go"
      refine s_fld rfl hob T.k_Disk.cl T.n_Disk__power (by show 4 < 1000; decide) ?_
      rw [df_pp]
      exact set1
    | some i =>
      obtain ⟨i0, i1⟩ := hm i rfl
      walk_at "go"
      refine ⟨_, _, _, rfl, rfl, ?_⟩
      have e : within (.int i) 0 1000000 = true := by simp [within, i0, i1]
      rw [e]
      walk_at "go"
      refine s_fld rfl hob T.k_Disk.cl T.n_Disk__power (by show 4 < 1000; decide) ?_
      rw [df_pp]
      exact set1
/-- the row of a block -/
def Dsk.row (D : Dsk) (b : Int) : Option (Int × Addr × List Addr) := D.rows.find? fun r => decide (r.1 = b)
theorem val_row {rows : List (Int × Addr × List Addr)} {b : Int} : valV (rows.map fun r => ((Sum.inl r.1 : Key), V.ref r.2.1)) (Sum.inl b : Key) = (rows.find? fun r => decide (r.1 = b)).map fun r => V.ref r.2.1 := by
  unfold valV
  rw [List.find?_map, Option.map_map]
  have e : ((fun kv : Key × V => decide (kv.1 = (Sum.inl b : Key))) ∘ fun r : Int × Addr × List Addr => ((Sum.inl r.1 : Key), V.ref r.2.1)) = fun r => decide (r.1 = b) := by
    funext r
    show decide ((Sum.inl r.1 : Key) = Sum.inl b) = decide (r.1 = b)
    by_cases h : r.1 = b
    · rw [decide_eq_true h, h]; exact decide_eq_true rfl
    · rw [decide_eq_false h]; exact decide_eq_false fun z => h (Sum.inl.inj z)
  rw [e]; rfl
def Dsk.shows (D : Dsk) (b : Int) : Option Addr := match D.row b with
  | some r => r.2.2[r.2.2.length - 1]?
  | none => D.lies[b.toNat]?
def sp_disk_read (C : Addr) : Sp := fun vs H Q _ => ∃ p D b c, vs = [.ref p, .int b] ∧ DiskAt C H p D ∧ 0 ≤ b ∧ b < D.lies.length ∧ D.shows b = some c ∧ Q (.ref c) H
theorem ok_Disk_read (T : Txt K mg) : FnOk P w K mg base CX0 4 T.m_Disk_read.f T.m_Disk_read.fd ["self", "block"] ((sp_disk_read T.C_Disk)) := by
  refine T.m_Disk_read.F.ok sc_Disk_read (fun vs H Q E h => ?_) (fun cdv A outer s H vs Q E hr h => ?_)
  · obtain ⟨p, D, b, c, rfl, _⟩ := h
    rfl
  · obtain ⟨p, D, b, c, rfl, h, h0, hb, h1, k⟩ := h
    refine ⟨_, (pss_cons (ps_expr (pe_meth (pv 0) T.k_Disk.cl T.m_Disk__need_block.i (ok_Disk__need_block T) (hr.mono (by decide)) T.m_Disk__need_block.b .nil pass0 (pa_cons (pv 1) pa_nil)))
    (pss_cons (ps_if (pt_cmp (pc_din (hu_of hr) (pv 1) (peFld (K := K) (pv 0) rfl))) (pss_one (ps_ret (pe_ix (ixLT (K := K)) (pe_dget (hu_of hr) (peFld (K := K) (pv 0) rfl) (pv 1) (fun _ _ => rfl)) (pe_un un_neg pe_int) (fun _ _ => rfl)))) pss_nil)
    (pss_one (ps_ret (pe_ix (ixLT (K := K)) (peFld (K := K) (pv 0) rfl) (pv 1) (fun _ _ => rfl)))))), ?_⟩
    have hl := slO (K := K) h.hl
    walk_at "go"
    refine m_call0 h.ob (df_no _ _ _ _ (by decide +kernel)) ?_
    walk_at "go"
    refine ⟨p, D, b, rfl, h, h0, by omega, ?_⟩
    walk_at "go"
    refine o_fld h.ob T.k_Disk.cl T.n_Disk__waits (df_w _ _ _ _) ?_
    refine g_din (k := Sum.inl b) h.hw ?_
    unfold Dsk.shows at h1
    unfold Dsk.row at h1
    cases e : D.rows.find? fun r => decide (r.1 = b) with
    | none =>
      rw [e] at h1
      have h1 : D.lies[b.toNat]? = some c := h1
      rw [show (valV (D.rows.map fun r => ((Sum.inl r.1 : Key), V.ref r.2.1)) (Sum.inl b : Key)).isSome = false by rw [val_row, e]; rfl]
      walk_at "go"
      refine o_fld h.ob T.k_Disk.cl T.n_Disk__lies (df_l _ _ _ _) ?_
      walk_at "go"
      refine o_ixL hl (atI_in (j := b.toNat) (by omega) (by rw [List.getElem?_map, h1]; rfl)) ?_
      walk_at "go"
      exact k
    | some r =>
      rw [e] at h1
      have h1 : r.2.2[r.2.2.length - 1]? = some c := h1
      have hrow := h.hr r (List.mem_of_find?_eq_some e)
      rw [show (valV (D.rows.map fun r => ((Sum.inl r.1 : Key), V.ref r.2.1)) (Sum.inl b : Key)).isSome = true by rw [val_row, e]; rfl]
      walk_at "go"
      refine e_dget ?_
      walk_at "go"
      refine o_fld h.ob T.k_Disk.cl T.n_Disk__waits (df_w _ _ _ _) ?_
      walk_at "go"
      refine o_dget (k := Sum.inl b) h.hw (by rw [val_row, e]; rfl) ?_
      walk_at "go"
      have pos : 0 < r.2.2.length := List.length_pos_iff.mpr hrow.2
      refine o_ixL (slO hrow.1) (atI_neg (by rw [List.length_map]; exact pos) (by rw [List.length_map, List.getElem?_map, h1]; rfl)) ?_
      walk_at "go"
      exact k
def sp_disk_cut (C : Addr) : Sp := fun vs H Q _ => ∃ p D, vs = [.ref p] ∧ DiskAt C H p D ∧ ∀ w' H', H w' = none → DiskAt C H' p { D with w := w', rows := [], pw := none } → But [p] H H' → Q .non H'
theorem ok_Disk_cut (T : Txt K mg) : FnOk P w K mg base CX0 1 T.m_Disk_cut.f T.m_Disk_cut.fd ["self"] ((sp_disk_cut T.C_Disk)) := by
  refine T.m_Disk_cut.F.ok sc_Disk_cut (fun vs H Q E h => ?_) (fun cdv A outer s H vs Q E hr h => ?_)
  · obtain ⟨p, D, rfl, _⟩ := h
    rfl
  · obtain ⟨p, D, rfl, h, k⟩ := h
    refine ⟨_, (pss_cons (psFld (K := K) (pv 0) pe_dnewK rfl)
    (pss_one (psFld (K := K) (pv 0) pe_non rfl))), ?_⟩
    walk_at "go"
    refine e_dnew fun w' H1 n1 s1 h1 => ?_
    have g1 := h.same s1
    obtain ⟨dx, hob⟩ := g1.ob
    walk_at "go"
    refine s_fld rfl hob T.k_Disk.cl T.n_Disk__waits (by show 4 < 1000; decide) ?_
    rw [df_pw]
    walk_at "go"
    refine s_fld rfl upd_same T.k_Disk.cl T.n_Disk__power (by show 4 < 1000; decide) ?_
    rw [df_pp]
    have nw : w' ≠ p := fun z => by rw [z, hob] at h1; cases h1
    have oth : ∀ b, b ≠ p → ∀ fs fs', upd (upd H1 p fs) p fs' b = H1 b := fun b hb fs fs' => by rw [upd_ne hb, upd_ne hb]
    refine k w' _ n1 ⟨⟨dx, upd_same⟩, ?_, ?_, fun r hr => (nomatch hr), List.nodup_nil, List.nodup_nil, by simp, h.few, fun r hr => (nomatch hr)⟩ fun b o hb e => ?_
    · show upd _ p _ D.l = _
      rw [oth _ (fun z => by have := g1.hl; rw [z, hob] at this; cases this)]; exact g1.hl
    · show upd _ p _ w' = _
      rw [oth _ nw]; exact h1
    · rw [oth _ (fun z => hb (by rw [z]; exact List.mem_cons_self))]; exact s1 _ _ e
def sp_disk_init (K : PySem.W.Frag) (C : Addr) : Sp := fun vs H Q _ => ∃ p n, vs = [.ref p, .int n] ∧ InsAt C H p [] ∧ 16 ≤ n ∧ n ≤ 600 ∧ ∀ H' D, DiskAt C H' p D → (∀ a ∈ D.foot p, a = p ∨ H a = none) → D.lies.length = n.toNat → (∀ c ∈ D.lies, SqT K H' c []) → D.rows = [] → D.pw = none → D.rc = 0 → But [p] H H' → Q .non H'
theorem ok_Disk_init (T : Txt K mg) : FnOk P w K mg base CX0 3 T.m_Disk_init.f T.m_Disk_init.fd ["self", "blocks"] ((sp_disk_init K T.C_Disk)) := by
  refine T.m_Disk_init.F.ok sc_Disk_init (fun vs H Q E h => ?_) (fun cdv A outer s H vs Q E hr h => ?_)
  · obtain ⟨p, n, rfl, _⟩ := h
    rfl
  · obtain ⟨p, n, rfl, hp', h0, h1, k⟩ := h
    refine ⟨_, (pss_cons (ps_if (pt_not (ptTruth (K := K) (pe_call (ok_is_within T) (hr.mono (by decide)) (by rfl) T.is_within.g T.is_within.F.kp T.is_within.b .nil pass0 (pa_cons (pv 1) (pa_cons (pe_glob (by rfl) T.c_LEAST_BLOCKS.h T.c_LEAST_BLOCKS.r) (pa_cons (pe_glob (by rfl) T.c_MOST_BLOCKS.h T.c_MOST_BLOCKS.r) pa_nil)))) (by intro _; rfl))) (pss_one ps_never) pss_nil)
    (pss_cons (psFld (K := K) (pv 0) (pe_lc (own := [("_", 2)]) rfl sc_Disk_init.nd (pi_range1 (by rfl) T.z_range (pa_cons (pv 1) pa_nil)) (blkOk_by (N := n_Disk_init) (sc := defScope s_Disk_init) (by decide +kernel)) (fun _ _ _ _ _ => (pg_name (i := 2) sc_Disk_init.nd rfl (Or.inl rfl))) (fun _ _ _ _ _ => pts_nil) (fun _ _ _ _ _ => (pe_tup pa_nil))) rfl)
    (pss_cons (psFld (K := K) (pv 0) pe_dnewK rfl)
    (pss_cons (psFld (K := K) (pv 0) pe_non rfl)
    (pss_one (psFld (K := K) (pv 0) pe_int rfl)))))), ?_⟩
    walk_at "go"
    refine ⟨_, _, _, rfl, rfl, ?_⟩
    have e : within (.int n) 16 600 = true := by simp [within, h0, h1]
    rw [e]
    walk_at "go"
    refine i_rng n.toNat rfl (by omega) (by omega) ?_
    refine c_rng (fun i acc H1 => Same H H1 ∧ ∃ cs : List Addr, acc = cs.map V.ref ∧ cs.length = i ∧ ∀ c ∈ cs, SqT K H1 c []) (fun D hD => ⟨upd_free (Same.refl _) hD, [], rfl, rfl, fun c hc => nomatch hc⟩) (fun acc L H1 hL hp q => ?_) (fun _ => rfl) (fun i acc H1 L hi hL hq q => ?_)
    rotate_left 1
    · obtain ⟨s1, cs, rfl, lc, hc⟩ := q
      walk_at "go"
      refine n_new (le_size (by simp)) fun c H2 n2 s2 h2 => ?_
      have hq2 := at_ s2 hq
      refine ⟨_, hq2, lt_size (by simp; omega), _, upd_same, upd_free (s1.trans s2) hL, cs ++ [c], by rw [List.map_append]; rfl, by simp; omega, fun c' hc' => ?_⟩
      have keep : ∀ c', SqT K H2 c' [] → SqT K (upd H2 L (.lst (cs.map V.ref ++ [V.ref c]))) c' [] := fun c' h => oth_st (fun b o nb z => by rw [upd_ne nb]; exact z) hq2 h
      rcases List.mem_append.mp hc' with z | z
      · exact keep c' (st_ s2 (hc c' z))
      · rw [List.mem_singleton.mp z]; exact keep c (stO h2)
    · obtain ⟨s1, cs, rfl, lc, hc⟩ := q
      obtain ⟨dx, hob⟩ := ins_same s1 hp'
      have pL : p ≠ L := fun z => by
        obtain ⟨dx2, h2⟩ := hp'
        rw [z, hL] at h2; cases h2
      walk_at "go"
      refine s_fld rfl hob T.k_Disk.cl T.n_Disk__lies (by show 0 < 1000; decide) ?_
      have hL2 : upd H1 p (.ins T.C_Disk dx (putF "_lies" (.ref L) [])) L = some (.lst (cs.map V.ref)) := by rw [upd_ne pL.symm]; exact hp
      have hp2 : upd H1 p (.ins T.C_Disk dx (putF "_lies" (.ref L) [])) p = some (.ins T.C_Disk dx (putF "_lies" (.ref L) [])) := upd_same
      have b2 : But [p] H (upd H1 p (.ins T.C_Disk dx (putF "_lies" (.ref L) []))) := fun b o hb e => by rw [upd_ne (fun z => hb (by rw [z]; exact List.mem_cons_self))]; exact s1 _ _ e
      have hc2 : ∀ c ∈ cs, SqT K (upd H1 p (.ins T.C_Disk dx (putF "_lies" (.ref L) []))) c [] := fun c hm => oth_stI (fun b o nb z => by rw [upd_ne nb]; exact z) hob (hc c hm)
      generalize upd H1 p (.ins T.C_Disk dx (putF "_lies" (.ref L) [])) = H2 at *
      walk_at "go"
      refine e_dnew fun w' H3 n3 s3 h3 => ?_
      walk_at "go"
      refine s_fld rfl (at_ s3 hp2) T.k_Disk.cl T.n_Disk__waits (by show 1 < 1000; decide) ?_
      walk_at "go"
      refine s_fld rfl upd_same T.k_Disk.cl T.n_Disk__power (by show 2 < 1000; decide) ?_
      walk_at "go"
      refine s_fld rfl upd_same T.k_Disk.cl T.n_Disk__reached (by show 3 < 1000; decide) ?_
      rw [df_new]
      have nw : w' ≠ p := (ne_of_none hp2 n3).symm
      have oth : ∀ b, b ≠ p → ∀ x y z, upd (upd (upd H3 p x) p y) p z b = H3 b := fun b hb x y z => by rw [upd_ne hb, upd_ne hb, upd_ne hb]
      refine k _ ⟨L, cs, w', [], none, 0⟩ ⟨⟨dx, upd_same⟩, ?_, ?_, fun r hr => (nomatch hr), List.nodup_nil, List.nodup_nil, by simp, by show cs.length ≤ 600; omega, fun r hr => (nomatch hr)⟩ (fun a ha => ?_) lc (fun c hm => ?_) rfl rfl rfl fun b o hb e => ?_
      · show upd _ p _ L = _
        rw [oth _ pL.symm]; exact at_ s3 hL2
      · show upd _ p _ w' = _
        rw [oth _ nw]; exact h3
      · have ha : a ∈ [p, L, w'] := ha
        simp only [List.mem_cons, List.not_mem_nil, or_false] at ha
        rcases ha with z | z | z
        · exact .inl z
        · exact .inr (by rw [z]; exact hL)
        · by_cases q : a = p
          · exact .inl q
          · refine .inr ?_
            cases e : H a with
            | none => rfl
            | some o => have := b2 a o (by simpa using q) e; rw [z, n3] at this; cases this
      · have h4 := st_ s3 (hc2 c hm)
        have hp3 := at_ s3 hp2
        have u : ∀ (G : Hp) (x : HO), Oth p G (upd G p x) := fun G x b o nb z => by rw [upd_ne nb]; exact z
        exact oth_stI (u _ _) upd_same (oth_stI (u _ _) upd_same (oth_stI (u _ _) hp3 h4))
      · rw [oth _ (fun z => hb (by rw [z]; exact List.mem_cons_self))]; exact s3 _ _ (b2 _ _ hb e)
/-- a write waits behind the row of its block, or in a new row at r' -/
def addRow (rows : List (Int × Addr × List Addr)) (b : Int) (c r' : Addr) : List (Int × Addr × List Addr) := match rows.find? fun r => decide (r.1 = b) with
  | some _ => rows.map fun r => if r.1 = b then (r.1, r.2.1, r.2.2 ++ [c]) else r
  | none => rows ++ [(b, r', [c])]
theorem row_uniq : ∀ {rows : List (Int × Addr × List Addr)}, (rows.map (·.1)).Nodup → ∀ r ∈ rows, ∀ s ∈ rows, r.1 = s.1 → r = s
  | [], _, _, h, _, _, _ => nomatch h
  | a :: l, h, r, hr, s, hs, e => by
    obtain ⟨h1, h2⟩ := List.nodup_cons.mp h
    rcases List.mem_cons.mp hr with q | q <;> rcases List.mem_cons.mp hs with q2 | q2
    · rw [q, q2]
    · exact absurd (List.mem_map.mpr ⟨s, q2, by rw [← e, q]⟩) h1
    · exact absurd (List.mem_map.mpr ⟨r, q, by rw [e, q2]⟩) h1
    · exact row_uniq h2 r q s q2 e
theorem adr_uniq : ∀ {rows : List (Int × Addr × List Addr)}, (rows.map (·.2.1)).Nodup → ∀ r ∈ rows, ∀ s ∈ rows, r.2.1 = s.2.1 → r = s
  | [], _, _, h, _, _, _ => nomatch h
  | a :: l, h, r, hr, s, hs, e => by
    obtain ⟨h1, h2⟩ := List.nodup_cons.mp h
    rcases List.mem_cons.mp hr with q | q <;> rcases List.mem_cons.mp hs with q2 | q2
    · rw [q, q2]
    · exact absurd (List.mem_map.mpr ⟨s, q2, by rw [← e, q]⟩) h1
    · exact absurd (List.mem_map.mpr ⟨r, q, by rw [e, q2]⟩) h1
    · exact adr_uniq h2 r q s q2 e
def sp_disk_write (K : PySem.W.Frag) (C : Addr) : Sp := fun vs H Q _ => ∃ p D b c xs, vs = [.ref p, .int b, .ref c] ∧ DiskAt C H p D ∧ 0 ≤ b ∧ b < D.lies.length ∧ SqT K H c xs ∧ xs.length ≤ 1000 ∧ (∀ x ∈ xs, smallV x = true) ∧ itemsB xs 0 40 = true ∧ D.rows.length < 1000 ∧ (∀ r ∈ D.rows, r.2.2.length < 1000) ∧
  ∀ H' r', (r' ∈ D.foot p ∨ H r' = none) → DiskAt C H' p { D with rows := addRow D.rows b c r' } → But (D.foot p) H H' → Q .non H'
theorem ok_Disk_write (T : Txt K mg) : FnOk P w K mg base CX0 5 T.m_Disk_write.f T.m_Disk_write.fd ["self", "block", "content"] ((sp_disk_write K T.C_Disk)) := by
  refine T.m_Disk_write.F.ok sc_Disk_write (fun vs H Q E h => ?_) (fun cdv A outer s H vs Q E hr h => ?_)
  · obtain ⟨p, D, b, c, xs, rfl, _⟩ := h
    rfl
  · obtain ⟨p, D, b, c, xs, rfl, h, h0, hb, hc, hl, hx, hi, hn, hrw, k⟩ := h
    refine ⟨_, (pss_cons (ps_expr (pe_meth (pv 0) T.k_Disk.cl T.m_Disk__need_block.i (ok_Disk__need_block T) (hr.mono (by decide)) T.m_Disk__need_block.b .nil pass0 (pa_cons (pv 1) pa_nil)))
    (pss_cons (ps_if (pt_not (ptTruth (K := K) (pe_call (ok_is_items T) (hr.mono (by decide)) (by rfl) T.is_items.g T.is_items.F.kp T.is_items.b .nil pass0 (pa_cons (pv 2) (pa_cons pe_int (pa_cons (pe_glob (by rfl) T.c_MOST_ITEMS.h T.c_MOST_ITEMS.r) pa_nil)))) (by intro _; rfl))) (pss_one ps_never) pss_nil)
    (pss_one (ps_expr (peApp (K := K) (pe_bm PySem.F.plainAttrs_list PySem.F.slot_list_append PySem.F.type_list_append mt_append (pe_dsetd (peFld (K := K) (pv 0) rfl) (pv 1) (pe_lst pa_nil) ⟨by rfl, by rfl, by rfl, by rfl⟩) (pa_cons (pv 2) pa_nil))))))), ?_⟩
    walk_at "go"
    refine m_call0 h.ob (df_no _ _ _ _ (by decide +kernel)) ?_
    walk_at "go"
    refine ⟨p, D, b, rfl, h, h0, by omega, ?_⟩
    walk_at "go"
    refine ⟨c, xs, 0, 40, rfl, hc, by omega, hx, fun H1 s1 => ?_⟩
    rw [hi]
    have h1 := h.same s1
    walk_at "go"
    refine e_dsetd ?_
    walk_at "go"
    refine o_fld h1.ob T.k_Disk.cl T.n_Disk__waits (df_w _ _ _ _) ?_
    refine o_dsetd h1.hw ?_
    walk_at "go"
    refine n_new (le_size (by simp)) fun n H2 n2 s2 h2n => ?_
    have h2 := h1.same s2
    have s12 := s1.trans s2
    refine o_dset (k := Sum.inl b) h2.hw (by rw [List.length_map]; omega) (fun v e => ?_) fun e => ?_
    · rw [val_row] at e
      cases e2 : D.rows.find? fun r => decide (r.1 = b) with
      | none => rw [e2] at e; cases e
      | some r =>
        rw [e2] at e
        have ev : v = .ref r.2.1 := (Option.some.inj e).symm
        subst ev
        have hm := List.mem_of_find?_eq_some e2
        have hk : r.1 = b := of_decide_eq_true (List.find?_some (p := fun r : Int × Addr × List Addr => decide (r.1 = b)) e2)
        have hrow := h2.hr r hm
        refine ty_lst hrow.1 ?_
        walk_at "go"
        refine r_app hrow.1 (by rw [List.length_map]; have := hrw r hm; omega) fun H3 o3 h3 => ?_
        have fm : r.2.1 ∈ D.foot p := List.mem_cons_of_mem _ (List.mem_cons_of_mem _ (List.mem_cons_of_mem _ (List.mem_map.mpr ⟨r, hm, rfl⟩)))
        have ea : addRow D.rows b c r.2.1 = D.rows.map fun r => if r.1 = b then (r.1, r.2.1, r.2.2 ++ [c]) else r := by unfold addRow; rw [e2]
        have k2 := k H3 r.2.1 (.inl fm)
        rw [ea] at k2
        have m1 : ∀ f : Int × Addr × List Addr → Int, True := fun _ => trivial
        have em1 : (D.rows.map fun r => if r.1 = b then (r.1, r.2.1, r.2.2 ++ [c]) else r).map (·.1) = D.rows.map (·.1) := by
          rw [List.map_map]; apply List.map_congr_left; intro q _; show (if q.1 = b then _ else _ : Int × Addr × List Addr).1 = q.1; split <;> rfl
        have em2 : (D.rows.map fun r => if r.1 = b then (r.1, r.2.1, r.2.2 ++ [c]) else r).map (·.2.1) = D.rows.map (·.2.1) := by
          rw [List.map_map]; apply List.map_congr_left; intro q _; show (if q.1 = b then _ else _ : Int × Addr × List Addr).2.1 = q.2.1; split <;> rfl
        have em3 : (D.rows.map fun r => if r.1 = b then (r.1, r.2.1, r.2.2 ++ [c]) else r).map (fun r => ((Sum.inl r.1 : Key), V.ref r.2.1)) = D.rows.map fun r => ((Sum.inl r.1 : Key), V.ref r.2.1) := by
          rw [List.map_map]; apply List.map_congr_left; intro q _; show ((Sum.inl (if q.1 = b then _ else _ : Int × Addr × List Addr).1 : Key), V.ref (if q.1 = b then _ else _ : Int × Addr × List Addr).2.1) = _; split <;> rfl
        obtain ⟨dx, hob⟩ := h2.ob
        refine k2 ⟨⟨dx, o3 _ _ (fun z => by have := hrow.1; rw [← z, hob] at this; cases this) hob⟩, ?_, ?_, fun q hq => ?_, ?_, ?_, ?_, h.few, fun q hq => ?_⟩ fun a o ha e => o3 _ _ (fun z => ha (z ▸ fm)) (s12 _ _ e)
        · exact o3 _ _ (fun z => h.lr (z ▸ List.mem_map.mpr ⟨r, hm, rfl⟩)) h2.hl
        · show H3 D.w = _
          rw [show ({ D with rows := D.rows.map fun r => if r.1 = b then (r.1, r.2.1, r.2.2 ++ [c]) else r } : Dsk).rows.map (fun r => ((Sum.inl r.1 : Key), V.ref r.2.1)) = D.rows.map fun r => ((Sum.inl r.1 : Key), V.ref r.2.1) from em3]
          exact o3 _ _ (fun z => by have := h2.hw; rw [z, hrow.1] at this; cases this) h2.hw
        · obtain ⟨q0, hq0, e0⟩ := List.mem_map.mp hq
          subst e0
          by_cases z : q0.1 = b
          · have eq : q0 = r := row_uniq h.kd q0 hq0 r hm (by rw [z, hk])
            subst eq
            rw [if_pos z]
            exact ⟨by rw [h3, List.map_append]; rfl, by simp⟩
          · rw [if_neg z]
            exact ⟨o3 _ _ (fun y => z (by rw [adr_uniq h.nd q0 hq0 r hm y]; exact hk)) (h2.hr q0 hq0).1, (h2.hr q0 hq0).2⟩
        · show (List.map _ _).Nodup
          rw [em2]; exact h.nd
        · show (List.map _ _).Nodup
          rw [em1]; exact h.kd
        · show D.l ∉ List.map _ _
          rw [em2]; exact h.lr
        · obtain ⟨q0, hq0, e0⟩ := List.mem_map.mp hq
          subst e0
          have := h.kb q0 hq0
          by_cases z : q0.1 = b
          · rw [if_pos z]; exact this
          · rw [if_neg z]; exact this
    · have e2 : D.rows.find? (fun r => decide (r.1 = b)) = none := by
        rw [val_row] at e
        cases q : D.rows.find? fun r => decide (r.1 = b) with
        | none => rfl
        | some r => rw [q] at e; cases e
      rw [putK_new _ e]
      have nl : n ≠ D.w := fun z => by have := h2.hw; rw [← z, h2n] at this; cases this
      have hn3 : upd H2 D.w (.dK ((D.rows.map fun r => ((Sum.inl r.1 : Key), V.ref r.2.1)) ++ [((Sum.inl b : Key), V.ref n)])) n = some (.lst []) := by rw [upd_ne nl]; exact h2n
      have hw3 : upd H2 D.w (.dK ((D.rows.map fun r => ((Sum.inl r.1 : Key), V.ref r.2.1)) ++ [((Sum.inl b : Key), V.ref n)])) D.w = some (.dK ((D.rows.map fun r => ((Sum.inl r.1 : Key), V.ref r.2.1)) ++ [((Sum.inl b : Key), V.ref n)])) := upd_same
      have o3 : Oth D.w H2 (upd H2 D.w (.dK ((D.rows.map fun r => ((Sum.inl r.1 : Key), V.ref r.2.1)) ++ [((Sum.inl b : Key), V.ref n)]))) := fun a o na z => by rw [upd_ne na]; exact z
      generalize upd H2 D.w (.dK ((D.rows.map fun r => ((Sum.inl r.1 : Key), V.ref r.2.1)) ++ [((Sum.inl b : Key), V.ref n)])) = H3 at *
      refine ty_lst hn3 ?_
      walk_at "go"
      refine r_app hn3 (by simp) fun H4 o4 h4 => ?_
      have nfree : H n = none := free_ s1 n2
      have ea : addRow D.rows b c n = D.rows ++ [(b, n, [c])] := by unfold addRow; rw [e2]
      have k2 := k H4 n (.inr nfree)
      rw [ea] at k2
      have go : ∀ a o, a ≠ n → a ≠ D.w → H2 a = some o → H4 a = some o := fun a o na nw e => o4 _ _ na (o3 _ _ nw e)
      have old : ∀ a o, H a = some o → a ≠ n := fun a o e z => by rw [z, nfree] at e; cases e
      obtain ⟨dx, hob⟩ := h.ob
      have nb : ∀ r ∈ D.rows, r.1 ≠ b := fun r hr z => by
        have := List.find?_eq_none.mp e2 r hr
        exact this (decide_eq_true z)
      refine k2 ⟨⟨dx, go _ _ (old _ _ hob) (fun z => by have := h.hw; rw [← z, hob] at this; cases this) (s12 _ _ hob)⟩, ?_, ?_, fun q hq => ?_, ?_, ?_, ?_, h.few, fun q hq => ?_⟩ fun a o ha e => go _ _ (old _ _ e) (fun z => ha (by rw [z]; exact List.mem_cons_of_mem _ (List.mem_cons_of_mem _ List.mem_cons_self))) (s12 _ _ e)
      · exact go _ _ (old _ _ h.hl) (fun z => by have := h.hw; rw [← z, h.hl] at this; cases this) (s12 _ _ h.hl)
      · show H4 D.w = some (.dK (List.map _ (D.rows ++ [(b, n, [c])])))
        rw [List.map_append]
        exact o4 _ _ nl.symm hw3
      · rcases List.mem_append.mp hq with z | z
        · have hr0 := h.hr q z
          exact ⟨go _ _ (old _ _ hr0.1) (fun y => by have := h.hw; rw [← y, hr0.1] at this; cases this) (s12 _ _ hr0.1), hr0.2⟩
        · have z := List.mem_singleton.mp z
          subst z
          exact ⟨h4, by simp⟩
      · show (List.map _ (D.rows ++ [(b, n, [c])])).Nodup
        rw [List.map_append]
        refine List.nodup_append.mpr ⟨h.nd, by simp, fun x hx y hy e => ?_⟩
        obtain ⟨r, hr, er⟩ := List.mem_map.mp hx
        have hy := List.mem_singleton.mp hy
        exact old _ _ (h.hr r hr).1 (by rw [er, e, hy])
      · show (List.map _ (D.rows ++ [(b, n, [c])])).Nodup
        rw [List.map_append]
        refine List.nodup_append.mpr ⟨h.kd, by simp, fun x hx y hy e => ?_⟩
        obtain ⟨r, hr, er⟩ := List.mem_map.mp hx
        have hy := List.mem_singleton.mp hy
        exact nb r hr (by rw [er, e, hy])
      · show D.l ∉ List.map _ (D.rows ++ [(b, n, [c])])
        rw [List.map_append]
        intro z
        rcases List.mem_append.mp z with z | z
        · exact h.lr z
        · exact old _ _ h.hl (List.mem_singleton.mp z)
      · rcases List.mem_append.mp hq with z | z
        · exact h.kb q z
        · have z := List.mem_singleton.mp z
          subst z
          exact ⟨h0, hb⟩
end
end Vw

set_option Elab.async false
set_option linter.all false
set_option maxRecDepth 100000
set_option maxHeartbeats 4000000
namespace Vw
open PySem PySem.Spec PyProof.Rows L2 RT
local macro_rules | `(tactic| walk_at "s") => `(tactic| with_reducible first
  | refine' s_seq ?_ | refine' s_next ?_ | refine' s_set ?_ | refine' s_ret ?_ | refine' s_retN ?_ | refine' s_drop ?_ | refine' s_if ?_ | refine' s_ipI ?_
  | refine' e_c ?_ | refine' e_op ?_ | refine' e_un ?_ | refine' e_neg ?_ | refine' e_test ?_ | refine' e_tB ?_ | refine' e_bl ?_ | refine' e_and ?_ | refine' e_or ?_ | refine' e_not ?_
  | refine' e_andV ?_ | refine' e_orV ?_ | refine' e_notV ?_ | refine' e_kV ?_ | refine' e_ife ?_ | refine' e_nil ?_ | refine' e_cons ?_ | refine' e_cb ?_ | refine' e_call ?_ | refine' e_chain ?_
  | refine' o_addI ?_ | refine' o_eqI ?_ | refine' o_neI ?_ | refine' o_I0 ?_ | refine' o_pow16 ?_ | refine' o_pow17 ?_ | refine' o_pow18 ?_ | refine' o_pow19 ?_ | refine' o_pow30 ?_ | refine' o_pow31 ?_ | refine' o_pow1 ?_ | refine' o_pow2 ?_ | refine' o_pow3 ?_ | refine' o_pow4 ?_ | refine' o_pow5 ?_ | refine' o_pow6 ?_ | refine' o_pow9 ?_ | refine' o_pow10 ?_ | refine' o_pow12 ?_ | refine' o_pow15 ?_ | refine' o_pow20 ?_ | refine' e_lst ?_ | refine' e_tup ?_ | refine' iteT ?_ | refine' i_nt ?_ | refine' i_nf ?_ | refine' iteF ?_ | refine' c_int ?_ | refine' c_abs ?_ | refine' c_min2 ?_ | refine' c_max2 ?_ | refine' e_tru ?_ | refine' t_bl ?_ | refine' t_non ?_ | refine' t_int ?_ | refine' isN_non ?_ | refine' isN_int ?_ | refine' isN_ref ?_ | refine' isN_str ?_ | refine' isN_bl ?_ | refine' noN_non ?_ | refine' noN_int ?_ | refine' noN_ref ?_ | refine' noN_str ?_ | refine' noN_bl ?_
  | refine' s_brk ?_ | refine' s_cont ?_ | refine' s_for ?_ | refine' e_lc ?_ | refine' e_dc ?_ | refine' e_yes ?_ | refine' i_rng1 ?_ | refine' i_lst0 ?_ | refine' i_tup0 ?_ | refine' e_bm ?_ | refine' e_sl ?_ | refine' e_np ?_ | refine' e_pt ?_ | refine' e_ptI ?_ | refine' e_din ?_ | refine' e_dnin ?_ | refine' e_methE ?_ | refine' p_cons ?_ | refine' p_nil ?_ | refine' s_dput ?_ | refine' e_dget2 ?_ | refine' e_dpop1 ?_ | refine' i_enum0 ?_ | refine' i_rev0 ?_ | refine' g_sub ?_ | refine' s_asg ?_ | refine' i_zip0 ?_ | refine' e_revT ?_ | refine' isB_bl ?_ | refine' notB_bl ?_ | refine' o_neB ?_ | refine' i_nrr ?_ | refine' e_meth ?_ | refine' s_setf ?_ | refine' e_fld ?_ | refine' e_bm0 ?_ | refine' r_tx ?_ | refine' o_eqStr ?_ | refine' o_neStr ?_)
local macro_rules | `(tactic| walk_at "v") => `(tactic| ((with_reducible refine' e_var ?hv ?_); (case hv => exact rfl)))
local macro_rules | `(tactic| walk_at "a") => `(tactic| ((with_reducible refine' s_aug ?hv ?_); (case hv => exact rfl)))
local macro_rules | `(tactic| walk_at "m") => `(tactic| first
  | ((with_reducible refine' o_mod ?hv ?_); (case hv => first | decide | omega))
  | ((with_reducible refine' o_mulR ?hv ?_); (case hv => omega))
  | ((with_reducible refine' o_mulL ?hv ?_); (case hv => omega))
  | ((with_reducible refine' o_div ?hv ?hw ?_); (case hv => omega); (case hw => omega))
  | ((with_reducible refine' o_pow _ ?hv ?hw ?hx ?_); (case hv => exact rfl); (case hw => decide); (case hx => decide)))
local macro_rules | `(tactic| walk_at "i") => `(tactic| (first
  | ((with_reducible refine' isi_int true ?hv ?_); (case hv => exact (by decide +kernel)))
  | ((with_reducible refine' isi_int false ?hv ?_); (case hv => exact (by decide +kernel)))
  | ((with_reducible refine' isi_non true ?hv ?_); (case hv => exact (by decide +kernel)))
  | ((with_reducible refine' isi_non false ?hv ?_); (case hv => exact (by decide +kernel)))
  | ((with_reducible refine' isi_str true ?hv ?_); (case hv => exact (by decide +kernel)))
  | ((with_reducible refine' isi_str false ?hv ?_); (case hv => exact (by decide +kernel)))
  | ((with_reducible refine' isi_bl true ?hv ?_); (case hv => exact (by decide +kernel)))
  | ((with_reducible refine' isi_bl false ?hv ?_); (case hv => exact (by decide +kernel)))
  | ((with_reducible refine' isi_t true ?hw ?hv ?_); (case hw => assumption); (case hv => exact (by decide +kernel)))
  | ((with_reducible refine' isi_t false ?hw ?hv ?_); (case hw => assumption); (case hv => exact (by decide +kernel)))
  | ((with_reducible refine' isi_l true ?hw ?hv ?_); (case hw => assumption); (case hv => exact (by decide +kernel)))
  | ((with_reducible refine' isi_l false ?hw ?hv ?_); (case hw => assumption); (case hv => exact (by decide +kernel)))
  | ((with_reducible refine' isi_tup true ?hw ?hv ?_); (case hw => assumption); (case hv => exact (by decide +kernel)))
  | ((with_reducible refine' isi_tup false ?hw ?hv ?_); (case hw => assumption); (case hv => exact (by decide +kernel)))
  | ((with_reducible refine' isi_lst true ?hw ?hv ?_); (case hw => assumption); (case hv => exact (by decide +kernel)))
  | ((with_reducible refine' isi_lst false ?hw ?hv ?_); (case hw => assumption); (case hv => exact (by decide +kernel)))))
local macro_rules | `(tactic| walk_at "om") => `(tactic| first | omega | (simp only [List.length_cons, List.length_nil, List.length_map, List.length_append, List.length_range]; omega))
local macro_rules | `(tactic| walk_at "d") => `(tactic| (first
  | ((with_reducible refine' i_dt ?hv ?_); (case hv => walk_at "om"))
  | ((with_reducible refine' i_df ?hv ?_); (case hv => walk_at "om"))
  | ((with_reducible refine' i_ndt ?hv ?_); (case hv => walk_at "om"))
  | ((with_reducible refine' i_ndf ?hv ?_); (case hv => walk_at "om"))))
local macro_rules | `(tactic| walk_at "x") => `(tactic| first
  | ((with_reducible refine' o_ixA ?hv ?hw ?_); (case hv => assumption); (case hw => exact rfl))
  | ((with_reducible refine' o_ixU ?hv ?hw ?_); (case hv => assumption); (case hw => exact rfl))
  | ((with_reducible refine' o_ixL ?hv ?hw ?_); (case hv => assumption); (case hw => exact rfl))
  | ((with_reducible refine' o_ixT ?hv ?hw ?_); (case hv => assumption); (case hw => exact rfl))
  | ((with_reducible refine' set_ ?hv ?hw ?_); (case hv => assumption); (case hw => exact rfl))
  | ((with_reducible refine' e_lenM ?hv ?_); (case hv => first | assumption | exact slO (by assumption)))
  | ((with_reducible refine' e_lenN ?hv ?_); (case hv => first | assumption | exact stO (by assumption)))
  | ((with_reducible refine' e_lenL ?hv ?_); (case hv => first | assumption | exact slO (by assumption)))
  | ((with_reducible refine' e_lenT ?hv ?_); (case hv => first | assumption | exact stO (by assumption))))
local macro_rules | `(tactic| walk_at "c") => `(tactic| first
  | ((with_reducible refine' c_listL ?hv ?_); (case hv => assumption))
  | ((with_reducible refine' c_listT ?hv ?_); (case hv => assumption))
  | ((with_reducible refine' c_tupL ?hv ?_); (case hv => first | assumption | exact slO (by assumption)))
  | ((with_reducible refine' c_tupT ?hv ?_); (case hv => assumption))
  | ((with_reducible refine' t_lst ?hv ?_); (case hv => first | assumption | exact slO (by assumption)))
  | ((with_reducible refine' t_tup ?hv ?_); (case hv => assumption))
  | ((with_reducible refine' r_sl ?hv ?_); (case hv => first | assumption | exact slO (by assumption)))
  | ((with_reducible refine' o_inL ?hv ?_); (case hv => first | assumption | exact slO (by assumption)))
  | ((with_reducible refine' o_inT ?hv ?_); (case hv => first | assumption | exact stO (by assumption)))
  | ((with_reducible refine' o_niL ?hv ?_); (case hv => first | assumption | exact slO (by assumption)))
  | ((with_reducible refine' o_niT ?hv ?_); (case hv => first | assumption | exact stO (by assumption)))
  | ((with_reducible refine' ty_lst ?hv ?_); (case hv => assumption)))
local macro_rules | `(tactic| walk_at "mo") => `(tactic| repeat' (first | exact m_yes | exact m_var | exact m_c | exact m_I0 | exact m_I | exact m_ix | exact m_add | exact m_in | exact m_int1 | exact m_abs | exact m_nil | refine' m_and ?_ ?_ | refine' m_test ?_ | refine' m_tB ?_ | refine' m_op ?_ ?_ ?_ | refine' m_cons ?_ ?_ | refine' m_cb ?_ ?_))
local macro_rules | `(tactic| walk_at "go") => `(tactic| repeat' (first | walk_at "s" | walk_at "v" | walk_at "a" | walk_at "x" | walk_at "m" | walk_at "c" | walk_at "i" | walk_at "d"))

section
variable {P : Program} {w : World} {K : PySem.W.Frag} {mg : Str → Option Value} {base : Heap}
/-! ### what may change -/
def muT : HO → Bool
  | .tup _ => true
  | .frz _ _ => true
  | _ => false
def Ch (F : List Addr) (H H' : Hp) : Prop := ∀ a o, H a = some o → (a ∉ F ∨ muT o = true) → H' a = some o
section
variable {F F' : List Addr} {H H1 H2 H' : Hp} {a c p : Addr} {o x : HO} {xs : List V}
theorem Ch.refl : Ch F H H := fun _ _ h _ => h
theorem Ch.of_same (s : Same H H') : Ch F H H' := fun a o h _ => s a o h
theorem Ch.trans (h1 : Ch F H H1) (h2 : Ch F' H1 H2) (hf : ∀ a ∈ F', a ∈ F ∨ H a = none) : Ch F H H2 := fun a o h c => by
  refine h2 a o (h1 a o h c) ?_
  rcases c with c | c
  · refine .inl fun m => ?_
    rcases hf a m with z | z
    · exact c z
    · rw [h] at z; cases z
  · exact .inr c
theorem Ch.upd1 (m : a ∈ F) (n : ∀ o, H a = some o → muT o = false) : Ch F H (upd H a x) := fun b o h c => by
  by_cases e : b = a
  · subst e
    rcases c with c | c
    · exact absurd m c
    · rw [n o h] at c; cases c
  · rw [upd_ne e]; exact h
theorem Ch.st (h : Ch F H H') (s : SqT K H c xs) : SqT K H' c xs := by
  rcases s with (s | ⟨u, s⟩) | s
  · exact .inl (.inl (h _ _ s (.inr rfl)))
  · exact .inl (.inr ⟨u, h _ _ s (.inr rfl)⟩)
  · exact .inr s
theorem Ch.sl (h : Ch F H H') (n : c ∉ F) (s : SqL K H c xs) : SqL K H' c xs := by
  rcases s with (s | ⟨u, s⟩) | s
  · exact .inl (.inl (h _ _ s (.inl n)))
  · exact .inl (.inr ⟨u, h _ _ s (.inl n)⟩)
  · exact .inr s
theorem Ch.at_ (h : Ch F H H') (n : a ∉ F) (e : H a = some o) : H' a = some o := h a o e (.inl n)
theorem Ch.mono (h : Ch F H H') (hs : ∀ a ∈ F, a ∈ F' ∨ H a = none) : Ch F' H H' := fun a o e c => h a o e (c.imp (fun c m => by
  rcases hs a m with z | z
  · exact c z
  · rw [e] at z; cases z) id)
theorem Ch.of_but (b : But F H H') (n : ∀ a ∈ F, ∀ o, H a = some o → muT o = false) : Ch F H H' := fun a o e c => by
  by_cases m : a ∈ F
  · rcases c with c | c
    · exact absurd m c
    · rw [n a m o e] at c; cases c
  · exact b a o m e
theorem Ch.of_oth (b : Oth p H H') (m : p ∈ F) (n : ∀ o, H p = some o → muT o = false) : Ch F H H' := fun a o e c => by
  by_cases z : a = p
  · subst z
    rcases c with c | c
    · exact absurd m c
    · rw [n o e] at c; cases c
  · exact b a o z e
end
theorem DiskAt.mut {C p : Addr} {H : Hp} {D : Dsk} (h : DiskAt C H p D) : ∀ a ∈ D.foot p, ∀ o, H a = some o → muT o = false := fun a m o e => by
  obtain ⟨dx, hob⟩ := h.ob
  unfold Dsk.foot at m
  rcases List.mem_cons.mp m with z | m
  · subst z; rw [hob] at e; cases e; rfl
  rcases List.mem_cons.mp m with z | m
  · subst z; rw [h.hl] at e; cases e; rfl
  rcases List.mem_cons.mp m with z | m
  · subst z; rw [h.hw] at e; cases e; rfl
  · obtain ⟨r, hr, z⟩ := List.mem_map.mp m
    subst z; rw [(h.hr r hr).1] at e; cases e; rfl
theorem DiskAt.there {C p : Addr} {H : Hp} {D : Dsk} (h : DiskAt C H p D) : ∀ a ∈ D.foot p, H a ≠ none := fun a m e => by
  obtain ⟨dx, hob⟩ := h.ob
  unfold Dsk.foot at m
  rcases List.mem_cons.mp m with z | m
  · subst z; rw [hob] at e; cases e
  rcases List.mem_cons.mp m with z | m
  · subst z; rw [h.hl] at e; cases e
  rcases List.mem_cons.mp m with z | m
  · subst z; rw [h.hw] at e; cases e
  · obtain ⟨r, hr, z⟩ := List.mem_map.mp m
    subst z; rw [(h.hr r hr).1] at e; cases e
/-! ### what a disk is, as data -/
abbrev Ct := List V
structure SD where
  lies : List Ct
  rows : Int → List Ct
  pw : Option Int
  rc : Int
def CtOk (xs : Ct) : Prop := xs.length ≤ 1000 ∧ (∀ x ∈ xs, smallV x = true) ∧ itemsB xs 0 40 = true
structure SD.Ok (S : SD) : Prop where
  ln : S.lies.length ≤ 600
  cl : ∀ xs ∈ S.lies, CtOk xs
  cr : ∀ b, ∀ xs ∈ S.rows b, CtOk xs
  out : ∀ b, S.rows b ≠ [] → 0 ≤ b ∧ b < S.lies.length
  pw : ∀ i, S.pw = some i → 0 ≤ i
/-- the tuples at some places -/
def TupsAt (K : PySem.W.Frag) (H : Hp) (cs : List Addr) (xss : List Ct) : Prop := cs.length = xss.length ∧ ∀ (i : Nat) c xs, cs[i]? = some c → xss[i]? = some xs → SqT K H c xs
section
variable {F : List Addr} {H H' : Hp} {cs : List Addr} {xss : List Ct} {c : Addr} {xs : Ct}
theorem TupsAt.ch (h : TupsAt K H cs xss) (s : Ch F H H') : TupsAt K H' cs xss := ⟨h.1, fun i c xs a b => s.st (h.2 i c xs a b)⟩
theorem TupsAt.nil : TupsAt K H [] [] := ⟨rfl, fun _ _ _ a _ => by cases a⟩
theorem TupsAt.snoc (h : TupsAt K H cs xss) (t : SqT K H c xs) : TupsAt K H (cs ++ [c]) (xss ++ [xs]) := by
  refine ⟨by rw [List.length_append, List.length_append, h.1]; rfl, fun i d ys a b => ?_⟩
  have l := h.1
  by_cases hi : i < cs.length
  · rw [List.getElem?_append_left hi] at a
    rw [List.getElem?_append_left (by omega)] at b
    exact h.2 i d ys a b
  · rw [List.getElem?_append_right (by omega)] at a
    rw [List.getElem?_append_right (by omega)] at b
    rw [l] at a
    cases e : i - xss.length with
    | zero =>
      rw [e] at a b
      cases a; cases b; exact t
    | succ n => rw [e] at a; cases a
theorem TupsAt.cons_inv (h : TupsAt K H cs (xs :: xss)) : ∃ d ds, cs = d :: ds ∧ SqT K H d xs ∧ TupsAt K H ds xss := by
  cases cs with
  | nil => have := h.1; cases this
  | cons d ds => exact ⟨d, ds, rfl, h.2 0 d xs rfl rfl, by have := h.1; simpa using this, fun i c ys a b => h.2 (i + 1) c ys a b⟩
theorem TupsAt.set (h : TupsAt K H cs xss) (i : Nat) (t : SqT K H c xs) : TupsAt K H (cs.set i c) (xss.set i xs) := by
  refine ⟨by rw [List.length_set, List.length_set, h.1], fun j d ys a b => ?_⟩
  rw [List.getElem?_set] at a b
  by_cases e : i = j
  · rw [if_pos e] at a b
    split at a
    · split at b
      · cases a; cases b; exact t
      · cases b
    · cases a
  · rw [if_neg e] at a b
    exact h.2 j d ys a b
theorem TupsAt.get (h : TupsAt K H cs xss) {i : Nat} (e : xss[i]? = some xs) : ∃ d, cs[i]? = some d ∧ SqT K H d xs := by
  have l : i < cs.length := by have := (List.getElem?_eq_some_iff.mp e).1; have := h.1; omega
  exact ⟨cs[i], List.getElem?_eq_getElem l, h.2 i _ _ (List.getElem?_eq_getElem l) e⟩
end
/-- a disk's rows tell S's -/
def RowsAt (K : PySem.W.Frag) (H : Hp) (rows : List (Int × Addr × List Addr)) (f : Int → List Ct) : Prop := ∀ b, match rows.find? fun r => decide (r.1 = b) with
  | none => f b = []
  | some r => TupsAt K H r.2.2 (f b)
structure Sees (K : PySem.W.Frag) (H : Hp) (D : Dsk) (S : SD) : Prop where
  ok : S.Ok
  lv : TupsAt K H D.lies S.lies
  rv : RowsAt K H D.rows S.rows
  pw : D.pw = S.pw
  rc : D.rc = S.rc
def DS (K : PySem.W.Frag) (C : Addr) (H : Hp) (p : Addr) (F : List Addr) (S : SD) : Prop := ∃ D, DiskAt C H p D ∧ F = D.foot p ∧ Sees K H D S
theorem RowsAt.ch {F : List Addr} {H H' : Hp} {rows : List (Int × Addr × List Addr)} {f : Int → List Ct} (h : RowsAt K H rows f) (s : Ch F H H') : RowsAt K H' rows f := fun b => by
  have hb := h b
  split at hb
  · exact hb
  · exact hb.ch s
theorem RowsAt.som {H : Hp} {rows : List (Int × Addr × List Addr)} {f : Int → List Ct} {b : Int} {r} (h : RowsAt K H rows f) (e : rows.find? (fun r => decide (r.1 = b)) = some r) : TupsAt K H r.2.2 (f b) := by
  have hb := h b
  rw [e] at hb; exact hb
theorem RowsAt.non {H : Hp} {rows : List (Int × Addr × List Addr)} {f : Int → List Ct} {b : Int} (h : RowsAt K H rows f) (e : rows.find? (fun r => decide (r.1 = b)) = none) : f b = [] := by
  have hb := h b
  rw [e] at hb; exact hb
theorem RowsAt.there {H : Hp} {rows : List (Int × Addr × List Addr)} {f : Int → List Ct} {b : Int} (h : RowsAt K H rows f) (n : f b ≠ []) : ∃ r, rows.find? (fun r => decide (r.1 = b)) = some r ∧ r ∈ rows ∧ r.1 = b ∧ TupsAt K H r.2.2 (f b) := by
  cases e : rows.find? (fun r => decide (r.1 = b)) with
  | none => exact absurd (h.non e) n
  | some r => exact ⟨r, rfl, List.mem_of_find?_eq_some e, of_decide_eq_true (List.find?_some (p := fun r : Int × Addr × List Addr => decide (r.1 = b)) e), h.som e⟩
theorem Sees.ch {F : List Addr} {H H' : Hp} {D : Dsk} {S : SD} (h : Sees K H D S) (s : Ch F H H') : Sees K H' D S := ⟨h.ok, h.lv.ch s, h.rv.ch s, h.pw, h.rc⟩
/-- a change elsewhere -/
theorem DiskAt.ch {C p : Addr} {F : List Addr} {H H' : Hp} {D : Dsk} (h : DiskAt C H p D) (s : Ch F H H') (n : ∀ a ∈ D.foot p, a ∉ F) : DiskAt C H' p D := by
  obtain ⟨dx, hob⟩ := h.ob
  refine ⟨⟨dx, s.at_ (n p (by unfold Dsk.foot; simp)) hob⟩, s.at_ (n _ (by unfold Dsk.foot; simp)) h.hl, s.at_ (n _ (by unfold Dsk.foot; simp)) h.hw, fun r hr => ⟨s.at_ (n _ ?_) (h.hr r hr).1, (h.hr r hr).2⟩, h.nd, h.kd, h.lr, h.few, h.kb⟩
  unfold Dsk.foot
  exact List.mem_cons_of_mem _ (List.mem_cons_of_mem _ (List.mem_cons_of_mem _ (List.mem_map.mpr ⟨r, hr, rfl⟩)))
theorem DS.ch {C p : Addr} {F G : List Addr} {H H' : Hp} {S : SD} (h : DS K C H p F S) (s : Ch G H H') (n : ∀ a ∈ F, a ∉ G) : DS K C H' p F S := by
  obtain ⟨D, h1, rfl, h2⟩ := h
  exact ⟨D, h1.ch s n, rfl, h2.ch s⟩
theorem DS.same {C p : Addr} {F : List Addr} {H H' : Hp} {S : SD} (h : DS K C H p F S) (s : Same H H') : DS K C H' p F S := h.ch (G := []) (Ch.of_same s) (by simp)
theorem DS.there {C p : Addr} {F : List Addr} {H : Hp} {S : SD} (h : DS K C H p F S) : ∀ a ∈ F, H a ≠ none := by
  obtain ⟨D, h1, rfl, h2⟩ := h
  exact h1.there
end
end Vw

set_option Elab.async false
set_option linter.all false
set_option maxRecDepth 100000
set_option maxHeartbeats 4000000
namespace Vw
open PySem PySem.Spec PyProof.Rows L2 RT
local macro_rules | `(tactic| walk_at "s") => `(tactic| with_reducible first
  | refine' s_seq ?_ | refine' s_next ?_ | refine' s_set ?_ | refine' s_ret ?_ | refine' s_retN ?_ | refine' s_drop ?_ | refine' s_if ?_ | refine' s_ipI ?_
  | refine' e_c ?_ | refine' e_op ?_ | refine' e_un ?_ | refine' e_neg ?_ | refine' e_test ?_ | refine' e_tB ?_ | refine' e_bl ?_ | refine' e_and ?_ | refine' e_or ?_ | refine' e_not ?_
  | refine' e_andV ?_ | refine' e_orV ?_ | refine' e_notV ?_ | refine' e_kV ?_ | refine' e_ife ?_ | refine' e_nil ?_ | refine' e_cons ?_ | refine' e_cb ?_ | refine' e_call ?_ | refine' e_chain ?_
  | refine' o_addI ?_ | refine' o_eqI ?_ | refine' o_neI ?_ | refine' o_I0 ?_ | refine' o_pow16 ?_ | refine' o_pow17 ?_ | refine' o_pow18 ?_ | refine' o_pow19 ?_ | refine' o_pow30 ?_ | refine' o_pow31 ?_ | refine' o_pow1 ?_ | refine' o_pow2 ?_ | refine' o_pow3 ?_ | refine' o_pow4 ?_ | refine' o_pow5 ?_ | refine' o_pow6 ?_ | refine' o_pow9 ?_ | refine' o_pow10 ?_ | refine' o_pow12 ?_ | refine' o_pow15 ?_ | refine' o_pow20 ?_ | refine' e_lst ?_ | refine' e_tup ?_ | refine' iteT ?_ | refine' i_nt ?_ | refine' i_nf ?_ | refine' iteF ?_ | refine' c_int ?_ | refine' c_abs ?_ | refine' c_min2 ?_ | refine' c_max2 ?_ | refine' e_tru ?_ | refine' t_bl ?_ | refine' t_non ?_ | refine' t_int ?_ | refine' isN_non ?_ | refine' isN_int ?_ | refine' isN_ref ?_ | refine' isN_str ?_ | refine' isN_bl ?_ | refine' noN_non ?_ | refine' noN_int ?_ | refine' noN_ref ?_ | refine' noN_str ?_ | refine' noN_bl ?_
  | refine' s_brk ?_ | refine' s_cont ?_ | refine' s_for ?_ | refine' e_lc ?_ | refine' e_dc ?_ | refine' e_yes ?_ | refine' i_rng1 ?_ | refine' i_lst0 ?_ | refine' i_tup0 ?_ | refine' e_bm ?_ | refine' e_sl ?_ | refine' e_np ?_ | refine' e_pt ?_ | refine' e_ptI ?_ | refine' e_din ?_ | refine' e_dnin ?_ | refine' e_methE ?_ | refine' p_cons ?_ | refine' p_nil ?_ | refine' s_dput ?_ | refine' e_dget2 ?_ | refine' e_dpop1 ?_ | refine' i_enum0 ?_ | refine' i_rev0 ?_ | refine' g_sub ?_ | refine' s_asg ?_ | refine' i_zip0 ?_ | refine' e_revT ?_ | refine' isB_bl ?_ | refine' notB_bl ?_ | refine' o_neB ?_ | refine' i_nrr ?_ | refine' e_meth ?_ | refine' s_setf ?_ | refine' e_fld ?_ | refine' e_bm0 ?_ | refine' r_tx ?_ | refine' o_eqStr ?_ | refine' o_neStr ?_)
local macro_rules | `(tactic| walk_at "v") => `(tactic| ((with_reducible refine' e_var ?hv ?_); (case hv => exact rfl)))
local macro_rules | `(tactic| walk_at "a") => `(tactic| ((with_reducible refine' s_aug ?hv ?_); (case hv => exact rfl)))
local macro_rules | `(tactic| walk_at "m") => `(tactic| first
  | ((with_reducible refine' o_mod ?hv ?_); (case hv => first | decide | omega))
  | ((with_reducible refine' o_mulR ?hv ?_); (case hv => omega))
  | ((with_reducible refine' o_mulL ?hv ?_); (case hv => omega))
  | ((with_reducible refine' o_div ?hv ?hw ?_); (case hv => omega); (case hw => omega))
  | ((with_reducible refine' o_pow _ ?hv ?hw ?hx ?_); (case hv => exact rfl); (case hw => decide); (case hx => decide)))
local macro_rules | `(tactic| walk_at "i") => `(tactic| (first
  | ((with_reducible refine' isi_int true ?hv ?_); (case hv => exact (by decide +kernel)))
  | ((with_reducible refine' isi_int false ?hv ?_); (case hv => exact (by decide +kernel)))
  | ((with_reducible refine' isi_non true ?hv ?_); (case hv => exact (by decide +kernel)))
  | ((with_reducible refine' isi_non false ?hv ?_); (case hv => exact (by decide +kernel)))
  | ((with_reducible refine' isi_str true ?hv ?_); (case hv => exact (by decide +kernel)))
  | ((with_reducible refine' isi_str false ?hv ?_); (case hv => exact (by decide +kernel)))
  | ((with_reducible refine' isi_bl true ?hv ?_); (case hv => exact (by decide +kernel)))
  | ((with_reducible refine' isi_bl false ?hv ?_); (case hv => exact (by decide +kernel)))
  | ((with_reducible refine' isi_t true ?hw ?hv ?_); (case hw => assumption); (case hv => exact (by decide +kernel)))
  | ((with_reducible refine' isi_t false ?hw ?hv ?_); (case hw => assumption); (case hv => exact (by decide +kernel)))
  | ((with_reducible refine' isi_l true ?hw ?hv ?_); (case hw => assumption); (case hv => exact (by decide +kernel)))
  | ((with_reducible refine' isi_l false ?hw ?hv ?_); (case hw => assumption); (case hv => exact (by decide +kernel)))
  | ((with_reducible refine' isi_tup true ?hw ?hv ?_); (case hw => assumption); (case hv => exact (by decide +kernel)))
  | ((with_reducible refine' isi_tup false ?hw ?hv ?_); (case hw => assumption); (case hv => exact (by decide +kernel)))
  | ((with_reducible refine' isi_lst true ?hw ?hv ?_); (case hw => assumption); (case hv => exact (by decide +kernel)))
  | ((with_reducible refine' isi_lst false ?hw ?hv ?_); (case hw => assumption); (case hv => exact (by decide +kernel)))))
local macro_rules | `(tactic| walk_at "om") => `(tactic| first | omega | (simp only [List.length_cons, List.length_nil, List.length_map, List.length_append, List.length_range]; omega))
local macro_rules | `(tactic| walk_at "d") => `(tactic| (first
  | ((with_reducible refine' i_dt ?hv ?_); (case hv => walk_at "om"))
  | ((with_reducible refine' i_df ?hv ?_); (case hv => walk_at "om"))
  | ((with_reducible refine' i_ndt ?hv ?_); (case hv => walk_at "om"))
  | ((with_reducible refine' i_ndf ?hv ?_); (case hv => walk_at "om"))))
local macro_rules | `(tactic| walk_at "x") => `(tactic| first
  | ((with_reducible refine' o_ixA ?hv ?hw ?_); (case hv => assumption); (case hw => exact rfl))
  | ((with_reducible refine' o_ixU ?hv ?hw ?_); (case hv => assumption); (case hw => exact rfl))
  | ((with_reducible refine' o_ixL ?hv ?hw ?_); (case hv => assumption); (case hw => exact rfl))
  | ((with_reducible refine' o_ixT ?hv ?hw ?_); (case hv => assumption); (case hw => exact rfl))
  | ((with_reducible refine' set_ ?hv ?hw ?_); (case hv => assumption); (case hw => exact rfl))
  | ((with_reducible refine' e_lenM ?hv ?_); (case hv => first | assumption | exact slO (by assumption)))
  | ((with_reducible refine' e_lenN ?hv ?_); (case hv => first | assumption | exact stO (by assumption)))
  | ((with_reducible refine' e_lenL ?hv ?_); (case hv => first | assumption | exact slO (by assumption)))
  | ((with_reducible refine' e_lenT ?hv ?_); (case hv => first | assumption | exact stO (by assumption))))
local macro_rules | `(tactic| walk_at "c") => `(tactic| first
  | ((with_reducible refine' c_listL ?hv ?_); (case hv => assumption))
  | ((with_reducible refine' c_listT ?hv ?_); (case hv => assumption))
  | ((with_reducible refine' c_tupL ?hv ?_); (case hv => first | assumption | exact slO (by assumption)))
  | ((with_reducible refine' c_tupT ?hv ?_); (case hv => assumption))
  | ((with_reducible refine' t_lst ?hv ?_); (case hv => first | assumption | exact slO (by assumption)))
  | ((with_reducible refine' t_tup ?hv ?_); (case hv => assumption))
  | ((with_reducible refine' r_sl ?hv ?_); (case hv => first | assumption | exact slO (by assumption)))
  | ((with_reducible refine' o_inL ?hv ?_); (case hv => first | assumption | exact slO (by assumption)))
  | ((with_reducible refine' o_inT ?hv ?_); (case hv => first | assumption | exact stO (by assumption)))
  | ((with_reducible refine' o_niL ?hv ?_); (case hv => first | assumption | exact slO (by assumption)))
  | ((with_reducible refine' o_niT ?hv ?_); (case hv => first | assumption | exact stO (by assumption)))
  | ((with_reducible refine' ty_lst ?hv ?_); (case hv => assumption)))
local macro_rules | `(tactic| walk_at "mo") => `(tactic| repeat' (first | exact m_yes | exact m_var | exact m_c | exact m_I0 | exact m_I | exact m_ix | exact m_add | exact m_in | exact m_int1 | exact m_abs | exact m_nil | refine' m_and ?_ ?_ | refine' m_test ?_ | refine' m_tB ?_ | refine' m_op ?_ ?_ ?_ | refine' m_cons ?_ ?_ | refine' m_cb ?_ ?_))
local macro_rules | `(tactic| walk_at "go") => `(tactic| repeat' (first | walk_at "s" | walk_at "v" | walk_at "a" | walk_at "x" | walk_at "m" | walk_at "c" | walk_at "i" | walk_at "d"))

section
variable {P : Program} {w : World} {K : PySem.W.Frag} {mg : Str → Option Value} {base : Heap}
def SD.got (S : SD) (b : Int) (c : Ct) (cs : List Ct) : SD := ⟨S.lies.set b.toNat c, fun x => if x = b then cs else S.rows x, S.pw.map (· - 1), S.rc + 1⟩
theorem SD.got_ok {S : SD} {b : Int} {c : Ct} {cs : List Ct} (h : S.Ok) (e : S.rows b = c :: cs) (np : S.pw ≠ some 0) : (S.got b c cs).Ok := by
  refine ⟨by show (S.lies.set _ _).length ≤ 600; rw [List.length_set]; exact h.ln, fun xs hx => ?_, fun x xs hx => ?_, fun x hx => ?_, fun i hi => ?_⟩
  · rcases List.mem_or_eq_of_mem_set hx with z | z
    · exact h.cl xs z
    · subst z; exact h.cr b _ (by rw [e]; simp)
  · have hx : xs ∈ (if x = b then cs else S.rows x) := hx
    split at hx
    · exact h.cr b _ (by rw [e]; exact List.mem_cons_of_mem _ hx)
    · exact h.cr x _ hx
  · show 0 ≤ x ∧ x < (S.lies.set _ _).length
    rw [List.length_set]
    have hx : (if x = b then cs else S.rows x) ≠ [] := hx
    split at hx
    · next z => rw [z]; exact h.out b (by rw [e]; simp)
    · exact h.out x hx
  · have hi : S.pw.map (· - 1) = some i := hi
    cases q : S.pw with
    | none => rw [q] at hi; cases hi
    | some j =>
      rw [q] at hi
      have := h.pw j q
      have e2 : j - 1 = i := Option.some.inj hi
      have : j ≠ 0 := fun z => np (by rw [q, z])
      omega
/-- the rows behind a write that reached -/
def gotRows (rows : List (Int × Addr × List Addr)) (b : Int) (as : List Addr) : List (Int × Addr × List Addr) := if as = [] then rows.filter (fun q => decide (q.1 ≠ b)) else rows.map fun q => if q.1 = b then (q.1, q.2.1, as) else q
theorem gotRows_find {rows : List (Int × Addr × List Addr)} {b : Int} {as : List Addr} {x : Int} : (gotRows rows b as).find? (fun q => decide (q.1 = x)) =
    if x = b then (if as = [] then none else (rows.find? fun q => decide (q.1 = b)).map fun q => (q.1, q.2.1, as)) else rows.find? fun q => decide (q.1 = x) := by
  unfold gotRows
  by_cases ha : as = []
  · rw [if_pos ha, if_pos ha, List.find?_filter]
    by_cases hx : x = b
    · rw [if_pos hx, List.find?_eq_none]
      intro q _ z
      simp only [decide_not, Bool.and_eq_true, Bool.not_eq_true', decide_eq_false_iff_not, decide_eq_true_eq] at z
      exact z.1 (by rw [z.2, hx])
    · rw [if_neg hx]
      congr 1
      funext q
      by_cases z : q.1 = x
      · have : q.1 ≠ b := fun y => hx (by rw [← z, y])
        simp [z, this, hx]
      · simp [z]
  · rw [if_neg ha, if_neg ha, List.find?_map]
    have e : ((fun q : Int × Addr × List Addr => decide (q.1 = x)) ∘ fun q => if q.1 = b then (q.1, q.2.1, as) else q) = fun q => decide (q.1 = x) := by
      funext q
      show decide ((if q.1 = b then (q.1, q.2.1, as) else q).1 = x) = decide (q.1 = x)
      split <;> rfl
    rw [e]
    by_cases hx : x = b
    · rw [if_pos hx, hx]
      cases q : rows.find? fun q => decide (q.1 = b) with
      | none => rfl
      | some r =>
        have : r.1 = b := of_decide_eq_true (List.find?_some (p := fun r : Int × Addr × List Addr => decide (r.1 = b)) q)
        show some (if r.1 = b then (r.1, r.2.1, as) else r) = some (r.1, r.2.1, as)
        rw [if_pos this]
    · rw [if_neg hx]
      cases q : rows.find? fun q => decide (q.1 = x) with
      | none => rfl
      | some r =>
        have : r.1 = x := of_decide_eq_true (List.find?_some (p := fun r : Int × Addr × List Addr => decide (r.1 = x)) q)
        show some (if r.1 = b then (r.1, r.2.1, as) else r) = some r
        rw [if_neg (by rw [this]; exact hx)]
theorem gotRows_sub {rows : List (Int × Addr × List Addr)} {b : Int} {as : List Addr} {q} (h : q ∈ gotRows rows b as) : ∃ q0 ∈ rows, q0.1 = q.1 ∧ q0.2.1 = q.2.1 ∧ ((q0.1 ≠ b ∧ q = q0) ∨ (q0.1 = b ∧ as ≠ [] ∧ q.2.2 = as)) := by
  unfold gotRows at h
  split at h
  · obtain ⟨h1, h2⟩ := List.mem_filter.mp h
    exact ⟨q, h1, rfl, rfl, .inl ⟨of_decide_eq_true h2, rfl⟩⟩
  · next ha =>
    obtain ⟨q0, h1, h2⟩ := List.mem_map.mp h
    by_cases z : q0.1 = b
    · rw [if_pos z] at h2
      subst h2
      exact ⟨q0, h1, rfl, rfl, .inr ⟨z, ha, rfl⟩⟩
    · rw [if_neg z] at h2
      subst h2
      exact ⟨q0, h1, rfl, rfl, .inl ⟨z, rfl⟩⟩
theorem sub_nodup {α β : Type} [DecidableEq β] {f : α → β} {l : List α} (p : α → Bool) (h : (l.map f).Nodup) : ((l.filter p).map f).Nodup := h.sublist (List.Sublist.map f List.filter_sublist)
theorem gotRows_m1 {rows : List (Int × Addr × List Addr)} {b : Int} {as : List Addr} (h : (rows.map (·.1)).Nodup) : ((gotRows rows b as).map (·.1)).Nodup := by
  unfold gotRows
  split
  · exact sub_nodup _ h
  · rw [List.map_map]
    have e : ((fun q : Int × Addr × List Addr => q.1) ∘ fun q => if q.1 = b then (q.1, q.2.1, as) else q) = (·.1) := by
      funext q
      show (if q.1 = b then (q.1, q.2.1, as) else q).1 = q.1
      split <;> rfl
    rw [e]; exact h
theorem gotRows_m2 {rows : List (Int × Addr × List Addr)} {b : Int} {as : List Addr} (h : (rows.map (·.2.1)).Nodup) : ((gotRows rows b as).map (·.2.1)).Nodup := by
  unfold gotRows
  split
  · exact sub_nodup _ h
  · rw [List.map_map]
    have e : ((fun q : Int × Addr × List Addr => q.2.1) ∘ fun q => if q.1 = b then (q.1, q.2.1, as) else q) = (·.2.1) := by
      funext q
      show (if q.1 = b then (q.1, q.2.1, as) else q).2.1 = q.2.1
      split <;> rfl
    rw [e]; exact h
abbrev kvs_of (rows : List (Int × Addr × List Addr)) : List (Key × V) := rows.map fun r => ((Sum.inl r.1 : Key), V.ref r.2.1)
theorem gotRows_kvs {rows : List (Int × Addr × List Addr)} {b : Int} {as : List Addr} : kvs_of (gotRows rows b as) = if as = [] then dropK (kvs_of rows) (Sum.inl b) else kvs_of rows := by
  unfold gotRows kvs_of dropK
  split
  · rw [List.filter_map]
    congr 1
    congr 1
    funext q
    show decide (q.1 ≠ b) = decide ((Sum.inl q.1 : Key) ≠ Sum.inl b)
    by_cases h : q.1 = b
    · simp [h]
    · simp [h]
  · rw [List.map_map]
    congr 1
    funext q
    show ((Sum.inl (if q.1 = b then (q.1, q.2.1, as) else q).1 : Key), V.ref (if q.1 = b then (q.1, q.2.1, as) else q).2.1) = _
    split <;> rfl
theorem got_core {C p : Addr} {H H4 : Hp} {D : Dsk} {S : SD} {b : Int} {c : Ct} {cs : List Ct} {r : Int × Addr × List Addr} {a : Addr} {as : List Addr} (h : DiskAt C H p D) (v : Sees K H D S) (e : S.rows b = c :: cs) (np : S.pw ≠ some 0)
    (hm : r ∈ D.rows) (hk : r.1 = b) (ef : D.rows.find? (fun r => decide (r.1 = b)) = some r) (er : r.2.2 = a :: as) (ha : SqT K H a c) (has : TupsAt K H as cs)
    (ob : InsAt C H4 p (df D.l D.w (pwV (D.pw.map (· - 1))) (D.rc + 1))) (hl : H4 D.l = some (.lst ((D.lies.set b.toNat a).map V.ref))) (hw : H4 D.w = some (.dK (kvs_of (gotRows D.rows b as)))) (hra : H4 r.2.1 = some (.lst (as.map V.ref)))
    (oth : ∀ x o, x ≠ p → x ≠ D.l → x ≠ D.w → x ≠ r.2.1 → H x = some o → H4 x = some o) :
    DS K C H4 p (({ D with lies := D.lies.set b.toNat a, rows := gotRows D.rows b as, pw := D.pw.map (· - 1), rc := D.rc + 1 } : Dsk).foot p) (S.got b c cs) ∧ Ch (D.foot p) H H4 ∧ ∀ x ∈ ({ D with lies := D.lies.set b.toNat a, rows := gotRows D.rows b as, pw := D.pw.map (· - 1), rc := D.rc + 1 } : Dsk).foot p, x ∈ D.foot p := by
  have fr : r.2.1 ∈ D.foot p := by
    unfold Dsk.foot
    exact List.mem_cons_of_mem _ (List.mem_cons_of_mem _ (List.mem_cons_of_mem _ (List.mem_map.mpr ⟨r, hm, rfl⟩)))
  have ch : Ch (D.foot p) H H4 := fun x o hx q => by
    have n : x ∉ D.foot p := fun m => by
      rcases q with q | q
      · exact q m
      · rw [h.mut x m o hx] at q; cases q
    exact oth x o (fun z => n (by rw [z]; unfold Dsk.foot; simp)) (fun z => n (by rw [z]; unfold Dsk.foot; simp)) (fun z => n (by rw [z]; unfold Dsk.foot; simp)) (fun z => n (by rw [z]; exact fr)) hx
  refine ⟨⟨_, ⟨ob, hl, hw, fun q hq => ?_, gotRows_m2 h.nd, gotRows_m1 h.kd, fun z => ?_, ?_, fun q hq => ?_⟩, rfl, ⟨SD.got_ok v.ok e np, (v.lv.ch ch).set _ (ch.st ha), fun x => ?_, ?_, ?_⟩⟩, ch, fun x hx => ?_⟩
  · obtain ⟨q0, h0, e1, e2, z⟩ := gotRows_sub hq
    rcases z with ⟨z, rfl⟩ | ⟨z, n, e3⟩
    · refine ⟨oth _ _ ?_ ?_ ?_ ?_ (h.hr q h0).1, (h.hr q h0).2⟩
      · intro y; obtain ⟨dx, hob⟩ := h.ob; have := (h.hr q h0).1; rw [y, hob] at this; cases this
      · intro y; exact h.lr (y ▸ List.mem_map.mpr ⟨q, h0, rfl⟩)
      · intro y; have := (h.hr q h0).1; rw [y, h.hw] at this; cases this
      · intro y; have := adr_uniq h.nd q h0 r hm y; rw [this] at z; exact z hk
    · have : q0 = r := row_uniq h.kd q0 h0 r hm (by rw [z, hk])
      subst this
      rw [← e2, e3]; exact ⟨hra, n⟩
  · obtain ⟨q, hq, y⟩ := List.mem_map.mp z
    obtain ⟨q0, h0, e1, e2, _⟩ := gotRows_sub hq
    exact h.lr (List.mem_map.mpr ⟨q0, h0, by rw [e2, y]⟩)
  · show (D.lies.set _ _).length ≤ 600
    rw [List.length_set]; exact h.few
  · obtain ⟨q0, h0, e1, e2, _⟩ := gotRows_sub hq
    show 0 ≤ q.1 ∧ q.1 < ((D.lies.set _ _).length : Nat)
    rw [← e1, List.length_set]; exact h.kb q0 h0
  · have hx := v.rv x
    show match (gotRows D.rows b as).find? fun q => decide (q.1 = x) with
      | none => (if x = b then cs else S.rows x) = []
      | some r => TupsAt K H4 r.2.2 (if x = b then cs else S.rows x)
    rw [gotRows_find]
    by_cases hxb : x = b
    · rw [if_pos hxb, if_pos hxb]
      by_cases hna : as = []
      · rw [if_pos hna]
        have := has.1
        rw [hna] at this
        exact List.length_eq_zero_iff.mp this.symm
      · rw [if_neg hna, ef]
        exact has.ch ch
    · rw [if_neg hxb, if_neg hxb]
      exact (v.rv.ch ch) x
  · show D.pw.map _ = S.pw.map _
    rw [v.pw]
  · show D.rc + 1 = S.rc + 1
    rw [v.rc]
  · unfold Dsk.foot at hx ⊢
    simp only [List.mem_cons] at hx ⊢
    rcases hx with z | z | z | z
    · exact .inl z
    · exact .inr (.inl z)
    · exact .inr (.inr (.inl z))
    · obtain ⟨q, hq, y⟩ := List.mem_map.mp z
      obtain ⟨q0, h0, e1, e2, _⟩ := gotRows_sub hq
      exact .inr (.inr (.inr (List.mem_map.mpr ⟨q0, h0, by rw [e2, y]⟩)))
end
end Vw

set_option Elab.async false
set_option linter.all false
set_option maxRecDepth 100000
set_option maxHeartbeats 4000000
namespace Vw
open PySem PySem.Spec PyProof.Rows L2 RT
local macro_rules | `(tactic| walk_at "s") => `(tactic| with_reducible first
  | refine' s_seq ?_ | refine' s_next ?_ | refine' s_set ?_ | refine' s_ret ?_ | refine' s_retN ?_ | refine' s_drop ?_ | refine' s_if ?_ | refine' s_ipI ?_
  | refine' e_c ?_ | refine' e_op ?_ | refine' e_un ?_ | refine' e_neg ?_ | refine' e_test ?_ | refine' e_tB ?_ | refine' e_bl ?_ | refine' e_and ?_ | refine' e_or ?_ | refine' e_not ?_
  | refine' e_andV ?_ | refine' e_orV ?_ | refine' e_notV ?_ | refine' e_kV ?_ | refine' e_ife ?_ | refine' e_nil ?_ | refine' e_cons ?_ | refine' e_cb ?_ | refine' e_call ?_ | refine' e_chain ?_
  | refine' o_addI ?_ | refine' o_eqI ?_ | refine' o_neI ?_ | refine' o_I0 ?_ | refine' o_pow16 ?_ | refine' o_pow17 ?_ | refine' o_pow18 ?_ | refine' o_pow19 ?_ | refine' o_pow30 ?_ | refine' o_pow31 ?_ | refine' o_pow1 ?_ | refine' o_pow2 ?_ | refine' o_pow3 ?_ | refine' o_pow4 ?_ | refine' o_pow5 ?_ | refine' o_pow6 ?_ | refine' o_pow9 ?_ | refine' o_pow10 ?_ | refine' o_pow12 ?_ | refine' o_pow15 ?_ | refine' o_pow20 ?_ | refine' e_lst ?_ | refine' e_tup ?_ | refine' iteT ?_ | refine' i_nt ?_ | refine' i_nf ?_ | refine' iteF ?_ | refine' c_int ?_ | refine' c_abs ?_ | refine' c_min2 ?_ | refine' c_max2 ?_ | refine' e_tru ?_ | refine' t_bl ?_ | refine' t_non ?_ | refine' t_int ?_ | refine' isN_non ?_ | refine' isN_int ?_ | refine' isN_ref ?_ | refine' isN_str ?_ | refine' isN_bl ?_ | refine' noN_non ?_ | refine' noN_int ?_ | refine' noN_ref ?_ | refine' noN_str ?_ | refine' noN_bl ?_
  | refine' s_brk ?_ | refine' s_cont ?_ | refine' s_for ?_ | refine' e_lc ?_ | refine' e_dc ?_ | refine' e_yes ?_ | refine' i_rng1 ?_ | refine' i_lst0 ?_ | refine' i_tup0 ?_ | refine' e_bm ?_ | refine' e_sl ?_ | refine' e_np ?_ | refine' e_pt ?_ | refine' e_ptI ?_ | refine' e_din ?_ | refine' e_dnin ?_ | refine' e_methE ?_ | refine' p_cons ?_ | refine' p_nil ?_ | refine' s_dput ?_ | refine' e_dget2 ?_ | refine' e_dpop1 ?_ | refine' i_enum0 ?_ | refine' i_rev0 ?_ | refine' g_sub ?_ | refine' s_asg ?_ | refine' i_zip0 ?_ | refine' e_revT ?_ | refine' isB_bl ?_ | refine' notB_bl ?_ | refine' o_neB ?_ | refine' i_nrr ?_ | refine' e_meth ?_ | refine' s_setf ?_ | refine' e_fld ?_ | refine' e_bm0 ?_ | refine' r_tx ?_ | refine' o_eqStr ?_ | refine' o_neStr ?_)
local macro_rules | `(tactic| walk_at "v") => `(tactic| ((with_reducible refine' e_var ?hv ?_); (case hv => exact rfl)))
local macro_rules | `(tactic| walk_at "a") => `(tactic| ((with_reducible refine' s_aug ?hv ?_); (case hv => exact rfl)))
local macro_rules | `(tactic| walk_at "m") => `(tactic| first
  | ((with_reducible refine' o_mod ?hv ?_); (case hv => first | decide | omega))
  | ((with_reducible refine' o_mulR ?hv ?_); (case hv => omega))
  | ((with_reducible refine' o_mulL ?hv ?_); (case hv => omega))
  | ((with_reducible refine' o_div ?hv ?hw ?_); (case hv => omega); (case hw => omega))
  | ((with_reducible refine' o_pow _ ?hv ?hw ?hx ?_); (case hv => exact rfl); (case hw => decide); (case hx => decide)))
local macro_rules | `(tactic| walk_at "i") => `(tactic| (first
  | ((with_reducible refine' isi_int true ?hv ?_); (case hv => exact (by decide +kernel)))
  | ((with_reducible refine' isi_int false ?hv ?_); (case hv => exact (by decide +kernel)))
  | ((with_reducible refine' isi_non true ?hv ?_); (case hv => exact (by decide +kernel)))
  | ((with_reducible refine' isi_non false ?hv ?_); (case hv => exact (by decide +kernel)))
  | ((with_reducible refine' isi_str true ?hv ?_); (case hv => exact (by decide +kernel)))
  | ((with_reducible refine' isi_str false ?hv ?_); (case hv => exact (by decide +kernel)))
  | ((with_reducible refine' isi_bl true ?hv ?_); (case hv => exact (by decide +kernel)))
  | ((with_reducible refine' isi_bl false ?hv ?_); (case hv => exact (by decide +kernel)))
  | ((with_reducible refine' isi_t true ?hw ?hv ?_); (case hw => assumption); (case hv => exact (by decide +kernel)))
  | ((with_reducible refine' isi_t false ?hw ?hv ?_); (case hw => assumption); (case hv => exact (by decide +kernel)))
  | ((with_reducible refine' isi_l true ?hw ?hv ?_); (case hw => assumption); (case hv => exact (by decide +kernel)))
  | ((with_reducible refine' isi_l false ?hw ?hv ?_); (case hw => assumption); (case hv => exact (by decide +kernel)))
  | ((with_reducible refine' isi_tup true ?hw ?hv ?_); (case hw => assumption); (case hv => exact (by decide +kernel)))
  | ((with_reducible refine' isi_tup false ?hw ?hv ?_); (case hw => assumption); (case hv => exact (by decide +kernel)))
  | ((with_reducible refine' isi_lst true ?hw ?hv ?_); (case hw => assumption); (case hv => exact (by decide +kernel)))
  | ((with_reducible refine' isi_lst false ?hw ?hv ?_); (case hw => assumption); (case hv => exact (by decide +kernel)))))
local macro_rules | `(tactic| walk_at "om") => `(tactic| first | omega | (simp only [List.length_cons, List.length_nil, List.length_map, List.length_append, List.length_range]; omega))
local macro_rules | `(tactic| walk_at "d") => `(tactic| (first
  | ((with_reducible refine' i_dt ?hv ?_); (case hv => walk_at "om"))
  | ((with_reducible refine' i_df ?hv ?_); (case hv => walk_at "om"))
  | ((with_reducible refine' i_ndt ?hv ?_); (case hv => walk_at "om"))
  | ((with_reducible refine' i_ndf ?hv ?_); (case hv => walk_at "om"))))
local macro_rules | `(tactic| walk_at "x") => `(tactic| first
  | ((with_reducible refine' o_ixA ?hv ?hw ?_); (case hv => assumption); (case hw => exact rfl))
  | ((with_reducible refine' o_ixU ?hv ?hw ?_); (case hv => assumption); (case hw => exact rfl))
  | ((with_reducible refine' o_ixL ?hv ?hw ?_); (case hv => assumption); (case hw => exact rfl))
  | ((with_reducible refine' o_ixT ?hv ?hw ?_); (case hv => assumption); (case hw => exact rfl))
  | ((with_reducible refine' set_ ?hv ?hw ?_); (case hv => assumption); (case hw => exact rfl))
  | ((with_reducible refine' e_lenM ?hv ?_); (case hv => first | assumption | exact slO (by assumption)))
  | ((with_reducible refine' e_lenN ?hv ?_); (case hv => first | assumption | exact stO (by assumption)))
  | ((with_reducible refine' e_lenL ?hv ?_); (case hv => first | assumption | exact slO (by assumption)))
  | ((with_reducible refine' e_lenT ?hv ?_); (case hv => first | assumption | exact stO (by assumption))))
local macro_rules | `(tactic| walk_at "c") => `(tactic| first
  | ((with_reducible refine' c_listL ?hv ?_); (case hv => assumption))
  | ((with_reducible refine' c_listT ?hv ?_); (case hv => assumption))
  | ((with_reducible refine' c_tupL ?hv ?_); (case hv => first | assumption | exact slO (by assumption)))
  | ((with_reducible refine' c_tupT ?hv ?_); (case hv => assumption))
  | ((with_reducible refine' t_lst ?hv ?_); (case hv => first | assumption | exact slO (by assumption)))
  | ((with_reducible refine' t_tup ?hv ?_); (case hv => assumption))
  | ((with_reducible refine' r_sl ?hv ?_); (case hv => first | assumption | exact slO (by assumption)))
  | ((with_reducible refine' o_inL ?hv ?_); (case hv => first | assumption | exact slO (by assumption)))
  | ((with_reducible refine' o_inT ?hv ?_); (case hv => first | assumption | exact stO (by assumption)))
  | ((with_reducible refine' o_niL ?hv ?_); (case hv => first | assumption | exact slO (by assumption)))
  | ((with_reducible refine' o_niT ?hv ?_); (case hv => first | assumption | exact stO (by assumption)))
  | ((with_reducible refine' ty_lst ?hv ?_); (case hv => assumption)))
local macro_rules | `(tactic| walk_at "mo") => `(tactic| repeat' (first | exact m_yes | exact m_var | exact m_c | exact m_I0 | exact m_I | exact m_ix | exact m_add | exact m_in | exact m_int1 | exact m_abs | exact m_nil | refine' m_and ?_ ?_ | refine' m_test ?_ | refine' m_tB ?_ | refine' m_op ?_ ?_ ?_ | refine' m_cons ?_ ?_ | refine' m_cb ?_ ?_))
local macro_rules | `(tactic| walk_at "go") => `(tactic| repeat' (first | walk_at "s" | walk_at "v" | walk_at "a" | walk_at "x" | walk_at "m" | walk_at "c" | walk_at "i" | walk_at "d"))

section
variable {P : Program} {w : World} {K : PySem.W.Frag} {mg : Str → Option Value} {base : Heap}
theorem r_pop0 {l : Addr} {y : V} {ys : List V} {H : Hp} {Q : VK} (h : H l = some (.lst (y :: ys))) (q : ∀ H2, Oth l H H2 → H2 l = some (.lst ys) → Q y H2) : rPopAt (.ref l) [.int 0] H Q :=
  ⟨l, y :: ys, 0, 0, y, rfl, rfl, h, by decide, by decide, by simp [seqIndex?], rfl, q _ (fun b o n z => by rw [upd_ne n]; exact z) upd_same⟩
def sp_reach1 (K : PySem.W.Frag) (C Cs : Addr) : Sp := fun vs H Q E => ∃ p F S b c cs, vs = [.ref p, .int b] ∧ DS K C H p F S ∧ S.rows b = c :: cs ∧ (S.pw = some 0 → E (.ref Cs) none H) ∧
  (S.pw ≠ some 0 → ∀ H' F', DS K C H' p F' (S.got b c cs) → Ch F H H' → (∀ a ∈ F', a ∈ F) → Q .non H')
theorem ok_Disk__reach_one (T : Txt K mg) : FnOk P w K mg base (L2.CX P w) 3 T.m_Disk__reach_one.f T.m_Disk__reach_one.fd ["self", "block"] ((sp_reach1 K T.C_Disk T.e_Stopped.C)) := by
  refine T.m_Disk__reach_one.F.okX sc_Disk__reach_one (fun vs H Q E h => ?_) (fun cdv A outer s H vs Q E hr h => ?_)
  · obtain ⟨p, F, S, b, c, cs, rfl, _⟩ := h
    rfl
  · obtain ⟨p, F, S, b, c, cs, rfl, ⟨D, hD, rfl, v⟩, hrow, k0, k1⟩ := h
    refine ⟨_, (Evl.pss_cut (ps_if (pt_cmpR oNotN (peFld (K := K) (pv 0) rfl) pe_non (nomark _)) (pss_cons (ps_if (pt_cmpR (oEq (K := K) hr.units) (peFld (K := K) (pv 0) rfl) pe_int (nomark _)) (pss_one (ps_raise rfl (takes_of rfl rfl rfl rfl) (pmk_oexN T.e_Stopped.o T.e_Stopped.i T.e_Stopped.t (ok_StoreError_init T.m_StoreError_init T.z_ValueError T.vV) (hr.mono (by decide)) T.m_StoreError_init.b pass0 (by rfl) T.e_Stopped.g))) pss_nil)
    (pss_one (ps_fldaug (pv 0) pe_int in_sub))) pss_nil)
    (pss_cons (ps_set (i := 2) sc_Disk__reach_one.nd rfl (Or.inl rfl) (pe_dget (hu_of hr) (peFld (K := K) (pv 0) rfl) (pv 1) (fun _ _ => rfl)))
    (pss_cons (ps_asg (pe_bm PySem.F.plainAttrs_list PySem.F.slot_list_pop PySem.F.type_list_pop mt_popAt (pv 2) (pa_cons pe_int pa_nil)) (pg_sub (peFld (K := K) (pv 0) rfl) (pv 1) set_list))
    (pss_cons (ps_fldaug (pv 0) pe_int in_add)
    (pss_one (ps_if (pt_not (ptTruth (K := K) (pv 2) (by intro _; rfl))) (pss_one (ps_ddel (peFld (K := K) (pv 0) rfl) (pv 1))) pss_nil)))))), ?_⟩
    walk_at "go"
    refine s_cut (fun σ2 H2 => S.pw ≠ some 0 ∧ σ2 = [some (.ref p), some (.int b), none] ∧ InsAt T.C_Disk H2 p (df D.l D.w (pwV (D.pw.map (· - 1))) D.rc) ∧ (∀ x, x ≠ p → H2 x = H x)) ?_ ?_
    · walk_at "go"
      refine o_fld hD.ob T.k_Disk.cl T.n_Disk__power (df_p _ _ _ _) ?_
      have epw := v.pw
      have hob := hD.ob
      cases ep : D.pw with
      | none =>
        rw [ep] at hob
        walk_at "go"
        exact ⟨by rw [← epw, ep]; simp, rfl, hob, fun _ _ => rfl⟩
      | some i =>
        rw [ep] at hob
        walk_at "go"
        refine o_fld hob T.k_Disk.cl T.n_Disk__power (df_p _ _ _ _) ?_
        walk_at "go"
        refine i_d (fun q => ?_) (fun q => ?_)
        · subst q
          walk_at "go"
          exact e_raise T.e_Stopped.o (k0 (by rw [← epw, ep]))
        · walk_at "go"
          obtain ⟨dx, hob⟩ := hob
          refine ⟨_, rfl, p, T.C_Disk, dx, _, _, rfl, hob, T.k_Disk.cl, T.n_Disk__power, df_p _ _ _ _, ?_⟩
          refine ⟨_, _, rfl, rfl, dx, _, hob, by show 4 < 1000; decide, ?_⟩
          rw [df_pp]
          exact ⟨by rw [← epw, ep]; intro z; exact q (Option.some.inj z), rfl, ⟨dx, upd_same⟩, fun x hx => upd_ne hx⟩
    · rintro σ2 H2 ⟨np, rfl, hob, hoth⟩
      obtain ⟨r, ef, hm, hk, tu⟩ := v.rv.there (b := b) (by rw [hrow]; simp)
      rw [hrow] at tu
      obtain ⟨a, as, er, ta, tas⟩ := tu.cons_inv
      have hr0 := hD.hr r hm
      rw [er] at hr0
      obtain ⟨dx0, hob0⟩ := hD.ob
      have hpw : D.w ≠ p := fun z => by have := hD.hw; rw [z, hob0] at this; cases this
      have hpl : D.l ≠ p := fun z => by have := hD.hl; rw [z, hob0] at this; cases this
      have hpr : r.2.1 ≠ p := fun z => by have := hr0.1; rw [z, hob0] at this; cases this
      have hrl : r.2.1 ≠ D.l := fun z => hD.lr (z ▸ List.mem_map.mpr ⟨r, hm, rfl⟩)
      have hrw : r.2.1 ≠ D.w := fun z => by have := hr0.1; rw [z, hD.hw] at this; cases this
      have hlw : D.l ≠ D.w := fun z => by have := hD.hl; rw [z, hD.hw] at this; cases this
      have hb := hD.kb r hm
      rw [hk] at hb
      have h2w : H2 D.w = _ := (hoth _ hpw).trans hD.hw
      have h2l : H2 D.l = _ := (hoth _ hpl).trans hD.hl
      have h2r : H2 r.2.1 = _ := (hoth _ hpr).trans hr0.1
      walk_at "go"
      refine e_dget ?_
      walk_at "go"
      refine o_fld hob T.k_Disk.cl T.n_Disk__waits (df_w _ _ _ _) ?_
      walk_at "go"
      refine o_dget (k := Sum.inl b) h2w (by rw [val_row, ef]; rfl) ?_
      walk_at "go"
      refine r_pop0 h2r fun H3 o3 h3 => ?_
      obtain ⟨dx, hob⟩ := hob
      have h3p : H3 p = _ := o3 _ _ hpr.symm hob
      have h3l : H3 D.l = _ := o3 _ _ hrl.symm h2l
      have h3w : H3 D.w = _ := o3 _ _ hrw.symm h2w
      walk_at "go"
      refine o_fld ⟨dx, h3p⟩ T.k_Disk.cl T.n_Disk__lies (df_l _ _ _ _) ?_
      walk_at "go"
      refine set_ (j := b.toNat) h3l (ixN_in (by omega) (by rw [List.length_map]; omega)) fun H4 o4 h4 => ?_
      have h4p : H4 p = _ := o4 _ _ hpl.symm h3p
      have h4w : H4 D.w = _ := o4 _ _ hlw.symm h3w
      have h4r : H4 r.2.1 = _ := o4 _ _ hrl h3
      walk_at "go"
      refine ⟨_, rfl, p, T.C_Disk, dx, _, _, rfl, h4p, T.k_Disk.cl, T.n_Disk__reached, df_r _ _ _ _, ?_⟩
      refine ⟨_, _, rfl, rfl, dx, _, h4p, by show 4 < 1000; decide, ?_⟩
      rw [df_pr]
      have h5p : upd H4 p (.ins T.C_Disk dx (df D.l D.w (pwV (D.pw.map (· - 1))) (D.rc + 1))) p = some (.ins T.C_Disk dx (df D.l D.w (pwV (D.pw.map (· - 1))) (D.rc + 1))) := upd_same
      have h5 : ∀ x, x ≠ p → upd H4 p (.ins T.C_Disk dx (df D.l D.w (pwV (D.pw.map (· - 1))) (D.rc + 1))) x = H4 x := fun x hx => upd_ne hx
      generalize upd H4 p (.ins T.C_Disk dx (df D.l D.w (pwV (D.pw.map (· - 1))) (D.rc + 1))) = H5 at *
      have h5r : H5 r.2.1 = _ := (h5 _ hpr).trans h4r
      have h5w : H5 D.w = _ := (h5 _ hpw).trans h4w
      have old : ∀ x o, x ≠ p → x ≠ D.l → x ≠ D.w → x ≠ r.2.1 → H x = some o → H5 x = some o := fun x o n1 n2 n3 n4 q => by
        rw [h5 x n1]; exact o4 _ _ n2 (o3 _ _ n4 ((hoth x n1).trans q))
      have fin := fun (H6 : Hp) (h6 : ∀ x, x ≠ D.w → H6 x = H5 x) (h6w : H6 D.w = some (.dK (kvs_of (gotRows D.rows b as)))) => got_core (H4 := H6) hD v hrow np hm hk ef er ta tas ⟨dx, (h6 p hpw.symm).trans h5p⟩ (by rw [h6 _ hlw, h5 _ hpl, h4, List.map_set]) h6w ((h6 _ hrw).trans h5r) (fun x o n1 n2 n3 n4 q => by rw [h6 x n3]; exact old x o n1 n2 n3 n4 q)
      walk_at "go"
      cases as with
      | nil =>
        walk_at "go"
        refine ⟨_, rfl, p, T.C_Disk, dx, _, _, rfl, h5p, T.k_Disk.cl, T.n_Disk__waits, df_w _ _ _ _, ?_⟩
        refine ⟨_, rfl, D.w, _, Sum.inl b, rfl, h5w, rfl, by rw [val_row, ef]; rfl, ?_⟩
        obtain ⟨g1, g2, g3⟩ := fin (upd H5 D.w (.dK (dropK (kvs_of D.rows) (Sum.inl b)))) (fun x hx => upd_ne hx) (by rw [gotRows_kvs, if_pos rfl]; exact upd_same)
        exact k1 np _ _ g1 g2 g3
      | cons a2 as2 =>
        walk_at "go"
        obtain ⟨g1, g2, g3⟩ := fin H5 (fun x hx => rfl) (by rw [gotRows_kvs, if_neg (by simp)]; exact h5w)
        exact k1 np _ _ g1 g2 g3
end
end Vw

set_option Elab.async false
set_option linter.all false
set_option maxRecDepth 100000
set_option maxHeartbeats 4000000
namespace Vw
open PySem PySem.Spec PyProof.Rows L2 RT
local macro_rules | `(tactic| walk_at "s") => `(tactic| with_reducible first
  | refine' s_seq ?_ | refine' s_next ?_ | refine' s_set ?_ | refine' s_ret ?_ | refine' s_retN ?_ | refine' s_drop ?_ | refine' s_if ?_ | refine' s_ipI ?_
  | refine' e_c ?_ | refine' e_op ?_ | refine' e_un ?_ | refine' e_neg ?_ | refine' e_test ?_ | refine' e_tB ?_ | refine' e_bl ?_ | refine' e_and ?_ | refine' e_or ?_ | refine' e_not ?_
  | refine' e_andV ?_ | refine' e_orV ?_ | refine' e_notV ?_ | refine' e_kV ?_ | refine' e_ife ?_ | refine' e_nil ?_ | refine' e_cons ?_ | refine' e_cb ?_ | refine' e_call ?_ | refine' e_chain ?_
  | refine' o_addI ?_ | refine' o_eqI ?_ | refine' o_neI ?_ | refine' o_I0 ?_ | refine' o_pow16 ?_ | refine' o_pow17 ?_ | refine' o_pow18 ?_ | refine' o_pow19 ?_ | refine' o_pow30 ?_ | refine' o_pow31 ?_ | refine' o_pow1 ?_ | refine' o_pow2 ?_ | refine' o_pow3 ?_ | refine' o_pow4 ?_ | refine' o_pow5 ?_ | refine' o_pow6 ?_ | refine' o_pow9 ?_ | refine' o_pow10 ?_ | refine' o_pow12 ?_ | refine' o_pow15 ?_ | refine' o_pow20 ?_ | refine' e_lst ?_ | refine' e_tup ?_ | refine' iteT ?_ | refine' i_nt ?_ | refine' i_nf ?_ | refine' iteF ?_ | refine' c_int ?_ | refine' c_abs ?_ | refine' c_min2 ?_ | refine' c_max2 ?_ | refine' e_tru ?_ | refine' t_bl ?_ | refine' t_non ?_ | refine' t_int ?_ | refine' isN_non ?_ | refine' isN_int ?_ | refine' isN_ref ?_ | refine' isN_str ?_ | refine' isN_bl ?_ | refine' noN_non ?_ | refine' noN_int ?_ | refine' noN_ref ?_ | refine' noN_str ?_ | refine' noN_bl ?_
  | refine' s_brk ?_ | refine' s_cont ?_ | refine' s_for ?_ | refine' e_lc ?_ | refine' e_dc ?_ | refine' e_yes ?_ | refine' i_rng1 ?_ | refine' i_lst0 ?_ | refine' i_tup0 ?_ | refine' e_bm ?_ | refine' e_sl ?_ | refine' e_np ?_ | refine' e_pt ?_ | refine' e_ptI ?_ | refine' e_din ?_ | refine' e_dnin ?_ | refine' e_methE ?_ | refine' p_cons ?_ | refine' p_nil ?_ | refine' s_dput ?_ | refine' e_dget2 ?_ | refine' e_dpop1 ?_ | refine' i_enum0 ?_ | refine' i_rev0 ?_ | refine' g_sub ?_ | refine' s_asg ?_ | refine' i_zip0 ?_ | refine' e_revT ?_ | refine' isB_bl ?_ | refine' notB_bl ?_ | refine' o_neB ?_ | refine' i_nrr ?_ | refine' e_meth ?_ | refine' s_setf ?_ | refine' e_fld ?_ | refine' e_bm0 ?_ | refine' r_tx ?_ | refine' o_eqStr ?_ | refine' o_neStr ?_)
local macro_rules | `(tactic| walk_at "v") => `(tactic| ((with_reducible refine' e_var ?hv ?_); (case hv => exact rfl)))
local macro_rules | `(tactic| walk_at "a") => `(tactic| ((with_reducible refine' s_aug ?hv ?_); (case hv => exact rfl)))
local macro_rules | `(tactic| walk_at "m") => `(tactic| first
  | ((with_reducible refine' o_mod ?hv ?_); (case hv => first | decide | omega))
  | ((with_reducible refine' o_mulR ?hv ?_); (case hv => omega))
  | ((with_reducible refine' o_mulL ?hv ?_); (case hv => omega))
  | ((with_reducible refine' o_div ?hv ?hw ?_); (case hv => omega); (case hw => omega))
  | ((with_reducible refine' o_pow _ ?hv ?hw ?hx ?_); (case hv => exact rfl); (case hw => decide); (case hx => decide)))
local macro_rules | `(tactic| walk_at "i") => `(tactic| (first
  | ((with_reducible refine' isi_int true ?hv ?_); (case hv => exact (by decide +kernel)))
  | ((with_reducible refine' isi_int false ?hv ?_); (case hv => exact (by decide +kernel)))
  | ((with_reducible refine' isi_non true ?hv ?_); (case hv => exact (by decide +kernel)))
  | ((with_reducible refine' isi_non false ?hv ?_); (case hv => exact (by decide +kernel)))
  | ((with_reducible refine' isi_str true ?hv ?_); (case hv => exact (by decide +kernel)))
  | ((with_reducible refine' isi_str false ?hv ?_); (case hv => exact (by decide +kernel)))
  | ((with_reducible refine' isi_bl true ?hv ?_); (case hv => exact (by decide +kernel)))
  | ((with_reducible refine' isi_bl false ?hv ?_); (case hv => exact (by decide +kernel)))
  | ((with_reducible refine' isi_t true ?hw ?hv ?_); (case hw => assumption); (case hv => exact (by decide +kernel)))
  | ((with_reducible refine' isi_t false ?hw ?hv ?_); (case hw => assumption); (case hv => exact (by decide +kernel)))
  | ((with_reducible refine' isi_l true ?hw ?hv ?_); (case hw => assumption); (case hv => exact (by decide +kernel)))
  | ((with_reducible refine' isi_l false ?hw ?hv ?_); (case hw => assumption); (case hv => exact (by decide +kernel)))
  | ((with_reducible refine' isi_tup true ?hw ?hv ?_); (case hw => assumption); (case hv => exact (by decide +kernel)))
  | ((with_reducible refine' isi_tup false ?hw ?hv ?_); (case hw => assumption); (case hv => exact (by decide +kernel)))
  | ((with_reducible refine' isi_lst true ?hw ?hv ?_); (case hw => assumption); (case hv => exact (by decide +kernel)))
  | ((with_reducible refine' isi_lst false ?hw ?hv ?_); (case hw => assumption); (case hv => exact (by decide +kernel)))))
local macro_rules | `(tactic| walk_at "om") => `(tactic| first | omega | (simp only [List.length_cons, List.length_nil, List.length_map, List.length_append, List.length_range]; omega))
local macro_rules | `(tactic| walk_at "d") => `(tactic| (first
  | ((with_reducible refine' i_dt ?hv ?_); (case hv => walk_at "om"))
  | ((with_reducible refine' i_df ?hv ?_); (case hv => walk_at "om"))
  | ((with_reducible refine' i_ndt ?hv ?_); (case hv => walk_at "om"))
  | ((with_reducible refine' i_ndf ?hv ?_); (case hv => walk_at "om"))))
local macro_rules | `(tactic| walk_at "x") => `(tactic| first
  | ((with_reducible refine' o_ixA ?hv ?hw ?_); (case hv => assumption); (case hw => exact rfl))
  | ((with_reducible refine' o_ixU ?hv ?hw ?_); (case hv => assumption); (case hw => exact rfl))
  | ((with_reducible refine' o_ixL ?hv ?hw ?_); (case hv => assumption); (case hw => exact rfl))
  | ((with_reducible refine' o_ixT ?hv ?hw ?_); (case hv => assumption); (case hw => exact rfl))
  | ((with_reducible refine' set_ ?hv ?hw ?_); (case hv => assumption); (case hw => exact rfl))
  | ((with_reducible refine' e_lenM ?hv ?_); (case hv => first | assumption | exact slO (by assumption)))
  | ((with_reducible refine' e_lenN ?hv ?_); (case hv => first | assumption | exact stO (by assumption)))
  | ((with_reducible refine' e_lenL ?hv ?_); (case hv => first | assumption | exact slO (by assumption)))
  | ((with_reducible refine' e_lenT ?hv ?_); (case hv => first | assumption | exact stO (by assumption))))
local macro_rules | `(tactic| walk_at "c") => `(tactic| first
  | ((with_reducible refine' c_listL ?hv ?_); (case hv => assumption))
  | ((with_reducible refine' c_listT ?hv ?_); (case hv => assumption))
  | ((with_reducible refine' c_tupL ?hv ?_); (case hv => first | assumption | exact slO (by assumption)))
  | ((with_reducible refine' c_tupT ?hv ?_); (case hv => assumption))
  | ((with_reducible refine' t_lst ?hv ?_); (case hv => first | assumption | exact slO (by assumption)))
  | ((with_reducible refine' t_tup ?hv ?_); (case hv => assumption))
  | ((with_reducible refine' r_sl ?hv ?_); (case hv => first | assumption | exact slO (by assumption)))
  | ((with_reducible refine' o_inL ?hv ?_); (case hv => first | assumption | exact slO (by assumption)))
  | ((with_reducible refine' o_inT ?hv ?_); (case hv => first | assumption | exact stO (by assumption)))
  | ((with_reducible refine' o_niL ?hv ?_); (case hv => first | assumption | exact slO (by assumption)))
  | ((with_reducible refine' o_niT ?hv ?_); (case hv => first | assumption | exact stO (by assumption)))
  | ((with_reducible refine' ty_lst ?hv ?_); (case hv => assumption)))
local macro_rules | `(tactic| walk_at "mo") => `(tactic| repeat' (first | exact m_yes | exact m_var | exact m_c | exact m_I0 | exact m_I | exact m_ix | exact m_add | exact m_in | exact m_int1 | exact m_abs | exact m_nil | refine' m_and ?_ ?_ | refine' m_test ?_ | refine' m_tB ?_ | refine' m_op ?_ ?_ ?_ | refine' m_cons ?_ ?_ | refine' m_cb ?_ ?_))
local macro_rules | `(tactic| walk_at "go") => `(tactic| repeat' (first | walk_at "s" | walk_at "v" | walk_at "a" | walk_at "x" | walk_at "m" | walk_at "c" | walk_at "i" | walk_at "d"))

section
variable {P : Program} {w : World} {K : PySem.W.Frag} {mg : Str → Option Value} {base : Heap}
theorem ok_Disk_reach (T : Txt K mg) : FnOk P w K mg base (L2.CX P w) 4 T.m_Disk_reach.f T.m_Disk_reach.fd ["self", "block"] ((sp_reach1 K T.C_Disk T.e_Stopped.C)) := by
  refine T.m_Disk_reach.F.okX sc_Disk_reach (fun vs H Q E h => ?_) (fun cdv A outer s H vs Q E hr h => ?_)
  · obtain ⟨p, F, S, b, c, cs, rfl, _⟩ := h
    rfl
  · obtain ⟨p, F, S, b, c, cs, rfl, hS, hrow, k0, k1⟩ := h
    refine ⟨_, (pss_cons (ps_expr (pe_meth (pv 0) T.k_Disk.cl T.m_Disk__need_block.i (ok_Disk__need_block T) (hr.mono (by decide)) T.m_Disk__need_block.b .nil pass0 (pa_cons (pv 1) pa_nil)))
    (pss_cons (ps_if (pt_cmp (pc_dnotin (hu_of hr) (pv 1) (peFld (K := K) (pv 0) rfl))) (pss_one ps_never) pss_nil)
    (pss_one (ps_expr (pe_meth (pv 0) T.k_Disk.cl T.m_Disk__reach_one.i (ok_Disk__reach_one T) (hr.mono (by decide)) T.m_Disk__reach_one.b .nil (passes_call (takes_of rfl rfl rfl rfl) (fun _ _ _ _ h => h)) (pa_cons (pv 1) pa_nil)))))), ?_⟩
    obtain ⟨D, hD, eF, v⟩ := id hS
    obtain ⟨r, ef, hm, hk, tu⟩ := v.rv.there (b := b) (by rw [hrow]; simp)
    have hb := hD.kb r hm
    rw [hk] at hb
    walk_at "go"
    refine m_call0 hD.ob (df_no _ _ _ _ (by decide +kernel)) ?_
    walk_at "go"
    refine ⟨p, D, b, rfl, hD, hb.1, hb.2, ?_⟩
    walk_at "go"
    refine o_fld hD.ob T.k_Disk.cl T.n_Disk__waits (df_w _ _ _ _) ?_
    refine ⟨_, _, rfl, DGet.k (k := Sum.inl b) hD.hw, ?_⟩
    rw [show (valV (D.rows.map fun r => ((Sum.inl r.1 : Key), V.ref r.2.1)) (Sum.inl b : Key)).isSome = true by rw [val_row, ef]; rfl]
    walk_at "go"
    refine m_call0 hD.ob (df_no _ _ _ _ (by decide +kernel)) ?_
    walk_at "go"
    refine ⟨p, F, S, b, c, cs, rfl, hS, hrow, k0, fun np H' F' h1 h2 h3 => ?_⟩
    walk_at "go"
    exact k1 np H' F' h1 h2 h3
/-! ### forcing -/
def SD.fB (b : Int) : Nat → SD → SD × Bool
  | 0, S => (S, true)
  | n + 1, S => match S.rows b with
    | [] => (S, true)
    | c :: cs => if S.pw = some 0 then (S, false) else fB b n (S.got b c cs)
def SD.forceB (S : SD) (b : Int) : SD × Bool := SD.fB b (S.rows b).length S
def SD.forceL : List Int → SD → SD × Bool
  | [], S => (S, true)
  | b :: bs, S => if (S.forceB b).2 = true then SD.forceL bs (S.forceB b).1 else ((S.forceB b).1, false)
theorem SD.forceL_cons {S : SD} {b : Int} {bs : List Int} : SD.forceL (b :: bs) S = if (S.forceB b).2 = true then SD.forceL bs (S.forceB b).1 else ((S.forceB b).1, false) := rfl
theorem SD.forceB_nil {S : SD} {b : Int} (h : S.rows b = []) : S.forceB b = (S, true) := by unfold SD.forceB; rw [h]; rfl
theorem SD.forceB_stop {S : SD} {b : Int} {c : Ct} {cs : List Ct} (h : S.rows b = c :: cs) (e : S.pw = some 0) : S.forceB b = (S, false) := by
  unfold SD.forceB
  rw [h, List.length_cons]
  unfold SD.fB
  rw [h]
  exact if_pos e
theorem SD.forceB_got {S : SD} {b : Int} {c : Ct} {cs : List Ct} (h : S.rows b = c :: cs) (e : S.pw ≠ some 0) : S.forceB b = (S.got b c cs).forceB b := by
  have e2 : (S.got b c cs).rows b = cs := if_pos rfl
  unfold SD.forceB
  rw [e2, h, List.length_cons]
  show (match S.rows b with | [] => (S, true) | c' :: cs' => if S.pw = some 0 then (S, false) else SD.fB b cs.length (S.got b c' cs')) = _
  rw [h]
  exact if_neg e
/-- whatever holds at first and is kept by each write that reaches, holds behind a force -/
theorem SD.fB_ind {b : Int} {Pr : SD → Prop} (hs : ∀ S c cs, Pr S → S.rows b = c :: cs → S.pw ≠ some 0 → Pr (S.got b c cs)) : ∀ (n : Nat) (S : SD), Pr S → Pr (SD.fB b n S).1
  | 0, S, h => h
  | n + 1, S, h => by
    unfold SD.fB
    split
    · exact h
    · next c cs e =>
      split
      · exact h
      · next np => exact SD.fB_ind hs n _ (hs S c cs h e np)
theorem SD.forceL_ind {Pr : SD → Prop} (hs : ∀ b S c cs, Pr S → S.rows b = c :: cs → S.pw ≠ some 0 → Pr (S.got b c cs)) : ∀ (l : List Int) (S : SD), Pr S → Pr (SD.forceL l S).1
  | [], S, h => h
  | b :: bs, S, h => by
    have h1 : Pr (S.forceB b).1 := SD.fB_ind (hs b) _ S h
    unfold SD.forceL
    split
    · exact SD.forceL_ind hs bs _ h1
    · exact h1
def sp_force (K : PySem.W.Frag) (C Cs : Addr) : Sp := fun vs H Q E => ∃ p F S a ns, vs = [.ref p, .ref a] ∧ DS K C H p F S ∧ SqT K H a (ns.map V.int) ∧ ns.length ≤ 1000 ∧ lotB ns = true ∧ (∀ n ∈ ns, n < S.lies.length) ∧
  ∀ H' F', DS K C H' p F' (SD.forceL ns S).1 → Ch F H H' → (∀ a ∈ F', a ∈ F ∨ H a = none) → if (SD.forceL ns S).2 = true then Q .non H' else E (.ref Cs) none H'
theorem ok_Disk_force (T : Txt K mg) : FnOk P w K mg base (L2.CX P w) 4 T.m_Disk_force.f T.m_Disk_force.fd ["self", "lot"] ((sp_force K T.C_Disk T.e_Stopped.C)) := by
  refine T.m_Disk_force.F.okX sc_Disk_force (fun vs H Q E h => ?_) (fun cdv A outer s H vs Q E hr h => ?_)
  · obtain ⟨p, F, S, a, ns, rfl, _⟩ := h
    rfl
  · obtain ⟨p, F, S, a, ns, rfl, hS, ht, hl, hlot, hlt, k⟩ := h
    refine ⟨_, (Evl.pss_cut (ps_if (PW.pt (pw_or (pt_not (ptTruth (K := K) (pe_call (ok_is_lot T) (hr.mono (by decide)) (by rfl) T.is_lot.g T.is_lot.F.kp T.is_lot.b .nil pass0 (pa_cons (pv 1) pa_nil)) (by intro _; rfl))) (pw_or1 (PW.pt (pw_and (pt_cmpR op_gt (pe_callB (cLen (K := K)) (by rfl) T.z_len PySem.boot_len (pa_cons (pv 1) pa_nil)) pe_int (nomark _)) (pw_and1 (pt_cmpR op_ge (pe_ix (ixLT (K := K)) (pv 1) (pe_un un_neg pe_int) (fun _ _ => rfl)) (pe_callB (cLen (K := K)) (by rfl) T.z_len PySem.boot_len (pa_cons (peFld (K := K) (pv 0) rfl) pa_nil)) (nomark _)))))))) (pss_one ps_never) pss_nil)
    (pss_one (ps_for (passes_of rfl) rfl (piT (K := K) (pv 1)) (pg_name (i := 2) sc_Disk_force.nd rfl (Or.inl rfl))
      (pss_one (ps_while (passes_of rfl) (pt_cmp (pc_din (hu_of hr) (pv 2) (peFld (K := K) (pv 0) rfl))) (pss_one (ps_expr (pe_meth (pv 0) T.k_Disk.cl T.m_Disk__reach_one.i (ok_Disk__reach_one T) (hr.mono (by decide)) T.m_Disk__reach_one.b .nil (passes_call (takes_of rfl rfl rfl rfl) (fun _ _ _ _ h => h)) (pa_cons (pv 2) pa_nil))))))))), ?_⟩
    obtain ⟨D, hD, eF, v⟩ := id hS
    walk_at "go"
    refine s_cut (fun σ2 H2 => σ2 = [some (.ref p), some (.ref a), none] ∧ Same H H2) ?_ ?_
    · walk_at "go"
      refine ⟨a, ns, rfl, ht, hl, fun H1 s1 => ?_⟩
      rw [hlot]
      have ht1 := st_ s1 ht
      have hD1 := hD.same s1
      walk_at "go"
      refine i_d (fun q1 => ?_) (fun q1 => ?_)
      · walk_at "go"
        have e1 : 0 < ns.length := by omega
        refine o_ixT ht1 (atI_negI e1) ?_
        walk_at "go"
        refine o_fld hD1.ob T.k_Disk.cl T.n_Disk__lies (df_l _ _ _ _) ?_
        have hl1 := slO (K := K) hD1.hl
        walk_at "go"
        have := hlt _ (getD_mem (i := ns.length - 1) (by omega))
        have l2 := v.lv.1
        refine i_df (by omega) ?_
        walk_at "go"
        exact ⟨rfl, s1⟩
      · walk_at "go"
        exact ⟨rfl, s1⟩
    · rintro σ2 H2 ⟨rfl, s2⟩
      walk_at "go"
      have ht2 := st_ s2 ht
      refine i_tup ht2 ?_
      refine l_tup (xs := ns.map V.int) (fun i σ3 H3 => ∃ (y : Option V) (S3 : SD) (F3 : List Addr), σ3 = [some (.ref p), some (.ref a), y] ∧ DS K T.C_Disk H3 p F3 S3 ∧ Ch F H H3 ∧ (∀ x ∈ F3, x ∈ F ∨ H x = none) ∧ SD.forceL (ns.drop i) S3 = SD.forceL ns S) ⟨none, S, F, rfl, hS.same s2, Ch.of_same s2, fun x hx => .inl hx, rfl⟩ (fun i σ3 H3 hi q => ?_) (fun σ3 H3 q => ?_) (fun i x σ3 H3 hx q => ?_)
      · obtain ⟨y, S3, F3, _, _, c3, _, _⟩ := q
        exact c3.st ht
      · obtain ⟨y, S3, F3, rfl, d3, c3, f3, e3⟩ := q
        rw [List.length_map, List.drop_length] at e3
        have e4 : SD.forceL ns S = (S3, true) := e3.symm
        have := k H3 F3 (by rw [e4]; exact d3) c3 f3
        rw [e4] at this
        walk_at "go"
        exact this
      · obtain ⟨y, S3, F3, rfl, d3, c3, f3, e3⟩ := q
        have hi : i < ns.length := by
          have := (List.getElem?_eq_some_iff.mp hx).1
          simpa using this
        have ex : x = .int ns[i] := by
          rw [List.getElem?_map, List.getElem?_eq_getElem hi] at hx
          exact (Option.some.inj hx).symm
        subst ex
        rw [List.drop_eq_getElem_cons hi] at e3
        generalize ns[i] = b at *
        walk_at "go"
        refine while_m (fun m σ4 H4 => ∃ (S4 : SD) (F4 : List Addr), m = (S4.rows b).length ∧ σ4 = [some (.ref p), some (.ref a), some (.int b)] ∧ DS K T.C_Disk H4 p F4 S4 ∧ Ch F H H4 ∧ (∀ x ∈ F4, x ∈ F ∨ H x = none) ∧ S4.forceB b = S3.forceB b) _ ⟨S3, F3, rfl, rfl, d3, c3, f3, rfl⟩ ?_
        rintro m σ4 H4 ⟨S4, F4, rfl, rfl, d4, c4, f4, e4⟩
        obtain ⟨D4, hD4, eF4, v4⟩ := id d4
        walk_at "go"
        refine o_fld hD4.ob T.k_Disk.cl T.n_Disk__waits (df_w _ _ _ _) ?_
        refine ⟨_, _, rfl, DGet.k (k := Sum.inl b) hD4.hw, ?_⟩
        cases er : S4.rows b with
        | nil =>
          have ef : D4.rows.find? (fun r => decide (r.1 = b)) = none := by
            cases q : D4.rows.find? (fun r => decide (r.1 = b)) with
            | none => rfl
            | some r =>
              have tu := v4.rv.som q
              rw [er] at tu
              have := (hD4.hr r (List.mem_of_find?_eq_some q)).2
              exact absurd (List.length_eq_zero_iff.mp tu.1) this
          rw [show (valV (D4.rows.map fun r => ((Sum.inl r.1 : Key), V.ref r.2.1)) (Sum.inl b : Key)).isSome = false by rw [val_row, ef]; rfl]
          walk_at "go"
          refine ⟨_, S4, F4, rfl, d4, c4, f4, ?_⟩
          have z : S3.forceB b = (S4, true) := by rw [← e4, SD.forceB_nil er]
          rw [SD.forceL_cons, z, if_pos rfl] at e3
          exact e3
        | cons c cs =>
          obtain ⟨r, ef, hm, hk, tu⟩ := v4.rv.there (b := b) (by rw [er]; simp)
          rw [show (valV (D4.rows.map fun r => ((Sum.inl r.1 : Key), V.ref r.2.1)) (Sum.inl b : Key)).isSome = true by rw [val_row, ef]; rfl]
          walk_at "go"
          refine ⟨fun σ5 H5 => ∃ (S4 : SD) (F4 : List Addr), cs.length = (S4.rows b).length ∧ σ5 = [some (.ref p), some (.ref a), some (.int b)] ∧ DS K T.C_Disk H5 p F4 S4 ∧ Ch F H H5 ∧ (∀ x ∈ F4, x ∈ F ∨ H x = none) ∧ S4.forceB b = S3.forceB b, fun σ5 H5 q => ⟨cs.length, by simp, q⟩, ?_⟩
          walk_at "go"
          refine m_call0 hD4.ob (df_no _ _ _ _ (by decide +kernel)) ?_
          walk_at "go"
          refine ⟨p, F4, S4, b, c, cs, rfl, d4, er, fun np => ?_, fun np H5 F5 g1 g2 g3 => ?_⟩
          · have z : S3.forceB b = (S4, false) := by rw [← e4, SD.forceB_stop er np]
            rw [SD.forceL_cons, z, if_neg Bool.false_ne_true] at e3
            have e4 : SD.forceL ns S = (S4, false) := e3.symm
            have := k H4 F4 (by rw [e4]; exact d4) c4 f4
            rw [e4] at this
            exact this
          · walk_at "go"
            refine ⟨S4.got b c cs, F5, ?_, rfl, g1, c4.trans g2 f4, fun x hx => f4 x (g3 x hx), by rw [← e4, SD.forceB_got er np]⟩
            show cs.length = (if b = b then cs else S4.rows b).length
            rw [if_pos rfl]
end
end Vw

set_option Elab.async false
set_option linter.all false
set_option maxRecDepth 100000
set_option maxHeartbeats 4000000
namespace Vw
open PySem PySem.Spec PyProof.Rows L2 RT
local macro_rules | `(tactic| walk_at "s") => `(tactic| with_reducible first
  | refine' s_seq ?_ | refine' s_next ?_ | refine' s_set ?_ | refine' s_ret ?_ | refine' s_retN ?_ | refine' s_drop ?_ | refine' s_if ?_ | refine' s_ipI ?_
  | refine' e_c ?_ | refine' e_op ?_ | refine' e_un ?_ | refine' e_neg ?_ | refine' e_test ?_ | refine' e_tB ?_ | refine' e_bl ?_ | refine' e_and ?_ | refine' e_or ?_ | refine' e_not ?_
  | refine' e_andV ?_ | refine' e_orV ?_ | refine' e_notV ?_ | refine' e_kV ?_ | refine' e_ife ?_ | refine' e_nil ?_ | refine' e_cons ?_ | refine' e_cb ?_ | refine' e_call ?_ | refine' e_chain ?_
  | refine' o_addI ?_ | refine' o_eqI ?_ | refine' o_neI ?_ | refine' o_I0 ?_ | refine' o_pow16 ?_ | refine' o_pow17 ?_ | refine' o_pow18 ?_ | refine' o_pow19 ?_ | refine' o_pow30 ?_ | refine' o_pow31 ?_ | refine' o_pow1 ?_ | refine' o_pow2 ?_ | refine' o_pow3 ?_ | refine' o_pow4 ?_ | refine' o_pow5 ?_ | refine' o_pow6 ?_ | refine' o_pow9 ?_ | refine' o_pow10 ?_ | refine' o_pow12 ?_ | refine' o_pow15 ?_ | refine' o_pow20 ?_ | refine' e_lst ?_ | refine' e_tup ?_ | refine' iteT ?_ | refine' i_nt ?_ | refine' i_nf ?_ | refine' iteF ?_ | refine' c_int ?_ | refine' c_abs ?_ | refine' c_min2 ?_ | refine' c_max2 ?_ | refine' e_tru ?_ | refine' t_bl ?_ | refine' t_non ?_ | refine' t_int ?_ | refine' isN_non ?_ | refine' isN_int ?_ | refine' isN_ref ?_ | refine' isN_str ?_ | refine' isN_bl ?_ | refine' noN_non ?_ | refine' noN_int ?_ | refine' noN_ref ?_ | refine' noN_str ?_ | refine' noN_bl ?_
  | refine' s_brk ?_ | refine' s_cont ?_ | refine' s_for ?_ | refine' e_lc ?_ | refine' e_dc ?_ | refine' e_yes ?_ | refine' i_rng1 ?_ | refine' i_lst0 ?_ | refine' i_tup0 ?_ | refine' e_bm ?_ | refine' e_sl ?_ | refine' e_np ?_ | refine' e_pt ?_ | refine' e_ptI ?_ | refine' e_din ?_ | refine' e_dnin ?_ | refine' e_methE ?_ | refine' p_cons ?_ | refine' p_nil ?_ | refine' s_dput ?_ | refine' e_dget2 ?_ | refine' e_dpop1 ?_ | refine' i_enum0 ?_ | refine' i_rev0 ?_ | refine' g_sub ?_ | refine' s_asg ?_ | refine' i_zip0 ?_ | refine' e_revT ?_ | refine' isB_bl ?_ | refine' notB_bl ?_ | refine' o_neB ?_ | refine' i_nrr ?_ | refine' e_meth ?_ | refine' s_setf ?_ | refine' e_fld ?_ | refine' e_bm0 ?_ | refine' r_tx ?_ | refine' o_eqStr ?_ | refine' o_neStr ?_)
local macro_rules | `(tactic| walk_at "v") => `(tactic| ((with_reducible refine' e_var ?hv ?_); (case hv => exact rfl)))
local macro_rules | `(tactic| walk_at "a") => `(tactic| ((with_reducible refine' s_aug ?hv ?_); (case hv => exact rfl)))
local macro_rules | `(tactic| walk_at "m") => `(tactic| first
  | ((with_reducible refine' o_mod ?hv ?_); (case hv => first | decide | omega))
  | ((with_reducible refine' o_mulR ?hv ?_); (case hv => omega))
  | ((with_reducible refine' o_mulL ?hv ?_); (case hv => omega))
  | ((with_reducible refine' o_div ?hv ?hw ?_); (case hv => omega); (case hw => omega))
  | ((with_reducible refine' o_pow _ ?hv ?hw ?hx ?_); (case hv => exact rfl); (case hw => decide); (case hx => decide)))
local macro_rules | `(tactic| walk_at "i") => `(tactic| (first
  | ((with_reducible refine' isi_int true ?hv ?_); (case hv => exact (by decide +kernel)))
  | ((with_reducible refine' isi_int false ?hv ?_); (case hv => exact (by decide +kernel)))
  | ((with_reducible refine' isi_non true ?hv ?_); (case hv => exact (by decide +kernel)))
  | ((with_reducible refine' isi_non false ?hv ?_); (case hv => exact (by decide +kernel)))
  | ((with_reducible refine' isi_str true ?hv ?_); (case hv => exact (by decide +kernel)))
  | ((with_reducible refine' isi_str false ?hv ?_); (case hv => exact (by decide +kernel)))
  | ((with_reducible refine' isi_bl true ?hv ?_); (case hv => exact (by decide +kernel)))
  | ((with_reducible refine' isi_bl false ?hv ?_); (case hv => exact (by decide +kernel)))
  | ((with_reducible refine' isi_t true ?hw ?hv ?_); (case hw => assumption); (case hv => exact (by decide +kernel)))
  | ((with_reducible refine' isi_t false ?hw ?hv ?_); (case hw => assumption); (case hv => exact (by decide +kernel)))
  | ((with_reducible refine' isi_l true ?hw ?hv ?_); (case hw => assumption); (case hv => exact (by decide +kernel)))
  | ((with_reducible refine' isi_l false ?hw ?hv ?_); (case hw => assumption); (case hv => exact (by decide +kernel)))
  | ((with_reducible refine' isi_tup true ?hw ?hv ?_); (case hw => assumption); (case hv => exact (by decide +kernel)))
  | ((with_reducible refine' isi_tup false ?hw ?hv ?_); (case hw => assumption); (case hv => exact (by decide +kernel)))
  | ((with_reducible refine' isi_lst true ?hw ?hv ?_); (case hw => assumption); (case hv => exact (by decide +kernel)))
  | ((with_reducible refine' isi_lst false ?hw ?hv ?_); (case hw => assumption); (case hv => exact (by decide +kernel)))))
local macro_rules | `(tactic| walk_at "om") => `(tactic| first | omega | (simp only [List.length_cons, List.length_nil, List.length_map, List.length_append, List.length_range]; omega))
local macro_rules | `(tactic| walk_at "d") => `(tactic| (first
  | ((with_reducible refine' i_dt ?hv ?_); (case hv => walk_at "om"))
  | ((with_reducible refine' i_df ?hv ?_); (case hv => walk_at "om"))
  | ((with_reducible refine' i_ndt ?hv ?_); (case hv => walk_at "om"))
  | ((with_reducible refine' i_ndf ?hv ?_); (case hv => walk_at "om"))))
local macro_rules | `(tactic| walk_at "x") => `(tactic| first
  | ((with_reducible refine' o_ixA ?hv ?hw ?_); (case hv => assumption); (case hw => exact rfl))
  | ((with_reducible refine' o_ixU ?hv ?hw ?_); (case hv => assumption); (case hw => exact rfl))
  | ((with_reducible refine' o_ixL ?hv ?hw ?_); (case hv => assumption); (case hw => exact rfl))
  | ((with_reducible refine' o_ixT ?hv ?hw ?_); (case hv => assumption); (case hw => exact rfl))
  | ((with_reducible refine' set_ ?hv ?hw ?_); (case hv => assumption); (case hw => exact rfl))
  | ((with_reducible refine' e_lenM ?hv ?_); (case hv => first | assumption | exact slO (by assumption)))
  | ((with_reducible refine' e_lenN ?hv ?_); (case hv => first | assumption | exact stO (by assumption)))
  | ((with_reducible refine' e_lenL ?hv ?_); (case hv => first | assumption | exact slO (by assumption)))
  | ((with_reducible refine' e_lenT ?hv ?_); (case hv => first | assumption | exact stO (by assumption))))
local macro_rules | `(tactic| walk_at "c") => `(tactic| first
  | ((with_reducible refine' c_listL ?hv ?_); (case hv => assumption))
  | ((with_reducible refine' c_listT ?hv ?_); (case hv => assumption))
  | ((with_reducible refine' c_tupL ?hv ?_); (case hv => first | assumption | exact slO (by assumption)))
  | ((with_reducible refine' c_tupT ?hv ?_); (case hv => assumption))
  | ((with_reducible refine' t_lst ?hv ?_); (case hv => first | assumption | exact slO (by assumption)))
  | ((with_reducible refine' t_tup ?hv ?_); (case hv => assumption))
  | ((with_reducible refine' r_sl ?hv ?_); (case hv => first | assumption | exact slO (by assumption)))
  | ((with_reducible refine' o_inL ?hv ?_); (case hv => first | assumption | exact slO (by assumption)))
  | ((with_reducible refine' o_inT ?hv ?_); (case hv => first | assumption | exact stO (by assumption)))
  | ((with_reducible refine' o_niL ?hv ?_); (case hv => first | assumption | exact slO (by assumption)))
  | ((with_reducible refine' o_niT ?hv ?_); (case hv => first | assumption | exact stO (by assumption)))
  | ((with_reducible refine' ty_lst ?hv ?_); (case hv => assumption)))
local macro_rules | `(tactic| walk_at "mo") => `(tactic| repeat' (first | exact m_yes | exact m_var | exact m_c | exact m_I0 | exact m_I | exact m_ix | exact m_add | exact m_in | exact m_int1 | exact m_abs | exact m_nil | refine' m_and ?_ ?_ | refine' m_test ?_ | refine' m_tB ?_ | refine' m_op ?_ ?_ ?_ | refine' m_cons ?_ ?_ | refine' m_cb ?_ ?_))
local macro_rules | `(tactic| walk_at "go") => `(tactic| repeat' (first | walk_at "s" | walk_at "v" | walk_at "a" | walk_at "x" | walk_at "m" | walk_at "c" | walk_at "i" | walk_at "d"))

section
variable {P : Program} {w : World} {K : PySem.W.Frag} {mg : Str → Option Value} {base : Heap}
theorem len_le_of_sub {α : Type} [DecidableEq α] : ∀ {l L : List α}, l.Nodup → (∀ x ∈ l, x ∈ L) → l.length ≤ L.length
  | [], L, _, _ => Nat.zero_le _
  | a :: l, L, h, s => by
    obtain ⟨h1, h2⟩ := List.nodup_cons.mp h
    have ha := s a (by simp)
    have : l.length ≤ (L.erase a).length := len_le_of_sub h2 fun x hx => by
      have : x ≠ a := fun z => h1 (z ▸ hx)
      exact (List.mem_erase_of_ne this).mpr (s x (List.mem_cons_of_mem _ hx))
    rw [List.length_erase_of_mem ha] at this
    have := List.length_pos_of_mem ha
    simp only [List.length_cons]; omega
theorem asc_ext : ∀ {l m : List Int}, l.Pairwise (· < ·) → m.Pairwise (· < ·) → (∀ x, x ∈ l ↔ x ∈ m) → l = m
  | [], [], _, _, _ => rfl
  | [], b :: m, _, _, h => absurd ((h b).mpr (by simp)) (by simp)
  | a :: l, [], _, _, h => absurd ((h a).mp (by simp)) (by simp)
  | a :: l, b :: m, h1, h2, h => by
    obtain ⟨p1, q1⟩ := List.pairwise_cons.mp h1
    obtain ⟨p2, q2⟩ := List.pairwise_cons.mp h2
    have e : a = b := by
      rcases List.mem_cons.mp ((h a).mp (by simp)) with z | z
      · exact z
      · rcases List.mem_cons.mp ((h b).mpr (by simp)) with y | y
        · exact y.symm
        · have := p2 a z; have := p1 b y; omega
    subst e
    rw [asc_ext q1 q2 fun x => ?_]
    refine ⟨fun z => ?_, fun z => ?_⟩
    · rcases List.mem_cons.mp ((h x).mp (List.mem_cons_of_mem _ z)) with y | y
      · have := p1 x z; omega
      · exact y
    · rcases List.mem_cons.mp ((h x).mpr (List.mem_cons_of_mem _ z)) with y | y
      · have := p2 x z; omega
      · exact y
theorem asc_of {l : List Int} (h1 : l.Pairwise (· ≤ ·)) (h2 : l.Nodup) : l.Pairwise (· < ·) := by
  refine (h1.and h2).imp fun {a b} h => ?_
  have h3 : a ≠ b := h.2
  have := h.1
  omega
theorem lotB_of {ns : List Int} (h0 : ∀ n ∈ ns, 0 ≤ n) (h : ns.Pairwise (· < ·)) : lotB ns = true := by
  unfold lotB
  rw [Bool.and_eq_true]
  refine ⟨List.all_eq_true.mpr fun n hn => decide_eq_true (h0 n hn), ?_⟩
  unfold ascB
  rw [List.all_map]
  refine List.all_eq_true.mpr fun k hk => ?_
  have hk := List.mem_range.mp hk
  show ascF ns k = true
  unfold ascF
  refine decide_eq_true ?_
  rw [List.getD_eq_getElem?_getD, List.getD_eq_getElem?_getD, List.getElem?_eq_getElem (by omega), List.getElem?_eq_getElem (by omega)]
  exact List.pairwise_iff_getElem.mp h k (k + 1) (by omega) (by omega) (by omega)
/-- the blocks for which something waits -/
structure Wt (S : SD) (ns : List Int) : Prop where
  asc : ns.Pairwise (· < ·)
  mem : ∀ b, b ∈ ns ↔ S.rows b ≠ []
theorem Wt.uniq {S : SD} {ns ms : List Int} (a : Wt S ns) (b : Wt S ms) : ns = ms := asc_ext a.asc b.asc fun x => (a.mem x).trans (b.mem x).symm
def Few (S : SD) : Prop := ∃ L : List Int, L.length < 64 ∧ ∀ b, S.rows b ≠ [] → b ∈ L
theorem rows_mem {C p : Addr} {H : Hp} {D : Dsk} {S : SD} (h : DiskAt C H p D) (v : RowsAt K H D.rows S.rows) (b : Int) : b ∈ D.rows.map (·.1) ↔ S.rows b ≠ [] := by
  refine ⟨fun m => ?_, fun n => ?_⟩
  · obtain ⟨r, hr, e⟩ := List.mem_map.mp m
    cases q : D.rows.find? (fun r => decide (r.1 = b)) with
    | none => exact absurd (decide_eq_true e) (List.find?_eq_none.mp q r hr)
    | some r2 =>
      have tu := v.som q
      have n2 := (h.hr r2 (List.mem_of_find?_eq_some q)).2
      intro z
      rw [z] at tu
      exact n2 (List.length_eq_zero_iff.mp tu.1)
  · obtain ⟨r, _, hm, hk, _⟩ := v.there n
    exact List.mem_map.mpr ⟨r, hm, hk⟩
theorem wt_of {C p : Addr} {H : Hp} {D : Dsk} {S : SD} (h : DiskAt C H p D) (v : RowsAt K H D.rows S.rows) {ys : List Int} (p1 : ys.Perm (D.rows.map (·.1))) (p2 : ys.Pairwise (· ≤ ·)) : Wt S ys :=
  ⟨asc_of p2 (p1.nodup_iff.mpr h.kd), fun b => (p1.mem_iff).trans (rows_mem h v b)⟩
theorem few_of {C p : Addr} {H : Hp} {D : Dsk} {S : SD} (h : DiskAt C H p D) (v : RowsAt K H D.rows S.rows) (f : Few S) : (D.rows.map (·.1)).length < 64 := by
  obtain ⟨L, hl, hL⟩ := f
  have := len_le_of_sub h.kd (L := L) fun x hx => hL x ((rows_mem h v x).mp hx)
  omega
def sp_calm (K : PySem.W.Frag) (C Cs : Addr) : Sp := fun vs H Q E => ∃ p F S, vs = [.ref p] ∧ DS K C H p F S ∧ Few S ∧
  ∀ ns, Wt S ns → ∀ H' F', DS K C H' p F' (SD.forceL ns S).1 → Ch F H H' → (∀ a ∈ F', a ∈ F ∨ H a = none) → if (SD.forceL ns S).2 = true then Q .non H' else E (.ref Cs) none H'
theorem ok_Disk_calm (T : Txt K mg) : FnOk P w K mg base (L2.CX P w) 5 T.m_Disk_calm.f T.m_Disk_calm.fd ["self"] ((sp_calm K T.C_Disk T.e_Stopped.C)) := by
  refine T.m_Disk_calm.F.okX sc_Disk_calm (fun vs H Q E h => ?_) (fun cdv A outer s H vs Q E hr h => ?_)
  · obtain ⟨p, F, S, rfl, _⟩ := h
    rfl
  · obtain ⟨p, F, S, rfl, hS, hf, k⟩ := h
    refine ⟨_, (pss_one (ps_expr (pe_meth (pv 0) T.k_Disk.cl T.m_Disk_force.i (ok_Disk_force T) (hr.mono (by decide)) T.m_Disk_force.b .nil (passes_call (takes_of rfl rfl rfl rfl) (fun _ _ _ _ h => h)) (pa_cons (pe_callTy (cTupOf (K := K)) (by rfl) T.z_tuple (by decide +kernel) (pa_cons (pe_callB (call_sortedDI rfl) (by rfl) T.z_sorted (by decide +kernel) (pa_cons (peFld (K := K) (pv 0) rfl) pa_nil)) pa_nil)) pa_nil)))), ?_⟩
    obtain ⟨D, hD, eF, v⟩ := id hS
    walk_at "go"
    refine m_call0 hD.ob (df_no _ _ _ _ (by decide +kernel)) ?_
    walk_at "go"
    refine o_fld hD.ob T.k_Disk.cl T.n_Disk__waits (df_w _ _ _ _) ?_
    walk_at "go"
    have fw := few_of hD v.rv hf
    refine ⟨D.w, _, D.rows.map (·.1), rfl, .inl hD.hw, by rw [List.map_map, List.map_map]; rfl, fw, fun ys l p1 p2 nl => ?_⟩
    have W := wt_of hD v.rv p1 p2
    have s1 : Same H (upd H l (.lst (ys.map V.int))) := Same.new nl
    have hl : upd H l (.lst (ys.map V.int)) l = some (.lst (ys.map V.int)) := upd_same
    generalize upd H l (.lst (ys.map V.int)) = H1 at *
    walk_at "go"
    refine n_new0 fun t H2 n2 s2 h2 => ?_
    walk_at "go"
    have s12 := s1.trans s2
    have yl : ys.length < 64 := by rw [p1.length_eq]; exact fw
    refine ⟨p, F, S, t, ys, rfl, hS.same s12, stO h2, by omega, lotB_of (fun n hn => (v.ok.out n ((W.mem n).mp hn)).1) W.asc, fun n hn => (v.ok.out n ((W.mem n).mp hn)).2, fun H' F' g1 g2 g3 => ?_⟩
    have g4 := k ys W H' F' g1 (Ch.trans (F' := F) (Ch.of_same s12) g2 fun a ha => .inl ha) (fun a ha => (g3 a ha).imp id (free_ s12))
    split
    · next q =>
      rw [if_pos q] at g4
      walk_at "go"
      exact g4
    · next q =>
      rw [if_neg q] at g4
      exact g4
def waitKvs (S : SD) (ns : List Int) : List (Key × V) := ns.map fun b => ((Sum.inl b : Key), V.int ((S.rows b).length : Nat))
def sp_waiting (K : PySem.W.Frag) (C : Addr) : Sp := fun vs H Q E => ∃ p F S, vs = [.ref p] ∧ DS K C H p F S ∧ Few S ∧ (∀ b, (S.rows b).length < 1000) ∧ ∀ ns q H', Wt S ns → Same H H' → H q = none → H' q = some (.dK (waitKvs S ns)) → Q (.ref q) H'
theorem ok_Disk_waiting (T : Txt K mg) : FnOk P w K mg base CX0 1 T.m_Disk_waiting.f T.m_Disk_waiting.fd ["self"] ((sp_waiting K T.C_Disk)) := by
  refine T.m_Disk_waiting.F.ok sc_Disk_waiting (fun vs H Q E h => ?_) (fun cdv A outer s H vs Q E hr h => ?_)
  · obtain ⟨p, F, S, rfl, _⟩ := h
    rfl
  · obtain ⟨p, F, S, rfl, hS, hf, hc, k⟩ := h
    refine ⟨_, (pss_one (ps_ret (pe_dc (own := [("block", 1)]) rfl sc_Disk_waiting.nd (piL (K := K) (pe_callB (call_sortedDI rfl) (by rfl) T.z_sorted (by decide +kernel) (pa_cons (peFld (K := K) (pv 0) rfl) pa_nil))) (blkOk_by (N := n_Disk_waiting) (sc := defScope s_Disk_waiting) (by decide +kernel)) (fun _ _ _ _ _ => (pg_name (i := 1) sc_Disk_waiting.nd rfl (Or.inl rfl))) (fun _ _ _ _ _ => pts_nil) (fun _ _ _ _ _ => (pv 1)) (fun _ _ _ _ _ => (pe_callB (cLen (K := K)) (by rfl) T.z_len PySem.boot_len (pa_cons (pe_dget (hu_of hr) (peFld (K := K) (pv 0) rfl) (pv 1) (fun _ _ => rfl)) pa_nil)))))), ?_⟩
    obtain ⟨D, hD, eF, v⟩ := id hS
    walk_at "go"
    refine o_fld hD.ob T.k_Disk.cl T.n_Disk__waits (df_w _ _ _ _) ?_
    walk_at "go"
    have fw := few_of hD v.rv hf
    refine ⟨D.w, _, D.rows.map (·.1), rfl, .inl hD.hw, by rw [List.map_map, List.map_map]; rfl, fw, fun ys l p1 p2 nl => ?_⟩
    have W := wt_of hD v.rv p1 p2
    have s1 : Same H (upd H l (.lst (ys.map V.int))) := Same.new nl
    have hl : upd H l (.lst (ys.map V.int)) l = some (.lst (ys.map V.int)) := upd_same
    generalize upd H l (.lst (ys.map V.int)) = H1 at *
    have yl : ys.length < 64 := by rw [p1.length_eq]; exact fw
    walk_at "go"
    refine i_lst (slO hl) ?_
    refine d_it (walk_list (xs := ys.map V.int)) (fun i acc H2 => Same H1 H2 ∧ acc = waitKvs S (ys.take i)) (fun q hq => ⟨upd_free (Same.refl _) hq, rfl⟩) (fun i acc H2 hi q => slO (at_ q.1 hl)) (fun acc q H2 nq hq z => ?_) (fun i x acc H2 H3 q hi nq hq z y => ?_)
    · obtain ⟨s2, rfl⟩ := z
      rw [List.length_map, List.take_length] at hq
      walk_at "go"
      exact k ys q H2 W (s1.trans s2) (free_ s1 nq) hq
    · obtain ⟨s2, rfl⟩ := z
      obtain ⟨rfl, hx⟩ := y
      have hi : i < ys.length := by simpa using hi
      have ex : x = .int ys[i] := by
        rw [List.getElem?_map, List.getElem?_eq_getElem hi] at hx
        exact (Option.some.inj hx).symm
      subst ex
      have hn := (W.mem ys[i]).mp (List.getElem_mem hi)
      have hD2 := hD.same (s1.trans s2)
      obtain ⟨r, ef, hm, hk, tu⟩ := v.rv.there hn
      have hr2 := hD2.hr r hm
      refine ⟨rfl, ?_⟩
      walk_at "go"
      refine e_dget ?_
      walk_at "go"
      refine o_fld hD2.ob T.k_Disk.cl T.n_Disk__waits (df_w _ _ _ _) ?_
      walk_at "go"
      refine o_dget (k := Sum.inl ys[i]) hD2.hw (by rw [val_row, ef]; rfl) ?_
      have hsl := slO (K := K) hr2.1
      walk_at "go"
      refine dgot_ (k := Sum.inl ys[i]) (P := fun acc H => Same H1 H ∧ acc = waitKvs S (ys.take (i + 1))) hq (by unfold waitKvs; rw [List.length_map, List.length_take]; omega) ⟨upd_free s2 nq, ?_⟩
      rw [putK_new]
      · unfold waitKvs
        rw [List.take_add_one, List.getElem?_eq_getElem hi, List.map_append, tu.1]
        rfl
      · unfold waitKvs valV
        rw [List.find?_map, Option.map_map]
        have e0 : (List.take i ys).find? ((fun kv : Key × V => decide (kv.1 = Sum.inl ys[i])) ∘ fun b => ((Sum.inl b : Key), V.int ((S.rows b).length : Nat))) = none := by
          refine List.find?_eq_none.mpr fun b hb z => ?_
          have e1 : b = ys[i] := Sum.inl.inj (of_decide_eq_true z)
          obtain ⟨j, hj, e2⟩ := List.getElem_of_mem hb
          rw [List.length_take] at hj
          rw [List.getElem_take] at e2
          have := List.pairwise_iff_getElem.mp W.asc j i (by omega) hi (by omega)
          omega
        rw [e0]; rfl
end
end Vw

set_option Elab.async false
set_option linter.all false
set_option maxRecDepth 100000
set_option maxHeartbeats 4000000
namespace Vw
open PySem PySem.Spec PyProof.Rows L2 RT
local macro_rules | `(tactic| walk_at "s") => `(tactic| with_reducible first
  | refine' s_seq ?_ | refine' s_next ?_ | refine' s_set ?_ | refine' s_ret ?_ | refine' s_retN ?_ | refine' s_drop ?_ | refine' s_if ?_ | refine' s_ipI ?_
  | refine' e_c ?_ | refine' e_op ?_ | refine' e_un ?_ | refine' e_neg ?_ | refine' e_test ?_ | refine' e_tB ?_ | refine' e_bl ?_ | refine' e_and ?_ | refine' e_or ?_ | refine' e_not ?_
  | refine' e_andV ?_ | refine' e_orV ?_ | refine' e_notV ?_ | refine' e_kV ?_ | refine' e_ife ?_ | refine' e_nil ?_ | refine' e_cons ?_ | refine' e_cb ?_ | refine' e_call ?_ | refine' e_chain ?_
  | refine' o_addI ?_ | refine' o_eqI ?_ | refine' o_neI ?_ | refine' o_I0 ?_ | refine' o_pow16 ?_ | refine' o_pow17 ?_ | refine' o_pow18 ?_ | refine' o_pow19 ?_ | refine' o_pow30 ?_ | refine' o_pow31 ?_ | refine' o_pow1 ?_ | refine' o_pow2 ?_ | refine' o_pow3 ?_ | refine' o_pow4 ?_ | refine' o_pow5 ?_ | refine' o_pow6 ?_ | refine' o_pow9 ?_ | refine' o_pow10 ?_ | refine' o_pow12 ?_ | refine' o_pow15 ?_ | refine' o_pow20 ?_ | refine' e_lst ?_ | refine' e_tup ?_ | refine' iteT ?_ | refine' i_nt ?_ | refine' i_nf ?_ | refine' iteF ?_ | refine' c_int ?_ | refine' c_abs ?_ | refine' c_min2 ?_ | refine' c_max2 ?_ | refine' e_tru ?_ | refine' t_bl ?_ | refine' t_non ?_ | refine' t_int ?_ | refine' isN_non ?_ | refine' isN_int ?_ | refine' isN_ref ?_ | refine' isN_str ?_ | refine' isN_bl ?_ | refine' noN_non ?_ | refine' noN_int ?_ | refine' noN_ref ?_ | refine' noN_str ?_ | refine' noN_bl ?_
  | refine' s_brk ?_ | refine' s_cont ?_ | refine' s_for ?_ | refine' e_lc ?_ | refine' e_dc ?_ | refine' e_yes ?_ | refine' i_rng1 ?_ | refine' i_lst0 ?_ | refine' i_tup0 ?_ | refine' e_bm ?_ | refine' e_sl ?_ | refine' e_np ?_ | refine' e_pt ?_ | refine' e_ptI ?_ | refine' e_din ?_ | refine' e_dnin ?_ | refine' e_methE ?_ | refine' p_cons ?_ | refine' p_nil ?_ | refine' s_dput ?_ | refine' e_dget2 ?_ | refine' e_dpop1 ?_ | refine' i_enum0 ?_ | refine' i_rev0 ?_ | refine' g_sub ?_ | refine' s_asg ?_ | refine' i_zip0 ?_ | refine' e_revT ?_ | refine' isB_bl ?_ | refine' notB_bl ?_ | refine' o_neB ?_ | refine' i_nrr ?_ | refine' e_meth ?_ | refine' s_setf ?_ | refine' e_fld ?_ | refine' e_bm0 ?_ | refine' r_tx ?_ | refine' o_eqStr ?_ | refine' o_neStr ?_)
local macro_rules | `(tactic| walk_at "v") => `(tactic| ((with_reducible refine' e_var ?hv ?_); (case hv => exact rfl)))
local macro_rules | `(tactic| walk_at "a") => `(tactic| ((with_reducible refine' s_aug ?hv ?_); (case hv => exact rfl)))
local macro_rules | `(tactic| walk_at "m") => `(tactic| first
  | ((with_reducible refine' o_mod ?hv ?_); (case hv => first | decide | omega))
  | ((with_reducible refine' o_mulR ?hv ?_); (case hv => omega))
  | ((with_reducible refine' o_mulL ?hv ?_); (case hv => omega))
  | ((with_reducible refine' o_div ?hv ?hw ?_); (case hv => omega); (case hw => omega))
  | ((with_reducible refine' o_pow _ ?hv ?hw ?hx ?_); (case hv => exact rfl); (case hw => decide); (case hx => decide)))
local macro_rules | `(tactic| walk_at "i") => `(tactic| (first
  | ((with_reducible refine' isi_int true ?hv ?_); (case hv => exact (by decide +kernel)))
  | ((with_reducible refine' isi_int false ?hv ?_); (case hv => exact (by decide +kernel)))
  | ((with_reducible refine' isi_non true ?hv ?_); (case hv => exact (by decide +kernel)))
  | ((with_reducible refine' isi_non false ?hv ?_); (case hv => exact (by decide +kernel)))
  | ((with_reducible refine' isi_str true ?hv ?_); (case hv => exact (by decide +kernel)))
  | ((with_reducible refine' isi_str false ?hv ?_); (case hv => exact (by decide +kernel)))
  | ((with_reducible refine' isi_bl true ?hv ?_); (case hv => exact (by decide +kernel)))
  | ((with_reducible refine' isi_bl false ?hv ?_); (case hv => exact (by decide +kernel)))
  | ((with_reducible refine' isi_t true ?hw ?hv ?_); (case hw => assumption); (case hv => exact (by decide +kernel)))
  | ((with_reducible refine' isi_t false ?hw ?hv ?_); (case hw => assumption); (case hv => exact (by decide +kernel)))
  | ((with_reducible refine' isi_l true ?hw ?hv ?_); (case hw => assumption); (case hv => exact (by decide +kernel)))
  | ((with_reducible refine' isi_l false ?hw ?hv ?_); (case hw => assumption); (case hv => exact (by decide +kernel)))
  | ((with_reducible refine' isi_tup true ?hw ?hv ?_); (case hw => assumption); (case hv => exact (by decide +kernel)))
  | ((with_reducible refine' isi_tup false ?hw ?hv ?_); (case hw => assumption); (case hv => exact (by decide +kernel)))
  | ((with_reducible refine' isi_lst true ?hw ?hv ?_); (case hw => assumption); (case hv => exact (by decide +kernel)))
  | ((with_reducible refine' isi_lst false ?hw ?hv ?_); (case hw => assumption); (case hv => exact (by decide +kernel)))))
local macro_rules | `(tactic| walk_at "om") => `(tactic| first | omega | (simp only [List.length_cons, List.length_nil, List.length_map, List.length_append, List.length_range]; omega))
local macro_rules | `(tactic| walk_at "d") => `(tactic| (first
  | ((with_reducible refine' i_dt ?hv ?_); (case hv => walk_at "om"))
  | ((with_reducible refine' i_df ?hv ?_); (case hv => walk_at "om"))
  | ((with_reducible refine' i_ndt ?hv ?_); (case hv => walk_at "om"))
  | ((with_reducible refine' i_ndf ?hv ?_); (case hv => walk_at "om"))))
local macro_rules | `(tactic| walk_at "x") => `(tactic| first
  | ((with_reducible refine' o_ixA ?hv ?hw ?_); (case hv => assumption); (case hw => exact rfl))
  | ((with_reducible refine' o_ixU ?hv ?hw ?_); (case hv => assumption); (case hw => exact rfl))
  | ((with_reducible refine' o_ixL ?hv ?hw ?_); (case hv => assumption); (case hw => exact rfl))
  | ((with_reducible refine' o_ixT ?hv ?hw ?_); (case hv => assumption); (case hw => exact rfl))
  | ((with_reducible refine' set_ ?hv ?hw ?_); (case hv => assumption); (case hw => exact rfl))
  | ((with_reducible refine' e_lenM ?hv ?_); (case hv => first | assumption | exact slO (by assumption)))
  | ((with_reducible refine' e_lenN ?hv ?_); (case hv => first | assumption | exact stO (by assumption)))
  | ((with_reducible refine' e_lenL ?hv ?_); (case hv => first | assumption | exact slO (by assumption)))
  | ((with_reducible refine' e_lenT ?hv ?_); (case hv => first | assumption | exact stO (by assumption))))
local macro_rules | `(tactic| walk_at "c") => `(tactic| first
  | ((with_reducible refine' c_listL ?hv ?_); (case hv => assumption))
  | ((with_reducible refine' c_listT ?hv ?_); (case hv => assumption))
  | ((with_reducible refine' c_tupL ?hv ?_); (case hv => first | assumption | exact slO (by assumption)))
  | ((with_reducible refine' c_tupT ?hv ?_); (case hv => assumption))
  | ((with_reducible refine' t_lst ?hv ?_); (case hv => first | assumption | exact slO (by assumption)))
  | ((with_reducible refine' t_tup ?hv ?_); (case hv => assumption))
  | ((with_reducible refine' r_sl ?hv ?_); (case hv => first | assumption | exact slO (by assumption)))
  | ((with_reducible refine' o_inL ?hv ?_); (case hv => first | assumption | exact slO (by assumption)))
  | ((with_reducible refine' o_inT ?hv ?_); (case hv => first | assumption | exact stO (by assumption)))
  | ((with_reducible refine' o_niL ?hv ?_); (case hv => first | assumption | exact slO (by assumption)))
  | ((with_reducible refine' o_niT ?hv ?_); (case hv => first | assumption | exact stO (by assumption)))
  | ((with_reducible refine' ty_lst ?hv ?_); (case hv => assumption)))
local macro_rules | `(tactic| walk_at "mo") => `(tactic| repeat' (first | exact m_yes | exact m_var | exact m_c | exact m_I0 | exact m_I | exact m_ix | exact m_add | exact m_in | exact m_int1 | exact m_abs | exact m_nil | refine' m_and ?_ ?_ | refine' m_test ?_ | refine' m_tB ?_ | refine' m_op ?_ ?_ ?_ | refine' m_cons ?_ ?_ | refine' m_cb ?_ ?_))
local macro_rules | `(tactic| walk_at "go") => `(tactic| repeat' (first | walk_at "s" | walk_at "v" | walk_at "a" | walk_at "x" | walk_at "m" | walk_at "c" | walk_at "i" | walk_at "d"))

section
variable {P : Program} {w : World} {K : PySem.W.Frag} {mg : Str → Option Value} {base : Heap}
/-! ### the kinds of a log's blocks -/
def sp_is_ring_size : Sp := fun vs H Q _ => ∃ r b, vs = [.int r, .int b] ∧ Q (.bl (decide (4 ≤ r) && decide (r ≤ b - 8))) H
theorem ok_is_ring_size (T : Txt K mg) : FnOk P w K mg base CX0 3 T.is_ring_size.f T.is_ring_size.fd ["ring", "blocks"] (sp_is_ring_size) := by
  refine T.is_ring_size.F.ok sc_is_ring_size (fun vs H Q E h => ?_) (fun cdv A outer s H vs Q E hr h => ?_)
  · obtain ⟨r, b, rfl, _⟩ := h
    rfl
  · obtain ⟨r, b, rfl, k⟩ := h
    refine ⟨_, (pss_one (ps_ret (pe_call (ok_is_within T) (hr.mono (by decide)) (by rfl) T.is_within.g T.is_within.F.kp T.is_within.b .nil pass0 (pa_cons (pv 0) (pa_cons (pe_glob (by rfl) T.c_LEAST_RING.h T.c_LEAST_RING.r) (pa_cons (pe_op op_sub (pv 1) (pe_glob (by rfl) T.c_OTHER_BLOCKS.h T.c_OTHER_BLOCKS.r)) pa_nil)))))), ?_⟩
    walk_at "go"
    exact ⟨_, _, _, rfl, rfl, k⟩
/-- a master's content: epoch, ring, k, number, first -/
structure Mst where
  e : Nat
  r : Nat
  k : Nat
  m : Nat
  f : Nat
def Mst.ct (M : Mst) : List V := [.str "master", .int M.e, .int M.r, .int M.k, .int M.m, .int M.f]
def sp_is_master (K : PySem.W.Frag) : Sp := fun vs H Q _ => ∃ a M b, vs = [.ref a, .int b] ∧ SqT K H a (Mst.ct M) ∧ 4 ≤ M.r ∧ (M.r : Int) ≤ b - 8 ∧ ∀ H', Same H H' → Q (.bl true) H'
theorem ok_is_master (T : Txt K mg) : FnOk P w K mg base CX0 4 T.is_master.f T.is_master.fd ["content", "blocks"] (sp_is_master K) := by
  refine T.is_master.F.ok sc_is_master (fun vs H Q E h => ?_) (fun cdv A outer s H vs Q E hr h => ?_)
  · obtain ⟨a, M, b, rfl, _⟩ := h
    rfl
  · obtain ⟨a, M, b, rfl, hS, h4, h8, k⟩ := h
    refine ⟨_, (pss_cons (ps_if (PW.pt (pw_or (pt_cmpR (oNe (K := K) hr.units) (pe_callB (cLen (K := K)) (by rfl) T.z_len PySem.boot_len (pa_cons (pv 0) pa_nil)) pe_int (nomark _)) (pw_or1 (pt_cmpR (oNe (K := K) hr.units) (pe_ix (ixLT (K := K)) (pv 0) pe_int (fun _ _ => rfl)) (pe_glob (by rfl) T.c_MASTER.h T.c_MASTER.r) (nomark _))))) (pss_one (ps_ret pe_bl)) pss_nil)
    (pss_one (ps_ret (pe_and (pe_callB (cAll (K := K) rfl) (by rfl) T.z_all (by decide +kernel) (pa_cons (pe_lc (own := [("item", 2)]) rfl sc_is_master.nd (piT (K := K) (pe_slice (slT (K := K)) (pv 0) (po_some pe_int) po_none)) (blkOk_by (N := n_is_master) (sc := defScope s_is_master) (by decide +kernel)) (fun _ _ _ _ _ => (pg_name (i := 2) sc_is_master.nd rfl (Or.inl rfl))) (fun _ _ _ _ _ => pts_nil) (fun _ _ _ _ _ => (pe_call (ok_is_number T) (hr.mono (by decide)) (by rfl) T.is_number.g T.is_number.F.kp T.is_number.b .nil pass0 (pa_cons (pv 2) pa_nil)))) pa_nil)) (pe_one (pe_call (ok_is_ring_size T) (hr.mono (by decide)) (by rfl) T.is_ring_size.g T.is_ring_size.F.kp T.is_ring_size.b .nil pass0 (pa_cons (pe_ix (ixLT (K := K)) (pv 0) pe_int (fun _ _ => rfl)) (pa_cons (pv 1) pa_nil)))))))), ?_⟩
    have hS' : SqT K H a [.str "master", .int M.e, .int M.r, .int M.k, .int M.m, .int M.f] := hS
    walk_at "go"
    refine i_df (fun z => z rfl) ?_
    walk_at "go"
    refine r_slT hS fun c H1 s1 hc => ?_
    have ey : cutV (Mst.ct M) (some 1) none = [V.int M.e, V.int M.r, V.int M.k, V.int M.m, V.int M.f] := cut_from (i := 1)
    rw [ey] at hc
    refine i_tup hc ?_
    refine c_tup (xs := [V.int M.e, V.int M.r, V.int M.k, V.int M.m, V.int M.f]) (fun i acc H2 => Same H1 H2 ∧ acc = (([V.int M.e, V.int M.r, V.int M.k, V.int M.m, V.int M.f].take i).map isN).map V.bl) (fun D hD => ⟨upd_free (Same.refl _) hD, rfl⟩) (fun i acc H2 hi p => st_ p.1 hc) (fun acc D H2 hD hp p => ?_) (fun _ => rfl) (fun i x acc H2 D hx hD hp p => ?_)
    · obtain ⟨p1, rfl⟩ := p
      have hS2 : SqT K H2 a [.str "master", .int M.e, .int M.r, .int M.k, .int M.m, .int M.f] := st_ (s1.trans p1) hS
      walk_at "go"
      refine e_allB hp ?_
      have e0 : (List.map isN (List.take [V.int M.e, V.int M.r, V.int M.k, V.int M.m, V.int M.f].length [V.int M.e, V.int M.r, V.int M.k, V.int M.m, V.int M.f])).all id = true := by
        simp [isN]
      rw [e0]
      walk_at "go"
      refine ⟨_, _, rfl, ?_⟩
      have e1 : (decide (4 ≤ (M.r : Int)) && decide ((M.r : Int) ≤ b - 8)) = true := by
        rw [decide_eq_true h8, decide_eq_true (show 4 ≤ (M.r : Int) by omega)]; rfl
      rw [e1]
      exact k _ (s1.trans p1)
    · obtain ⟨p1, rfl⟩ := p
      have hi := (List.getElem?_eq_some_iff.mp hx).1
      have hn : isI x = true := by
        have m := List.mem_of_getElem? hx
        simp only [List.mem_cons, List.not_mem_nil, or_false] at m
        rcases m with rfl | rfl | rfl | rfl | rfl <;> rfl
      have hpl : plainV x = true := by cases x <;> first | rfl | cases hn
      walk_at "go"
      refine ⟨x, rfl, hpl, ?_⟩
      refine ⟨_, hp, lt_size (by simp only [List.length_map, List.length_take, List.length_cons, List.length_nil] at hi ⊢; omega), _, upd_same, upd_free p1 hD, ?_⟩
      rw [List.take_add_one, hx, List.map_append, List.map_append]; rfl
/-- the content of a block that was written as a piece -/
structure Pc where
  k : Nat
  e : Nat
  r : Nat
  l : Nat
  xs : List V
def Pc.ct (p : Pc) : List V := .int p.k :: .int p.e :: .int p.r :: .int p.l :: p.xs
def octs : Option Pc → List V
  | none => []
  | some p => p.ct
def pieceB (o : Option Pc) (k : Int) : Bool := match o with
  | none => false
  | some p => decide ((p.k : Int) = k)
def sp_is_piece (K : PySem.W.Frag) : Sp := fun vs H Q _ => ∃ (a : Addr) (o : Option Pc) (k : Int), vs = [.ref a, .int k] ∧ SqT K H a (octs o) ∧ (∀ p, o = some p → p.xs ≠ []) ∧ (octs o).length ≤ 1000 ∧
  ∀ H', Same H H' → Q (.bl (pieceB o k)) H'
theorem ok_is_piece (T : Txt K mg) : FnOk P w K mg base CX0 3 T.is_piece.f T.is_piece.fd ["content", "k"] (sp_is_piece K) := by
  refine T.is_piece.F.ok sc_is_piece (fun vs H Q E h => ?_) (fun cdv A outer s H vs Q E hr h => ?_)
  · obtain ⟨a, o, n, rfl, _⟩ := h
    rfl
  · obtain ⟨a, o, n, rfl, hS, hne, hl, k⟩ := h
    refine ⟨_, (pss_one (ps_ret (pe_and (pe_cmpR op_gt (pe_callB (cLen (K := K)) (by rfl) T.z_len PySem.boot_len (pa_cons (pv 0) pa_nil)) (pe_glob (by rfl) T.c_HEAD.h T.c_HEAD.r) (nomark _)) (pe_and (pe_callB (cAll (K := K) rfl) (by rfl) T.z_all (by decide +kernel) (pa_cons (pe_lc (own := [("item", 2)]) rfl sc_is_piece.nd (piT (K := K) (pe_slice (slT (K := K)) (pv 0) po_none (po_some (pe_glob (by rfl) T.c_HEAD.h T.c_HEAD.r)))) (blkOk_by (N := n_is_piece) (sc := defScope s_is_piece) (by decide +kernel)) (fun _ _ _ _ _ => (pg_name (i := 2) sc_is_piece.nd rfl (Or.inl rfl))) (fun _ _ _ _ _ => pts_nil) (fun _ _ _ _ _ => (pe_call (ok_is_number T) (hr.mono (by decide)) (by rfl) T.is_number.g T.is_number.F.kp T.is_number.b .nil pass0 (pa_cons (pv 2) pa_nil)))) pa_nil)) (pe_one (pe_cmpR (oEq (K := K) hr.units) (pe_ix (ixLT (K := K)) (pv 0) pe_int (fun _ _ => rfl)) (pv 1) (nomark _))))))), ?_⟩
    cases o with
    | none =>
      have hS' : SqT K H a [] := hS
      walk_at "go"
      exact k _ (Same.refl _)
    | some p =>
      have h0 := List.length_pos_iff.mpr (hne p rfl)
      have el : (octs (some p)).length = p.xs.length + 4 := rfl
      walk_at "go"
      refine r_slT hS fun c H1 s1 hc => ?_
      have ey : cutV (octs (some p)) none (some 4) = [V.int p.k, V.int p.e, V.int p.r, V.int p.l] := cut_to (j := 4)
      rw [ey] at hc
      refine i_tup hc ?_
      refine c_tup (xs := [V.int p.k, V.int p.e, V.int p.r, V.int p.l]) (fun i acc H2 => Same H1 H2 ∧ acc = (([V.int p.k, V.int p.e, V.int p.r, V.int p.l].take i).map isN).map V.bl) (fun D hD => ⟨upd_free (Same.refl _) hD, rfl⟩) (fun i acc H2 hi p => st_ p.1 hc) (fun acc D H2 hD hp p1 => ?_) (fun _ => rfl) (fun i x acc H2 D hx hD hp p1 => ?_)
      · obtain ⟨p1, rfl⟩ := p1
        have hS2 := st_ (s1.trans p1) hS
        walk_at "go"
        refine e_allB hp ?_
        have e0 : (List.map isN (List.take [V.int p.k, V.int p.e, V.int p.r, V.int p.l].length [V.int p.k, V.int p.e, V.int p.r, V.int p.l])).all id = true := by
          simp [isN]
        rw [e0]
        walk_at "go"
        refine o_ixT hS2 (atI_in (j := 0) rfl rfl) ?_
        walk_at "go"
        exact k _ (s1.trans p1)
      · obtain ⟨p1, rfl⟩ := p1
        have hi := (List.getElem?_eq_some_iff.mp hx).1
        have hn : isI x = true := by
          have m := List.mem_of_getElem? hx
          simp only [List.mem_cons, List.not_mem_nil, or_false] at m
          rcases m with rfl | rfl | rfl | rfl <;> rfl
        have hpl : plainV x = true := by cases x <;> first | rfl | cases hn
        walk_at "go"
        refine ⟨x, rfl, hpl, ?_⟩
        refine ⟨_, hp, lt_size (by simp only [List.length_map, List.length_take, List.length_cons, List.length_nil] at hi ⊢; omega), _, upd_same, upd_free p1 hD, ?_⟩
        rw [List.take_add_one, hx, List.map_append, List.map_append]; rfl
def beginsB (M : Mst) (p : Pc) : Bool := decide (p.r = M.m) && decide (M.f ≤ p.e)
def sp_begins (K : PySem.W.Frag) : Sp := fun vs H Q _ => ∃ a b M p, vs = [.ref a, .ref b] ∧ SqT K H a (Mst.ct M) ∧ SqT K H b (Pc.ct p) ∧ Q (.bl (beginsB M p)) H
theorem ok_begins (T : Txt K mg) : FnOk P w K mg base CX0 1 T.begins.f T.begins.fd ["master", "content"] (sp_begins K) := by
  refine T.begins.F.ok sc_begins (fun vs H Q E h => ?_) (fun cdv A outer s H vs Q E hr h => ?_)
  · obtain ⟨a, b, M, p, rfl, _⟩ := h
    rfl
  · obtain ⟨a, b, M, p, rfl, hA, hB, k⟩ := h
    refine ⟨_, (pss_one (ps_ret (pe_and (pe_cmpR (oEq (K := K) hr.units) (pe_ix (ixLT (K := K)) (pv 1) pe_int (fun _ _ => rfl)) (pe_ix (ixLT (K := K)) (pv 0) pe_int (fun _ _ => rfl)) (nomark _)) (pe_one (pe_cmpR op_ge (pe_ix (ixLT (K := K)) (pv 1) pe_int (fun _ _ => rfl)) (pe_ix (ixLT (K := K)) (pv 0) pe_int (fun _ _ => rfl)) (nomark _)))))), ?_⟩
    have hA' : SqT K H a [.str "master", .int M.e, .int M.r, .int M.k, .int M.m, .int M.f] := hA
    have hB' : SqT K H b (.int p.k :: .int p.e :: .int p.r :: .int p.l :: p.xs) := hB
    walk_at "go"
    refine o_ixT hB' (atI_in (j := 2) rfl rfl) ?_
    walk_at "go"
    have e1 : decide ((p.r : Int) = (M.m : Int)) = decide (p.r = M.m) := decide_eq_decide.mpr (by omega)
    rw [e1]
    unfold beginsB at k
    cases e2 : decide (p.r = M.m) with
    | false =>
      rw [e2] at k
      walk_at "go"
      exact k
    | true =>
      rw [e2] at k
      walk_at "go"
      refine o_ixT hB' (atI_in (j := 1) rfl rfl) ?_
      walk_at "go"
      rw [show decide ((p.e : Int) ≥ (M.f : Int)) = decide (M.f ≤ p.e) from decide_eq_decide.mpr (by omega)]
      exact k
def goesB (p q : Pc) : Bool := if p.l = 0 then decide (q.r = p.r + 1) && decide (p.e ≤ q.e) else decide (q.r = p.r) && (decide (q.l + 1 = p.l) && decide (q.e = p.e))
def sp_goes_on (K : PySem.W.Frag) : Sp := fun vs H Q _ => ∃ a b p q, vs = [.ref a, .ref b] ∧ SqT K H a (Pc.ct p) ∧ SqT K H b (Pc.ct q) ∧ ∀ H', Same H H' → Q (.bl (goesB p q)) H'
theorem ok_goes_on (T : Txt K mg) : FnOk P w K mg base CX0 1 T.goes_on.f T.goes_on.fd ["ahead", "content"] (sp_goes_on K) := by
  refine T.goes_on.F.ok sc_goes_on (fun vs H Q E h => ?_) (fun cdv A outer s H vs Q E hr h => ?_)
  · obtain ⟨a, b, p, q, rfl, _⟩ := h
    rfl
  · obtain ⟨a, b, p, q, rfl, hA, hB, k⟩ := h
    refine ⟨_, (pss_cons (ps_asg (pe_slice (slT (K := K)) (pv 1) po_none (po_some (pe_glob (by rfl) T.c_HEAD.h T.c_HEAD.r))) (pgTup (K := K) (n := 4) (pg_tup (n := 4) rfl (pgs_cons (pg_name (i := 2) sc_goes_on.nd rfl (Or.inl rfl)) (pgs_cons (pg_name (i := 3) sc_goes_on.nd rfl (Or.inl rfl)) (pgs_cons (pg_name (i := 4) sc_goes_on.nd rfl (Or.inl rfl)) (pgs_cons (pg_name (i := 5) sc_goes_on.nd rfl (Or.inl rfl)) pgs_nil)))))))
    (pss_cons (ps_if (pt_cmpR (oEq (K := K) hr.units) (pe_ix (ixLT (K := K)) (pv 0) pe_int (fun _ _ => rfl)) pe_int (nomark _)) (pss_one (ps_ret (pe_and (pe_cmpR (oEq (K := K) hr.units) (pv 4) (pe_op oAdd (pe_ix (ixLT (K := K)) (pv 0) pe_int (fun _ _ => rfl)) pe_int) (nomark _)) (pe_one (pe_cmpR op_ge (pv 3) (pe_ix (ixLT (K := K)) (pv 0) pe_int (fun _ _ => rfl)) (nomark _)))))) pss_nil)
    (pss_one (ps_ret (pe_and (pe_cmpR (oEq (K := K) hr.units) (pv 4) (pe_ix (ixLT (K := K)) (pv 0) pe_int (fun _ _ => rfl)) (nomark _)) (pe_and (pe_cmpR (oEq (K := K) hr.units) (pv 5) (pe_op op_sub (pe_ix (ixLT (K := K)) (pv 0) pe_int (fun _ _ => rfl)) pe_int) (nomark _)) (pe_one (pe_cmpR (oEq (K := K) hr.units) (pv 3) (pe_ix (ixLT (K := K)) (pv 0) pe_int (fun _ _ => rfl)) (nomark _))))))))), ?_⟩
    walk_at "go"
    refine r_slT hB fun c H1 s1 hc => ?_
    have ey : cutV (Pc.ct q) none (some 4) = [V.int q.k, V.int q.e, V.int q.r, V.int q.l] := cut_to (j := 4)
    rw [ey] at hc
    have hA1 := st_ s1 hA
    have ei : ∀ (j : Nat) (v : V), (Pc.ct p)[j]? = some v → atI (Pc.ct p) (j : Int) = some v := fun j v e => atI_in rfl e
    refine ⟨c, _, rfl, hc, rfl, _, _, rfl, _, _, rfl, _, _, rfl, _, _, rfl, rfl, ?_⟩
    walk_at "go"
    refine o_ixT hA1 (ei 3 _ rfl) ?_
    walk_at "go"
    unfold goesB at k
    refine i_d (fun z => ?_) (fun z => ?_)
    · rw [if_pos (by omega)] at k
      walk_at "go"
      refine o_ixT hA1 (ei 2 _ rfl) ?_
      walk_at "go"
      rw [show decide ((q.r : Int) = (p.r : Int) + 1) = decide (q.r = p.r + 1) from decide_eq_decide.mpr (by omega)]
      cases e2 : decide (q.r = p.r + 1) with
      | false =>
        rw [e2] at k
        walk_at "go"
        exact k _ s1
      | true =>
        rw [e2] at k
        walk_at "go"
        refine o_ixT hA1 (ei 1 _ rfl) ?_
        walk_at "go"
        rw [show decide ((p.e : Int) ≤ (q.e : Int)) = decide (p.e ≤ q.e) from decide_eq_decide.mpr (by omega)]
        exact k _ s1
    · rw [if_neg (by omega)] at k
      walk_at "go"
      refine o_ixT hA1 (ei 2 _ rfl) ?_
      walk_at "go"
      rw [show decide ((q.r : Int) = (p.r : Int)) = decide (q.r = p.r) from decide_eq_decide.mpr (by omega)]
      cases e2 : decide (q.r = p.r) with
      | false =>
        rw [e2] at k
        walk_at "go"
        exact k _ s1
      | true =>
        rw [e2] at k
        walk_at "go"
        refine o_ixT hA1 (ei 3 _ rfl) ?_
        walk_at "go"
        rw [show decide ((q.l : Int) = (p.l : Int) - 1) = decide (q.l + 1 = p.l) from decide_eq_decide.mpr (by omega)]
        cases e3 : decide (q.l + 1 = p.l) with
        | false =>
          rw [e3] at k
          walk_at "go"
          exact k _ s1
        | true =>
          rw [e3] at k
          walk_at "go"
          refine o_ixT hA1 (ei 1 _ rfl) ?_
          walk_at "go"
          rw [show decide ((q.e : Int) = (p.e : Int)) = decide (q.e = p.e) from decide_eq_decide.mpr (by omega)]
          exact k _ s1
end
end Vw

set_option Elab.async false
set_option linter.all false
set_option maxRecDepth 100000
set_option maxHeartbeats 4000000
namespace Vw
open PySem PySem.Spec PyProof.Rows L2 RT
local macro_rules | `(tactic| walk_at "s") => `(tactic| with_reducible first
  | refine' s_seq ?_ | refine' s_next ?_ | refine' s_set ?_ | refine' s_ret ?_ | refine' s_retN ?_ | refine' s_drop ?_ | refine' s_if ?_ | refine' s_ipI ?_
  | refine' e_c ?_ | refine' e_op ?_ | refine' e_un ?_ | refine' e_neg ?_ | refine' e_test ?_ | refine' e_tB ?_ | refine' e_bl ?_ | refine' e_and ?_ | refine' e_or ?_ | refine' e_not ?_
  | refine' e_andV ?_ | refine' e_orV ?_ | refine' e_notV ?_ | refine' e_kV ?_ | refine' e_ife ?_ | refine' e_nil ?_ | refine' e_cons ?_ | refine' e_cb ?_ | refine' e_call ?_ | refine' e_chain ?_
  | refine' o_addI ?_ | refine' o_eqI ?_ | refine' o_neI ?_ | refine' o_I0 ?_ | refine' o_pow16 ?_ | refine' o_pow17 ?_ | refine' o_pow18 ?_ | refine' o_pow19 ?_ | refine' o_pow30 ?_ | refine' o_pow31 ?_ | refine' o_pow1 ?_ | refine' o_pow2 ?_ | refine' o_pow3 ?_ | refine' o_pow4 ?_ | refine' o_pow5 ?_ | refine' o_pow6 ?_ | refine' o_pow9 ?_ | refine' o_pow10 ?_ | refine' o_pow12 ?_ | refine' o_pow15 ?_ | refine' o_pow20 ?_ | refine' e_lst ?_ | refine' e_tup ?_ | refine' iteT ?_ | refine' i_nt ?_ | refine' i_nf ?_ | refine' iteF ?_ | refine' c_int ?_ | refine' c_abs ?_ | refine' c_min2 ?_ | refine' c_max2 ?_ | refine' e_tru ?_ | refine' t_bl ?_ | refine' t_non ?_ | refine' t_int ?_ | refine' isN_non ?_ | refine' isN_int ?_ | refine' isN_ref ?_ | refine' isN_str ?_ | refine' isN_bl ?_ | refine' noN_non ?_ | refine' noN_int ?_ | refine' noN_ref ?_ | refine' noN_str ?_ | refine' noN_bl ?_
  | refine' s_brk ?_ | refine' s_cont ?_ | refine' s_for ?_ | refine' e_lc ?_ | refine' e_dc ?_ | refine' e_yes ?_ | refine' i_rng1 ?_ | refine' i_lst0 ?_ | refine' i_tup0 ?_ | refine' e_bm ?_ | refine' e_sl ?_ | refine' e_np ?_ | refine' e_pt ?_ | refine' e_ptI ?_ | refine' e_din ?_ | refine' e_dnin ?_ | refine' e_methE ?_ | refine' p_cons ?_ | refine' p_nil ?_ | refine' s_dput ?_ | refine' e_dget2 ?_ | refine' e_dpop1 ?_ | refine' i_enum0 ?_ | refine' i_rev0 ?_ | refine' g_sub ?_ | refine' s_asg ?_ | refine' i_zip0 ?_ | refine' e_revT ?_ | refine' isB_bl ?_ | refine' notB_bl ?_ | refine' o_neB ?_ | refine' i_nrr ?_ | refine' e_meth ?_ | refine' s_setf ?_ | refine' e_fld ?_ | refine' e_bm0 ?_ | refine' r_tx ?_ | refine' o_eqStr ?_ | refine' o_neStr ?_)
local macro_rules | `(tactic| walk_at "v") => `(tactic| ((with_reducible refine' e_var ?hv ?_); (case hv => exact rfl)))
local macro_rules | `(tactic| walk_at "a") => `(tactic| ((with_reducible refine' s_aug ?hv ?_); (case hv => exact rfl)))
local macro_rules | `(tactic| walk_at "m") => `(tactic| first
  | ((with_reducible refine' o_mod ?hv ?_); (case hv => first | decide | omega))
  | ((with_reducible refine' o_mulR ?hv ?_); (case hv => omega))
  | ((with_reducible refine' o_mulL ?hv ?_); (case hv => omega))
  | ((with_reducible refine' o_div ?hv ?hw ?_); (case hv => omega); (case hw => omega))
  | ((with_reducible refine' o_pow _ ?hv ?hw ?hx ?_); (case hv => exact rfl); (case hw => decide); (case hx => decide)))
local macro_rules | `(tactic| walk_at "i") => `(tactic| (first
  | ((with_reducible refine' isi_int true ?hv ?_); (case hv => exact (by decide +kernel)))
  | ((with_reducible refine' isi_int false ?hv ?_); (case hv => exact (by decide +kernel)))
  | ((with_reducible refine' isi_non true ?hv ?_); (case hv => exact (by decide +kernel)))
  | ((with_reducible refine' isi_non false ?hv ?_); (case hv => exact (by decide +kernel)))
  | ((with_reducible refine' isi_str true ?hv ?_); (case hv => exact (by decide +kernel)))
  | ((with_reducible refine' isi_str false ?hv ?_); (case hv => exact (by decide +kernel)))
  | ((with_reducible refine' isi_bl true ?hv ?_); (case hv => exact (by decide +kernel)))
  | ((with_reducible refine' isi_bl false ?hv ?_); (case hv => exact (by decide +kernel)))
  | ((with_reducible refine' isi_t true ?hw ?hv ?_); (case hw => assumption); (case hv => exact (by decide +kernel)))
  | ((with_reducible refine' isi_t false ?hw ?hv ?_); (case hw => assumption); (case hv => exact (by decide +kernel)))
  | ((with_reducible refine' isi_l true ?hw ?hv ?_); (case hw => assumption); (case hv => exact (by decide +kernel)))
  | ((with_reducible refine' isi_l false ?hw ?hv ?_); (case hw => assumption); (case hv => exact (by decide +kernel)))
  | ((with_reducible refine' isi_tup true ?hw ?hv ?_); (case hw => assumption); (case hv => exact (by decide +kernel)))
  | ((with_reducible refine' isi_tup false ?hw ?hv ?_); (case hw => assumption); (case hv => exact (by decide +kernel)))
  | ((with_reducible refine' isi_lst true ?hw ?hv ?_); (case hw => assumption); (case hv => exact (by decide +kernel)))
  | ((with_reducible refine' isi_lst false ?hw ?hv ?_); (case hw => assumption); (case hv => exact (by decide +kernel)))))
local macro_rules | `(tactic| walk_at "om") => `(tactic| first | omega | (simp only [List.length_cons, List.length_nil, List.length_map, List.length_append, List.length_range]; omega))
local macro_rules | `(tactic| walk_at "d") => `(tactic| (first
  | ((with_reducible refine' i_dt ?hv ?_); (case hv => walk_at "om"))
  | ((with_reducible refine' i_df ?hv ?_); (case hv => walk_at "om"))
  | ((with_reducible refine' i_ndt ?hv ?_); (case hv => walk_at "om"))
  | ((with_reducible refine' i_ndf ?hv ?_); (case hv => walk_at "om"))))
local macro_rules | `(tactic| walk_at "x") => `(tactic| first
  | ((with_reducible refine' o_ixA ?hv ?hw ?_); (case hv => assumption); (case hw => exact rfl))
  | ((with_reducible refine' o_ixU ?hv ?hw ?_); (case hv => assumption); (case hw => exact rfl))
  | ((with_reducible refine' o_ixL ?hv ?hw ?_); (case hv => assumption); (case hw => exact rfl))
  | ((with_reducible refine' o_ixT ?hv ?hw ?_); (case hv => assumption); (case hw => exact rfl))
  | ((with_reducible refine' set_ ?hv ?hw ?_); (case hv => assumption); (case hw => exact rfl))
  | ((with_reducible refine' e_lenM ?hv ?_); (case hv => first | assumption | exact slO (by assumption)))
  | ((with_reducible refine' e_lenN ?hv ?_); (case hv => first | assumption | exact stO (by assumption)))
  | ((with_reducible refine' e_lenL ?hv ?_); (case hv => first | assumption | exact slO (by assumption)))
  | ((with_reducible refine' e_lenT ?hv ?_); (case hv => first | assumption | exact stO (by assumption))))
local macro_rules | `(tactic| walk_at "c") => `(tactic| first
  | ((with_reducible refine' c_listL ?hv ?_); (case hv => assumption))
  | ((with_reducible refine' c_listT ?hv ?_); (case hv => assumption))
  | ((with_reducible refine' c_tupL ?hv ?_); (case hv => first | assumption | exact slO (by assumption)))
  | ((with_reducible refine' c_tupT ?hv ?_); (case hv => assumption))
  | ((with_reducible refine' t_lst ?hv ?_); (case hv => first | assumption | exact slO (by assumption)))
  | ((with_reducible refine' t_tup ?hv ?_); (case hv => assumption))
  | ((with_reducible refine' r_sl ?hv ?_); (case hv => first | assumption | exact slO (by assumption)))
  | ((with_reducible refine' o_inL ?hv ?_); (case hv => first | assumption | exact slO (by assumption)))
  | ((with_reducible refine' o_inT ?hv ?_); (case hv => first | assumption | exact stO (by assumption)))
  | ((with_reducible refine' o_niL ?hv ?_); (case hv => first | assumption | exact slO (by assumption)))
  | ((with_reducible refine' o_niT ?hv ?_); (case hv => first | assumption | exact stO (by assumption)))
  | ((with_reducible refine' ty_lst ?hv ?_); (case hv => assumption)))
local macro_rules | `(tactic| walk_at "mo") => `(tactic| repeat' (first | exact m_yes | exact m_var | exact m_c | exact m_I0 | exact m_I | exact m_ix | exact m_add | exact m_in | exact m_int1 | exact m_abs | exact m_nil | refine' m_and ?_ ?_ | refine' m_test ?_ | refine' m_tB ?_ | refine' m_op ?_ ?_ ?_ | refine' m_cons ?_ ?_ | refine' m_cb ?_ ?_))
local macro_rules | `(tactic| walk_at "go") => `(tactic| repeat' (first | walk_at "s" | walk_at "v" | walk_at "a" | walk_at "x" | walk_at "m" | walk_at "c" | walk_at "i" | walk_at "d"))

section
variable {P : Program} {w : World} {K : PySem.W.Frag} {mg : Str → Option Value} {base : Heap}
theorem c_rg3 {tt : TT} {te : TE} {vs : List Nat} {σ : L2.St} {H1 : Hp} {Q : VK} {j : Nat} {lo c : Int} {n : Nat} (Pv : Nat → List V → Hp → Prop) (h0 : ∀ D, H1 D = none → Pv 0 [] (upd H1 D (.lst []))) (hd : ∀ acc D H, H1 D = none → H D = some (.lst acc) → Pv n acc H → Q (.ref D) H) (hw : ∀ x, wipe ((wipe σ vs).set j x) vs = wipe σ vs)
    (hs : ∀ (i : Nat) acc H D, i < n → H1 D = none → H D = some (.lst acc) → Pv i acc H → tt ((wipe σ vs).set j (some (.int (lo + (i : Nat) * c)))) H fun b H3 =>
      if b = true then te ((wipe σ vs).set j (some (.int (lo + (i : Nat) * c)))) H3 fun y H4 => ∃ acc, H4 D = some (.lst acc) ∧ acc.length < sizeLine ∧ ∃ acc2, (upd H4 D (.lst (acc ++ [y]))) D = some (.lst acc2) ∧ Pv (i + 1) acc2 (upd H4 D (.lst (acc ++ [y]))) else ∃ acc2, H3 D = some (.lst acc2) ∧ Pv (i + 1) acc2 H3) :
    LQ (Itc lo c n) (gName j) tt te vs σ H1 Q := c_it walk_rangeC Pv h0 (fun _ _ _ _ _ => trivial) hd fun i x acc H H' D hi hD hp p y => by
  obtain ⟨rfl, rfl⟩ := y
  exact ⟨hw _, hs i acc _ D hi hD hp p⟩
/-! ### a record's pieces -/
def cutN (xs : List V) : Nat := (xs.length + 35) / 36
def cutAt (xs : List V) (i : Nat) : Ct := (xs.drop (36 * i)).take 36
def cutUp (xs : List V) : List Ct := (List.range (cutN xs)).map (cutAt xs)
theorem cutUp_length {xs : List V} : (cutUp xs).length = cutN xs := by unfold cutUp; rw [List.length_map, List.length_range]
theorem TupsAt.same {H H' : Hp} {cs : List Addr} {xss : List Ct} (h : TupsAt K H cs xss) (s : Same H H') : TupsAt K H' cs xss := h.ch (F := []) (Ch.of_same s)
def sp_cut (K : PySem.W.Frag) : Sp := fun vs H Q _ => ∃ a xs, vs = [.ref a] ∧ SqT K H a xs ∧ xs.length ≤ 30000 ∧ ∀ D cs H', Same H H' → H D = none → H' D = some (.lst (cs.map V.ref)) → TupsAt K H' cs (cutUp xs) → Q (.ref D) H'
theorem ok_pieces_of (T : Txt K mg) : FnOk P w K mg base CX0 1 T.pieces_of.f T.pieces_of.fd ["record"] ((sp_cut K)) := by
  refine T.pieces_of.F.ok sc_pieces_of (fun vs H Q E h => ?_) (fun cdv A outer s H vs Q E hr h => ?_)
  · obtain ⟨a, xs, rfl, _⟩ := h
    rfl
  · obtain ⟨a, xs, rfl, hS, hl, k⟩ := h
    refine ⟨_, (pss_one (ps_ret (pe_lc (own := [("k", 1)]) rfl sc_pieces_of.nd (pi_range3 (by rfl) T.z_range (pa_cons pe_int (pa_cons (pe_callB (cLen (K := K)) (by rfl) T.z_len PySem.boot_len (pa_cons (pv 0) pa_nil)) (pa_cons (pe_glob (by rfl) T.c_PIECE.h T.c_PIECE.r) pa_nil)))) (blkOk_by (N := n_pieces_of) (sc := defScope s_pieces_of) (by decide +kernel)) (fun _ _ _ _ _ => (pg_name (i := 1) sc_pieces_of.nd rfl (Or.inl rfl))) (fun _ _ _ _ _ => pts_nil) (fun _ _ _ _ _ => (pe_slice (slT (K := K)) (pv 0) (po_some (pv 1)) (po_some (pe_op oAdd (pv 1) (pe_glob (by rfl) T.c_PIECE.h T.c_PIECE.r)))))))), ?_⟩
    walk_at "go"
    refine i_rng3 ?_
    walk_at "go"
    refine i_rg3 (rgc36 (by omega)) ?_
    refine c_rg3 (fun i acc H1 => Same H H1 ∧ ∃ cs, acc = cs.map V.ref ∧ TupsAt K H1 cs ((List.range i).map (cutAt xs))) (fun D hD => ⟨upd_free (Same.refl _) hD, [], rfl, TupsAt.nil⟩) (fun acc D H1 hD hp p => ?_) (fun _ => rfl) (fun i acc H1 D hi hD hp p => ?_)
    · obtain ⟨p1, cs, rfl, p3⟩ := p
      exact k D cs H1 p1 hD hp p3
    · obtain ⟨p1, cs, rfl, p3⟩ := p
      have hS1 := st_ p1 hS
      walk_at "go"
      refine r_slT hS1 fun c H2 s2 hc => ?_
      have ey : cutV xs (some (0 + (i : Int) * 36)) (some (0 + (i : Int) * 36 + 36)) = cutAt xs i := by
        rw [show (0 + (i : Int) * 36) = ((36 * i : Nat) : Int) by omega, show (((36 * i : Nat) : Int) + 36) = ((36 * i + 36 : Nat) : Int) by omega, cut_nat]
        unfold cutAt
        rw [show 36 * i + 36 - 36 * i = 36 by omega]
      rw [ey] at hc
      have hl2 : cs.length = i := by rw [p3.1]; simp
      have hd2 := s2 _ _ hp
      refine ⟨_, hd2, lt_size (by rw [List.length_map]; omega), _, upd_same, upd_free (p1.trans s2) hD, cs ++ [c], by rw [List.map_append]; rfl, ?_⟩
      rw [List.range_succ, List.map_append]
      exact ((p3.same s2).snoc hc).ch (F := [D]) (Ch.upd1 (by simp) fun o e => by rw [hd2] at e; cases e; rfl)
theorem ok_law_cut_up (T : Txt K mg) : FnOk P w K mg base CX0 1 T.law_cut_up.f T.law_cut_up.fd ["record"] ((sp_cut K)) := by
  refine T.law_cut_up.F.ok sc_law_cut_up (fun vs H Q E h => ?_) (fun cdv A outer s H vs Q E hr h => ?_)
  · obtain ⟨a, xs, rfl, _⟩ := h
    rfl
  · obtain ⟨a, xs, rfl, hS, hl, k⟩ := h
    refine ⟨_, (pss_one (ps_ret (pe_lc (own := [("at", 1)]) rfl sc_law_cut_up.nd (pi_range3 (by rfl) T.z_range (pa_cons pe_int (pa_cons (pe_callB (cLen (K := K)) (by rfl) T.z_len PySem.boot_len (pa_cons (pv 0) pa_nil)) (pa_cons pe_int pa_nil)))) (blkOk_by (N := n_law_cut_up) (sc := defScope s_law_cut_up) (by decide +kernel)) (fun _ _ _ _ _ => (pg_name (i := 1) sc_law_cut_up.nd rfl (Or.inl rfl))) (fun _ _ _ _ _ => pts_nil) (fun _ _ _ _ _ => (pe_slice (slT (K := K)) (pv 0) (po_some (pv 1)) (po_some (pe_op oAdd (pv 1) pe_int))))))), ?_⟩
    walk_at "go"
    refine i_rng3 ?_
    walk_at "go"
    refine i_rg3 (rgc36 (by omega)) ?_
    refine c_rg3 (fun i acc H1 => Same H H1 ∧ ∃ cs, acc = cs.map V.ref ∧ TupsAt K H1 cs ((List.range i).map (cutAt xs))) (fun D hD => ⟨upd_free (Same.refl _) hD, [], rfl, TupsAt.nil⟩) (fun acc D H1 hD hp p => ?_) (fun _ => rfl) (fun i acc H1 D hi hD hp p => ?_)
    · obtain ⟨p1, cs, rfl, p3⟩ := p
      exact k D cs H1 p1 hD hp p3
    · obtain ⟨p1, cs, rfl, p3⟩ := p
      have hS1 := st_ p1 hS
      walk_at "go"
      refine r_slT hS1 fun c H2 s2 hc => ?_
      have ey : cutV xs (some (0 + (i : Int) * 36)) (some (0 + (i : Int) * 36 + 36)) = cutAt xs i := by
        rw [show (0 + (i : Int) * 36) = ((36 * i : Nat) : Int) by omega, show (((36 * i : Nat) : Int) + 36) = ((36 * i + 36 : Nat) : Int) by omega, cut_nat]
        unfold cutAt
        rw [show 36 * i + 36 - 36 * i = 36 by omega]
      rw [ey] at hc
      have hl2 : cs.length = i := by rw [p3.1]; simp
      have hd2 := s2 _ _ hp
      refine ⟨_, hd2, lt_size (by rw [List.length_map]; omega), _, upd_same, upd_free (p1.trans s2) hD, cs ++ [c], by rw [List.map_append]; rfl, ?_⟩
      rw [List.range_succ, List.map_append]
      exact ((p3.same s2).snoc hc).ch (F := [D]) (Ch.upd1 (by simp) fun o e => by rw [hd2] at e; cases e; rfl)
end
end Vw

set_option Elab.async false
set_option linter.all false
set_option maxRecDepth 100000
set_option maxHeartbeats 4000000
namespace Vw
open PySem PySem.Spec PyProof.Rows L2 RT
local macro_rules | `(tactic| walk_at "s") => `(tactic| with_reducible first
  | refine' s_seq ?_ | refine' s_next ?_ | refine' s_set ?_ | refine' s_ret ?_ | refine' s_retN ?_ | refine' s_drop ?_ | refine' s_if ?_ | refine' s_ipI ?_
  | refine' e_c ?_ | refine' e_op ?_ | refine' e_un ?_ | refine' e_neg ?_ | refine' e_test ?_ | refine' e_tB ?_ | refine' e_bl ?_ | refine' e_and ?_ | refine' e_or ?_ | refine' e_not ?_
  | refine' e_andV ?_ | refine' e_orV ?_ | refine' e_notV ?_ | refine' e_kV ?_ | refine' e_ife ?_ | refine' e_nil ?_ | refine' e_cons ?_ | refine' e_cb ?_ | refine' e_call ?_ | refine' e_chain ?_
  | refine' o_addI ?_ | refine' o_eqI ?_ | refine' o_neI ?_ | refine' o_I0 ?_ | refine' o_pow16 ?_ | refine' o_pow17 ?_ | refine' o_pow18 ?_ | refine' o_pow19 ?_ | refine' o_pow30 ?_ | refine' o_pow31 ?_ | refine' o_pow1 ?_ | refine' o_pow2 ?_ | refine' o_pow3 ?_ | refine' o_pow4 ?_ | refine' o_pow5 ?_ | refine' o_pow6 ?_ | refine' o_pow9 ?_ | refine' o_pow10 ?_ | refine' o_pow12 ?_ | refine' o_pow15 ?_ | refine' o_pow20 ?_ | refine' e_lst ?_ | refine' e_tup ?_ | refine' iteT ?_ | refine' i_nt ?_ | refine' i_nf ?_ | refine' iteF ?_ | refine' c_int ?_ | refine' c_abs ?_ | refine' c_min2 ?_ | refine' c_max2 ?_ | refine' e_tru ?_ | refine' t_bl ?_ | refine' t_non ?_ | refine' t_int ?_ | refine' isN_non ?_ | refine' isN_int ?_ | refine' isN_ref ?_ | refine' isN_str ?_ | refine' isN_bl ?_ | refine' noN_non ?_ | refine' noN_int ?_ | refine' noN_ref ?_ | refine' noN_str ?_ | refine' noN_bl ?_
  | refine' s_brk ?_ | refine' s_cont ?_ | refine' s_for ?_ | refine' e_lc ?_ | refine' e_dc ?_ | refine' e_yes ?_ | refine' i_rng1 ?_ | refine' i_lst0 ?_ | refine' i_tup0 ?_ | refine' e_bm ?_ | refine' e_sl ?_ | refine' e_np ?_ | refine' e_pt ?_ | refine' e_ptI ?_ | refine' e_din ?_ | refine' e_dnin ?_ | refine' e_methE ?_ | refine' p_cons ?_ | refine' p_nil ?_ | refine' s_dput ?_ | refine' e_dget2 ?_ | refine' e_dpop1 ?_ | refine' i_enum0 ?_ | refine' i_rev0 ?_ | refine' g_sub ?_ | refine' s_asg ?_ | refine' i_zip0 ?_ | refine' e_revT ?_ | refine' isB_bl ?_ | refine' notB_bl ?_ | refine' o_neB ?_ | refine' i_nrr ?_ | refine' e_meth ?_ | refine' s_setf ?_ | refine' e_fld ?_ | refine' e_bm0 ?_ | refine' r_tx ?_ | refine' o_eqStr ?_ | refine' o_neStr ?_)
local macro_rules | `(tactic| walk_at "v") => `(tactic| ((with_reducible refine' e_var ?hv ?_); (case hv => exact rfl)))
local macro_rules | `(tactic| walk_at "a") => `(tactic| ((with_reducible refine' s_aug ?hv ?_); (case hv => exact rfl)))
local macro_rules | `(tactic| walk_at "m") => `(tactic| first
  | ((with_reducible refine' o_mod ?hv ?_); (case hv => first | decide | omega))
  | ((with_reducible refine' o_mulR ?hv ?_); (case hv => omega))
  | ((with_reducible refine' o_mulL ?hv ?_); (case hv => omega))
  | ((with_reducible refine' o_div ?hv ?hw ?_); (case hv => omega); (case hw => omega))
  | ((with_reducible refine' o_pow _ ?hv ?hw ?hx ?_); (case hv => exact rfl); (case hw => decide); (case hx => decide)))
local macro_rules | `(tactic| walk_at "i") => `(tactic| (first
  | ((with_reducible refine' isi_int true ?hv ?_); (case hv => exact (by decide +kernel)))
  | ((with_reducible refine' isi_int false ?hv ?_); (case hv => exact (by decide +kernel)))
  | ((with_reducible refine' isi_non true ?hv ?_); (case hv => exact (by decide +kernel)))
  | ((with_reducible refine' isi_non false ?hv ?_); (case hv => exact (by decide +kernel)))
  | ((with_reducible refine' isi_str true ?hv ?_); (case hv => exact (by decide +kernel)))
  | ((with_reducible refine' isi_str false ?hv ?_); (case hv => exact (by decide +kernel)))
  | ((with_reducible refine' isi_bl true ?hv ?_); (case hv => exact (by decide +kernel)))
  | ((with_reducible refine' isi_bl false ?hv ?_); (case hv => exact (by decide +kernel)))
  | ((with_reducible refine' isi_t true ?hw ?hv ?_); (case hw => assumption); (case hv => exact (by decide +kernel)))
  | ((with_reducible refine' isi_t false ?hw ?hv ?_); (case hw => assumption); (case hv => exact (by decide +kernel)))
  | ((with_reducible refine' isi_l true ?hw ?hv ?_); (case hw => assumption); (case hv => exact (by decide +kernel)))
  | ((with_reducible refine' isi_l false ?hw ?hv ?_); (case hw => assumption); (case hv => exact (by decide +kernel)))
  | ((with_reducible refine' isi_tup true ?hw ?hv ?_); (case hw => assumption); (case hv => exact (by decide +kernel)))
  | ((with_reducible refine' isi_tup false ?hw ?hv ?_); (case hw => assumption); (case hv => exact (by decide +kernel)))
  | ((with_reducible refine' isi_lst true ?hw ?hv ?_); (case hw => assumption); (case hv => exact (by decide +kernel)))
  | ((with_reducible refine' isi_lst false ?hw ?hv ?_); (case hw => assumption); (case hv => exact (by decide +kernel)))))
local macro_rules | `(tactic| walk_at "om") => `(tactic| first | omega | (simp only [List.length_cons, List.length_nil, List.length_map, List.length_append, List.length_range]; omega))
local macro_rules | `(tactic| walk_at "d") => `(tactic| (first
  | ((with_reducible refine' i_dt ?hv ?_); (case hv => walk_at "om"))
  | ((with_reducible refine' i_df ?hv ?_); (case hv => walk_at "om"))
  | ((with_reducible refine' i_ndt ?hv ?_); (case hv => walk_at "om"))
  | ((with_reducible refine' i_ndf ?hv ?_); (case hv => walk_at "om"))))
local macro_rules | `(tactic| walk_at "x") => `(tactic| first
  | ((with_reducible refine' o_ixA ?hv ?hw ?_); (case hv => assumption); (case hw => exact rfl))
  | ((with_reducible refine' o_ixU ?hv ?hw ?_); (case hv => assumption); (case hw => exact rfl))
  | ((with_reducible refine' o_ixL ?hv ?hw ?_); (case hv => assumption); (case hw => exact rfl))
  | ((with_reducible refine' o_ixT ?hv ?hw ?_); (case hv => assumption); (case hw => exact rfl))
  | ((with_reducible refine' set_ ?hv ?hw ?_); (case hv => assumption); (case hw => exact rfl))
  | ((with_reducible refine' e_lenM ?hv ?_); (case hv => first | assumption | exact slO (by assumption)))
  | ((with_reducible refine' e_lenN ?hv ?_); (case hv => first | assumption | exact stO (by assumption)))
  | ((with_reducible refine' e_lenL ?hv ?_); (case hv => first | assumption | exact slO (by assumption)))
  | ((with_reducible refine' e_lenT ?hv ?_); (case hv => first | assumption | exact stO (by assumption))))
local macro_rules | `(tactic| walk_at "c") => `(tactic| first
  | ((with_reducible refine' c_listL ?hv ?_); (case hv => assumption))
  | ((with_reducible refine' c_listT ?hv ?_); (case hv => assumption))
  | ((with_reducible refine' c_tupL ?hv ?_); (case hv => first | assumption | exact slO (by assumption)))
  | ((with_reducible refine' c_tupT ?hv ?_); (case hv => assumption))
  | ((with_reducible refine' t_lst ?hv ?_); (case hv => first | assumption | exact slO (by assumption)))
  | ((with_reducible refine' t_tup ?hv ?_); (case hv => assumption))
  | ((with_reducible refine' r_sl ?hv ?_); (case hv => first | assumption | exact slO (by assumption)))
  | ((with_reducible refine' o_inL ?hv ?_); (case hv => first | assumption | exact slO (by assumption)))
  | ((with_reducible refine' o_inT ?hv ?_); (case hv => first | assumption | exact stO (by assumption)))
  | ((with_reducible refine' o_niL ?hv ?_); (case hv => first | assumption | exact slO (by assumption)))
  | ((with_reducible refine' o_niT ?hv ?_); (case hv => first | assumption | exact stO (by assumption)))
  | ((with_reducible refine' ty_lst ?hv ?_); (case hv => assumption)))
local macro_rules | `(tactic| walk_at "mo") => `(tactic| repeat' (first | exact m_yes | exact m_var | exact m_c | exact m_I0 | exact m_I | exact m_ix | exact m_add | exact m_in | exact m_int1 | exact m_abs | exact m_nil | refine' m_and ?_ ?_ | refine' m_test ?_ | refine' m_tB ?_ | refine' m_op ?_ ?_ ?_ | refine' m_cons ?_ ?_ | refine' m_cb ?_ ?_))
local macro_rules | `(tactic| walk_at "go") => `(tactic| repeat' (first | walk_at "s" | walk_at "v" | walk_at "a" | walk_at "x" | walk_at "m" | walk_at "c" | walk_at "i" | walk_at "d"))

section
variable {P : Program} {w : World} {K : PySem.W.Frag} {mg : Str → Option Value} {base : Heap}
abbrev Rw := List (Int × Addr × List Addr)
/-! ### the disk's other deeds, as data -/
def SD.shows (S : SD) (b : Int) : Option Ct := if S.rows b = [] then S.lies[b.toNat]? else (S.rows b)[(S.rows b).length - 1]?
theorem shows_at {H : Hp} {D : Dsk} {S : SD} (v : Sees K H D S) (hr : ∀ r ∈ D.rows, r.2.2 ≠ []) {b : Int} (h0 : 0 ≤ b) (h1 : b < S.lies.length) : ∃ c xs, D.shows b = some c ∧ S.shows b = some xs ∧ SqT K H c xs ∧ CtOk xs := by
  unfold Dsk.shows Dsk.row SD.shows
  cases e : D.rows.find? fun r => decide (r.1 = b) with
  | none =>
    rw [v.rv.non e, if_pos rfl]
    have hl : b.toNat < S.lies.length := by omega
    obtain ⟨d, e1, e2⟩ := v.lv.get (List.getElem?_eq_getElem hl)
    exact ⟨d, _, e1, List.getElem?_eq_getElem hl, e2, v.ok.cl _ (List.getElem_mem hl)⟩
  | some r =>
    have tu := v.rv.som e
    have ne := hr r (List.mem_of_find?_eq_some e)
    have nz : S.rows b ≠ [] := fun z => by
      rw [z] at tu
      exact ne (List.length_eq_zero_iff.mp tu.1)
    rw [if_neg nz]
    have pos := List.length_pos_iff.mpr nz
    have hl : (S.rows b).length - 1 < (S.rows b).length := by omega
    obtain ⟨d, e1, e2⟩ := tu.get (List.getElem?_eq_getElem hl)
    refine ⟨d, _, ?_, List.getElem?_eq_getElem hl, e2, v.ok.cr b _ (List.getElem_mem hl)⟩
    show r.2.2[r.2.2.length - 1]? = some d
    rw [tu.1]; exact e1
def SD.wrote (S : SD) (b : Int) (c : Ct) : SD := { S with rows := fun x => if x = b then S.rows b ++ [c] else S.rows x }
theorem SD.wrote_ok {S : SD} {b : Int} {c : Ct} (h : S.Ok) (h0 : 0 ≤ b) (h1 : b < S.lies.length) (hc : CtOk c) : (S.wrote b c).Ok := by
  refine ⟨h.ln, h.cl, fun x xs hx => ?_, fun x hx => ?_, h.pw⟩
  · have hx : xs ∈ (if x = b then S.rows b ++ [c] else S.rows x) := hx
    split at hx
    · rcases List.mem_append.mp hx with z | z
      · exact h.cr b _ z
      · rw [List.mem_singleton.mp z]; exact hc
    · exact h.cr x _ hx
  · show 0 ≤ x ∧ x < S.lies.length
    have hx : (if x = b then S.rows b ++ [c] else S.rows x) ≠ [] := hx
    split at hx
    · next z => rw [z]; exact ⟨h0, h1⟩
    · exact h.out x hx
def SD.cut (S : SD) : SD := { S with rows := fun _ => [], pw := none }
theorem SD.cut_ok {S : SD} (h : S.Ok) : S.cut.Ok := ⟨h.ln, h.cl, fun b xs hx => (nomatch hx), fun b z => absurd rfl z, fun i z => (nomatch z)⟩
theorem addRow_find {rows : Rw} {b : Int} {c r' : Addr} {x : Int} : (addRow rows b c r').find? (fun q => decide (q.1 = x)) = if x = b then some (match rows.find? fun q => decide (q.1 = b) with | some r => (r.1, r.2.1, r.2.2 ++ [c]) | none => (b, r', [c])) else rows.find? fun q => decide (q.1 = x) := by
  unfold addRow
  cases e : rows.find? fun r => decide (r.1 = b) with
  | some r0 =>
    show (rows.map fun r => if r.1 = b then (r.1, r.2.1, r.2.2 ++ [c]) else r).find? _ = _
    rw [List.find?_map]
    have e2 : ((fun q : Int × Addr × List Addr => decide (q.1 = x)) ∘ fun q => if q.1 = b then (q.1, q.2.1, q.2.2 ++ [c]) else q) = fun q => decide (q.1 = x) := by
      funext q
      show decide ((if q.1 = b then (q.1, q.2.1, q.2.2 ++ [c]) else q).1 = x) = decide (q.1 = x)
      split <;> rfl
    rw [e2]
    by_cases hx : x = b
    · rw [if_pos hx, hx, e]
      have : r0.1 = b := of_decide_eq_true (List.find?_some (p := fun r : Int × Addr × List Addr => decide (r.1 = b)) e)
      show some (if r0.1 = b then _ else r0) = _
      rw [if_pos this]
    · rw [if_neg hx]
      cases q : rows.find? fun q => decide (q.1 = x) with
      | none => rfl
      | some r =>
        have : r.1 = x := of_decide_eq_true (List.find?_some (p := fun r : Int × Addr × List Addr => decide (r.1 = x)) q)
        show some (if r.1 = b then _ else r) = some r
        rw [if_neg (by rw [this]; exact hx)]
  | none =>
    show (rows ++ [(b, r', [c])]).find? _ = _
    rw [List.find?_append]
    by_cases hx : x = b
    · rw [if_pos hx, hx, e, Option.none_or]
      simp
    · rw [if_neg hx]
      cases q : rows.find? fun q => decide (q.1 = x) with
      | none => rw [Option.none_or]; simp [Ne.symm hx]
      | some r => rfl
theorem ds_wrote {p : Addr} {H H' : Hp} {D : Dsk} {S : SD} {b : Int} {c r' : Addr} {xs : Ct} (v : Sees K H D S) (hc : SqT K H c xs) (ok : CtOk xs) (h0 : 0 ≤ b) (h1 : b < S.lies.length) (s : Ch (D.foot p) H H') : Sees K H' { D with rows := addRow D.rows b c r' } (S.wrote b xs) := by
  refine ⟨SD.wrote_ok v.ok h0 h1 ok, v.lv.ch s, fun x => ?_, v.pw, v.rc⟩
  show match (addRow D.rows b c r').find? fun q => decide (q.1 = x) with
    | none => (if x = b then S.rows b ++ [xs] else S.rows x) = []
    | some r => TupsAt K H' r.2.2 (if x = b then S.rows b ++ [xs] else S.rows x)
  rw [addRow_find]
  by_cases hx : x = b
  · rw [if_pos hx, if_pos hx]
    cases e : D.rows.find? fun q => decide (q.1 = b) with
    | some r => exact ((v.rv.som e).ch s).snoc (s.st hc)
    | none =>
      rw [v.rv.non e]
      exact TupsAt.nil.snoc (s.st hc)
  · rw [if_neg hx, if_neg hx]
    exact (v.rv.ch s) x
theorem addRow_foot {D : Dsk} {b : Int} {c r' p : Addr} {x : Addr} (h : x ∈ ({ D with rows := addRow D.rows b c r' } : Dsk).foot p) : x ∈ D.foot p ∨ x = r' := by
  unfold Dsk.foot addRow at *
  simp only [List.mem_cons] at h ⊢
  rcases h with z | z | z | z
  · exact .inl (.inl z)
  · exact .inl (.inr (.inl z))
  · exact .inl (.inr (.inr (.inl z)))
  · obtain ⟨q, hq, e⟩ := List.mem_map.mp z
    split at hq
    · obtain ⟨q0, h0, e0⟩ := List.mem_map.mp hq
      refine .inl (.inr (.inr (.inr (List.mem_map.mpr ⟨q0, h0, ?_⟩))))
      rw [← e, ← e0]
      split <;> rfl
    · rcases List.mem_append.mp hq with y | y
      · exact .inl (.inr (.inr (.inr (List.mem_map.mpr ⟨q, y, e⟩))))
      · rw [List.mem_singleton.mp y] at e
        exact .inr e.symm
theorem wr_pre {C p : Addr} {H : Hp} {D : Dsk} {S : SD} (h : DiskAt C H p D) (v : Sees K H D S) (bd : ∀ x, (S.rows x).length < 1000) : D.rows.length < 1000 ∧ ∀ r ∈ D.rows, r.2.2.length < 1000 := by
  refine ⟨?_, fun r hr => ?_⟩
  · have := len_le_of_sub h.kd (L := (List.range D.lies.length).map Int.ofNat) fun x hx => by
      obtain ⟨r, hr, e⟩ := List.mem_map.mp hx
      have := h.kb r hr
      rw [e] at this
      exact List.mem_map.mpr ⟨x.toNat, List.mem_range.mpr (by omega), by show ((x.toNat : Nat) : Int) = x; omega⟩
    rw [List.length_map, List.length_map, List.length_range] at this
    have := h.few
    omega
  · have hx := (rows_mem h v.rv r.1).mp (List.mem_map.mpr ⟨r, hr, rfl⟩)
    obtain ⟨r2, _, hm, hk, tu⟩ := v.rv.there hx
    have : r2 = r := row_uniq h.kd r2 hm r hr hk
    subst this
    rw [tu.1]; exact bd _
theorem ds_write {C p : Addr} {H H' : Hp} {D : Dsk} {S : SD} {b : Int} {c r' : Addr} {xs : Ct} (h : DiskAt C H p D) (v : Sees K H D S) (hc : SqT K H c xs) (ok : CtOk xs) (h0 : 0 ≤ b) (h1 : b < S.lies.length) (hr : r' ∈ D.foot p ∨ H r' = none) (h' : DiskAt C H' p { D with rows := addRow D.rows b c r' }) (but : But (D.foot p) H H') :
    DS K C H' p (({ D with rows := addRow D.rows b c r' } : Dsk).foot p) (S.wrote b xs) ∧ Ch (D.foot p) H H' ∧ ∀ x ∈ ({ D with rows := addRow D.rows b c r' } : Dsk).foot p, x ∈ D.foot p ∨ H x = none := by
  have ch := Ch.of_but but h.mut
  refine ⟨⟨_, h', rfl, ds_wrote v hc ok h0 h1 ch⟩, ch, fun x hx => ?_⟩
  rcases addRow_foot hx with z | z
  · exact .inl z
  · rw [z]; exact hr
theorem ds_cut {C p w' : Addr} {H H' : Hp} {D : Dsk} {S : SD} (h : DiskAt C H p D) (v : Sees K H D S) (hw : H w' = none) (h' : DiskAt C H' p { D with w := w', rows := [], pw := none }) (but : But [p] H H') :
    DS K C H' p (({ D with w := w', rows := [], pw := none } : Dsk).foot p) S.cut ∧ Ch (D.foot p) H H' ∧ ∀ x ∈ ({ D with w := w', rows := [], pw := none } : Dsk).foot p, x ∈ D.foot p ∨ H x = none := by
  have ch : Ch (D.foot p) H H' := Ch.of_but (fun b o n e => but b o (fun z => n (by rw [List.mem_singleton.mp z]; unfold Dsk.foot; simp)) e) h.mut
  refine ⟨⟨_, h', rfl, ⟨SD.cut_ok v.ok, v.lv.ch ch, fun b => rfl, rfl, v.rc⟩⟩, ch, fun x hx => ?_⟩
  have hx : x ∈ [p, D.l, w'] := hx
  simp only [List.mem_cons, List.not_mem_nil, or_false] at hx
  rcases hx with z | z | z <;> subst z
  · exact .inl (by unfold Dsk.foot; simp)
  · exact .inl (by unfold Dsk.foot; simp)
  · exact .inr hw
/-! ### the words of a disk, as data -/
theorem w_read {C p : Addr} {F : List Addr} {S : SD} {H : Hp} {Q : VK} {E : XK} {b : Int} (h : DS K C H p F S) (h0 : 0 ≤ b) (h1 : b < S.lies.length) (q : ∀ c xs, S.shows b = some xs → SqT K H c xs → CtOk xs → Q (.ref c) H) : sp_disk_read C [.ref p, .int b] H Q E := by
  obtain ⟨D, hD, rfl, v⟩ := h
  obtain ⟨c, xs, e1, e2, tc, ok⟩ := shows_at v (fun r hr => (hD.hr r hr).2) h0 h1
  have := v.lv.1
  exact ⟨p, D, b, c, rfl, hD, h0, by omega, e1, q c xs e2 tc ok⟩
theorem w_lying {C p : Addr} {F : List Addr} {S : SD} {H : Hp} {Q : VK} {E : XK} {b : Int} {xs : Ct} (h : DS K C H p F S) (h0 : 0 ≤ b) (e : S.lies[b.toNat]? = some xs) (q : ∀ c, SqT K H c xs → Q (.ref c) H) : sp_disk_lying C [.ref p, .int b] H Q E := by
  obtain ⟨D, hD, rfl, v⟩ := h
  obtain ⟨d, e1, e2⟩ := v.lv.get e
  exact ⟨p, D, b, d, rfl, hD, h0, e1, q d e2⟩
theorem w_write {C p c : Addr} {F : List Addr} {S : SD} {H : Hp} {Q : VK} {E : XK} {b : Int} {xs : Ct} (h : DS K C H p F S) (bd : ∀ x, (S.rows x).length < 1000) (h0 : 0 ≤ b) (h1 : b < S.lies.length) (hc : SqT K H c xs) (ok : CtOk xs)
    (q : ∀ F' H', DS K C H' p F' (S.wrote b xs) → Ch F H H' → (∀ a ∈ F', a ∈ F ∨ H a = none) → Q .non H') : sp_disk_write K C [.ref p, .int b, .ref c] H Q E := by
  obtain ⟨D, hD, rfl, v⟩ := h
  obtain ⟨w1, w2⟩ := wr_pre hD v bd
  have := v.lv.1
  refine ⟨p, D, b, c, xs, rfl, hD, h0, by omega, hc, ok.1, ok.2.1, ok.2.2, w1, w2, fun H' r' hr h' but => ?_⟩
  obtain ⟨d, c2, f⟩ := ds_write hD v hc ok h0 h1 hr h' but
  exact q _ H' d c2 f
theorem w_cut {C p : Addr} {F : List Addr} {S : SD} {H : Hp} {Q : VK} {E : XK} (h : DS K C H p F S) (q : ∀ F' H', DS K C H' p F' S.cut → Ch F H H' → (∀ a ∈ F', a ∈ F ∨ H a = none) → Q .non H') : sp_disk_cut C [.ref p] H Q E := by
  obtain ⟨D, hD, rfl, v⟩ := h
  refine ⟨p, D, rfl, hD, fun w' H' nw h' but => ?_⟩
  obtain ⟨d, c2, f⟩ := ds_cut hD v nw h' but
  exact q _ H' d c2 f
theorem w_blocks {C p : Addr} {F : List Addr} {S : SD} {H : Hp} {Q : VK} {E : XK} (h : DS K C H p F S) (q : Q (.int S.lies.length) H) : sp_disk_blocks C [.ref p] H Q E := by
  obtain ⟨D, hD, rfl, v⟩ := h
  exact ⟨p, D, rfl, hD, by rw [v.lv.1]; exact q⟩
def SD.new (n : Nat) : SD := ⟨List.replicate n [], fun _ => [], none, 0⟩
theorem SD.new_ok {n : Nat} (h : n ≤ 600) : (SD.new n).Ok := ⟨by show (List.replicate n _).length ≤ 600; rw [List.length_replicate]; exact h, fun xs hx => (by rw [List.eq_of_mem_replicate hx]; exact ⟨by simp, by simp, by decide +kernel⟩), fun b xs hx => (nomatch hx), fun b h => absurd rfl h, fun i h => (nomatch h)⟩
theorem w_init {C p : Addr} {H : Hp} {Q : VK} {E : XK} {n : Nat} (h : InsAt C H p []) (h0 : 16 ≤ n) (h1 : n ≤ 600) (q : ∀ F H', DS K C H' p F (SD.new n) → But [p] H H' → (∀ a ∈ F, a = p ∨ H a = none) → Q .non H') : sp_disk_init K C [.ref p, .int n] H Q E := by
  refine ⟨p, n, rfl, h, by omega, by omega, fun H' D hD hf hl hc hr hp hrc but => q _ H' ⟨D, hD, rfl, ⟨SD.new_ok h1, ⟨?_, fun i c xs e1 e2 => ?_⟩, fun b => ?_, hp, hrc⟩⟩ but hf⟩
  · show D.lies.length = (List.replicate n _).length
    rw [List.length_replicate, hl]; omega
  · have e2 : (List.replicate n ([] : Ct))[i]? = some xs := e2
    rw [List.eq_of_mem_replicate (List.mem_of_getElem? e2)]
    exact hc c (List.mem_of_getElem? e1)
  · rw [hr]; rfl
end
end Vw

set_option Elab.async false
set_option linter.all false
set_option maxRecDepth 100000
set_option maxHeartbeats 4000000
namespace Vw
open PySem PySem.Spec PyProof.Rows L2 RT
local macro_rules | `(tactic| walk_at "s") => `(tactic| with_reducible first
  | refine' s_seq ?_ | refine' s_next ?_ | refine' s_set ?_ | refine' s_ret ?_ | refine' s_retN ?_ | refine' s_drop ?_ | refine' s_if ?_ | refine' s_ipI ?_
  | refine' e_c ?_ | refine' e_op ?_ | refine' e_un ?_ | refine' e_neg ?_ | refine' e_test ?_ | refine' e_tB ?_ | refine' e_bl ?_ | refine' e_and ?_ | refine' e_or ?_ | refine' e_not ?_
  | refine' e_andV ?_ | refine' e_orV ?_ | refine' e_notV ?_ | refine' e_kV ?_ | refine' e_ife ?_ | refine' e_nil ?_ | refine' e_cons ?_ | refine' e_cb ?_ | refine' e_call ?_ | refine' e_chain ?_
  | refine' o_addI ?_ | refine' o_eqI ?_ | refine' o_neI ?_ | refine' o_I0 ?_ | refine' o_pow16 ?_ | refine' o_pow17 ?_ | refine' o_pow18 ?_ | refine' o_pow19 ?_ | refine' o_pow30 ?_ | refine' o_pow31 ?_ | refine' o_pow1 ?_ | refine' o_pow2 ?_ | refine' o_pow3 ?_ | refine' o_pow4 ?_ | refine' o_pow5 ?_ | refine' o_pow6 ?_ | refine' o_pow9 ?_ | refine' o_pow10 ?_ | refine' o_pow12 ?_ | refine' o_pow15 ?_ | refine' o_pow20 ?_ | refine' e_lst ?_ | refine' e_tup ?_ | refine' iteT ?_ | refine' i_nt ?_ | refine' i_nf ?_ | refine' iteF ?_ | refine' c_int ?_ | refine' c_abs ?_ | refine' c_min2 ?_ | refine' c_max2 ?_ | refine' e_tru ?_ | refine' t_bl ?_ | refine' t_non ?_ | refine' t_int ?_ | refine' isN_non ?_ | refine' isN_int ?_ | refine' isN_ref ?_ | refine' isN_str ?_ | refine' isN_bl ?_ | refine' noN_non ?_ | refine' noN_int ?_ | refine' noN_ref ?_ | refine' noN_str ?_ | refine' noN_bl ?_
  | refine' s_brk ?_ | refine' s_cont ?_ | refine' s_for ?_ | refine' e_lc ?_ | refine' e_dc ?_ | refine' e_yes ?_ | refine' i_rng1 ?_ | refine' i_lst0 ?_ | refine' i_tup0 ?_ | refine' e_bm ?_ | refine' e_sl ?_ | refine' e_np ?_ | refine' e_pt ?_ | refine' e_ptI ?_ | refine' e_din ?_ | refine' e_dnin ?_ | refine' e_methE ?_ | refine' p_cons ?_ | refine' p_nil ?_ | refine' s_dput ?_ | refine' e_dget2 ?_ | refine' e_dpop1 ?_ | refine' i_enum0 ?_ | refine' i_rev0 ?_ | refine' g_sub ?_ | refine' s_asg ?_ | refine' i_zip0 ?_ | refine' e_revT ?_ | refine' isB_bl ?_ | refine' notB_bl ?_ | refine' o_neB ?_ | refine' i_nrr ?_ | refine' e_meth ?_ | refine' s_setf ?_ | refine' e_fld ?_ | refine' e_bm0 ?_ | refine' r_tx ?_ | refine' o_eqStr ?_ | refine' o_neStr ?_)
local macro_rules | `(tactic| walk_at "v") => `(tactic| ((with_reducible refine' e_var ?hv ?_); (case hv => exact rfl)))
local macro_rules | `(tactic| walk_at "a") => `(tactic| ((with_reducible refine' s_aug ?hv ?_); (case hv => exact rfl)))
local macro_rules | `(tactic| walk_at "m") => `(tactic| first
  | ((with_reducible refine' o_mod ?hv ?_); (case hv => first | decide | omega))
  | ((with_reducible refine' o_mulR ?hv ?_); (case hv => omega))
  | ((with_reducible refine' o_mulL ?hv ?_); (case hv => omega))
  | ((with_reducible refine' o_div ?hv ?hw ?_); (case hv => omega); (case hw => omega))
  | ((with_reducible refine' o_pow _ ?hv ?hw ?hx ?_); (case hv => exact rfl); (case hw => decide); (case hx => decide)))
local macro_rules | `(tactic| walk_at "i") => `(tactic| (first
  | ((with_reducible refine' isi_int true ?hv ?_); (case hv => exact (by decide +kernel)))
  | ((with_reducible refine' isi_int false ?hv ?_); (case hv => exact (by decide +kernel)))
  | ((with_reducible refine' isi_non true ?hv ?_); (case hv => exact (by decide +kernel)))
  | ((with_reducible refine' isi_non false ?hv ?_); (case hv => exact (by decide +kernel)))
  | ((with_reducible refine' isi_str true ?hv ?_); (case hv => exact (by decide +kernel)))
  | ((with_reducible refine' isi_str false ?hv ?_); (case hv => exact (by decide +kernel)))
  | ((with_reducible refine' isi_bl true ?hv ?_); (case hv => exact (by decide +kernel)))
  | ((with_reducible refine' isi_bl false ?hv ?_); (case hv => exact (by decide +kernel)))
  | ((with_reducible refine' isi_t true ?hw ?hv ?_); (case hw => assumption); (case hv => exact (by decide +kernel)))
  | ((with_reducible refine' isi_t false ?hw ?hv ?_); (case hw => assumption); (case hv => exact (by decide +kernel)))
  | ((with_reducible refine' isi_l true ?hw ?hv ?_); (case hw => assumption); (case hv => exact (by decide +kernel)))
  | ((with_reducible refine' isi_l false ?hw ?hv ?_); (case hw => assumption); (case hv => exact (by decide +kernel)))
  | ((with_reducible refine' isi_tup true ?hw ?hv ?_); (case hw => assumption); (case hv => exact (by decide +kernel)))
  | ((with_reducible refine' isi_tup false ?hw ?hv ?_); (case hw => assumption); (case hv => exact (by decide +kernel)))
  | ((with_reducible refine' isi_lst true ?hw ?hv ?_); (case hw => assumption); (case hv => exact (by decide +kernel)))
  | ((with_reducible refine' isi_lst false ?hw ?hv ?_); (case hw => assumption); (case hv => exact (by decide +kernel)))))
local macro_rules | `(tactic| walk_at "om") => `(tactic| first | omega | (simp only [List.length_cons, List.length_nil, List.length_map, List.length_append, List.length_range]; omega))
local macro_rules | `(tactic| walk_at "d") => `(tactic| (first
  | ((with_reducible refine' i_dt ?hv ?_); (case hv => walk_at "om"))
  | ((with_reducible refine' i_df ?hv ?_); (case hv => walk_at "om"))
  | ((with_reducible refine' i_ndt ?hv ?_); (case hv => walk_at "om"))
  | ((with_reducible refine' i_ndf ?hv ?_); (case hv => walk_at "om"))))
local macro_rules | `(tactic| walk_at "x") => `(tactic| first
  | ((with_reducible refine' o_ixA ?hv ?hw ?_); (case hv => assumption); (case hw => exact rfl))
  | ((with_reducible refine' o_ixU ?hv ?hw ?_); (case hv => assumption); (case hw => exact rfl))
  | ((with_reducible refine' o_ixL ?hv ?hw ?_); (case hv => assumption); (case hw => exact rfl))
  | ((with_reducible refine' o_ixT ?hv ?hw ?_); (case hv => assumption); (case hw => exact rfl))
  | ((with_reducible refine' set_ ?hv ?hw ?_); (case hv => assumption); (case hw => exact rfl))
  | ((with_reducible refine' e_lenM ?hv ?_); (case hv => first | assumption | exact slO (by assumption)))
  | ((with_reducible refine' e_lenN ?hv ?_); (case hv => first | assumption | exact stO (by assumption)))
  | ((with_reducible refine' e_lenL ?hv ?_); (case hv => first | assumption | exact slO (by assumption)))
  | ((with_reducible refine' e_lenT ?hv ?_); (case hv => first | assumption | exact stO (by assumption))))
local macro_rules | `(tactic| walk_at "c") => `(tactic| first
  | ((with_reducible refine' c_listL ?hv ?_); (case hv => assumption))
  | ((with_reducible refine' c_listT ?hv ?_); (case hv => assumption))
  | ((with_reducible refine' c_tupL ?hv ?_); (case hv => first | assumption | exact slO (by assumption)))
  | ((with_reducible refine' c_tupT ?hv ?_); (case hv => assumption))
  | ((with_reducible refine' t_lst ?hv ?_); (case hv => first | assumption | exact slO (by assumption)))
  | ((with_reducible refine' t_tup ?hv ?_); (case hv => assumption))
  | ((with_reducible refine' r_sl ?hv ?_); (case hv => first | assumption | exact slO (by assumption)))
  | ((with_reducible refine' o_inL ?hv ?_); (case hv => first | assumption | exact slO (by assumption)))
  | ((with_reducible refine' o_inT ?hv ?_); (case hv => first | assumption | exact stO (by assumption)))
  | ((with_reducible refine' o_niL ?hv ?_); (case hv => first | assumption | exact slO (by assumption)))
  | ((with_reducible refine' o_niT ?hv ?_); (case hv => first | assumption | exact stO (by assumption)))
  | ((with_reducible refine' ty_lst ?hv ?_); (case hv => assumption)))
local macro_rules | `(tactic| walk_at "mo") => `(tactic| repeat' (first | exact m_yes | exact m_var | exact m_c | exact m_I0 | exact m_I | exact m_ix | exact m_add | exact m_in | exact m_int1 | exact m_abs | exact m_nil | refine' m_and ?_ ?_ | refine' m_test ?_ | refine' m_tB ?_ | refine' m_op ?_ ?_ ?_ | refine' m_cons ?_ ?_ | refine' m_cb ?_ ?_))
local macro_rules | `(tactic| walk_at "go") => `(tactic| repeat' (first | walk_at "s" | walk_at "v" | walk_at "a" | walk_at "x" | walk_at "m" | walk_at "c" | walk_at "i" | walk_at "d"))

section
variable {P : Program} {w : World} {K : PySem.W.Frag} {mg : Str → Option Value} {base : Heap}
/-! ### the master -/
theorem DS.len {C p : Addr} {F : List Addr} {S : SD} {H : Hp} (h : DS K C H p F S) : S.lies.length ≤ 600 := by
  obtain ⟨D, hD, rfl, v⟩ := h
  exact v.ok.ln
theorem ins_of_ds {C p : Addr} {F : List Addr} {S : SD} {H : Hp} (h : DS K C H p F S) : ∃ fs, InsAt C H p fs ∧ ∀ m : Str, ((["_lies", "_waits", "_power", "_reached"] : List Str)).contains m = false → fs.lookup m = none := by
  obtain ⟨D, hD, rfl, v⟩ := h
  exact ⟨_, hD.ob, fun m e => df_no _ _ _ _ e⟩
def sp_master_of (K : PySem.W.Frag) (C : Addr) : Sp := fun vs H Q _ => ∃ p F S M, vs = [.ref p] ∧ DS K C H p F S ∧ S.shows 0 = some (Mst.ct M) ∧ 4 ≤ M.r ∧ M.r + 8 ≤ S.lies.length ∧ ∀ c H', SqT K H' c (Mst.ct M) → Same H H' → Q (.ref c) H'
theorem ok_master_of (T : Txt K mg) : FnOk P w K mg base CX0 5 T.master_of.f T.master_of.fd ["disk"] ((sp_master_of K T.C_Disk)) := by
  refine T.master_of.F.ok sc_master_of (fun vs H Q E h => ?_) (fun cdv A outer s H vs Q E hr h => ?_)
  · obtain ⟨p, F, S, M, rfl, _⟩ := h
    rfl
  · obtain ⟨p, F, S, M, rfl, hS, hM, h4, h8, k⟩ := h
    refine ⟨_, (pss_cons (ps_if (PW.pt (pw_or (pt_not (ptTruth (K := K) (pe_callB (cIsD (K := K) T.i_Disk) (by rfl) T.z_isinstance (by decide +kernel) (pa_cons (pv 0) (pa_cons (C8.pe_gc (v := .ref T.C_Disk) (by rfl) ⟨_, T.k_Disk.g, rfl⟩) pa_nil))) (by intro _; rfl))) (pw_or1 (pt_not (ptTruth (K := K) (pe_call (ok_is_master T) (hr.mono (by decide)) (by rfl) T.is_master.g T.is_master.F.kp T.is_master.b .nil pass0 (pa_cons (pe_meth (pv 0) T.k_Disk.cl T.m_Disk_read.i (ok_Disk_read T) (hr.mono (by decide)) T.m_Disk_read.b .nil pass0 (pa_cons pe_int pa_nil)) (pa_cons (pe_meth0 (pv 0) T.k_Disk.cl T.m_Disk_blocks.i (ok_Disk_blocks T) (hr.mono (by decide)) T.m_Disk_blocks.b .nil pass0) pa_nil))) (by intro _; rfl)))))) (pss_one ps_never) pss_nil)
    (pss_one (ps_ret (pe_meth (pv 0) T.k_Disk.cl T.m_Disk_read.i (ok_Disk_read T) (hr.mono (by decide)) T.m_Disk_read.b .nil pass0 (pa_cons pe_int pa_nil))))), ?_⟩
    obtain ⟨fs, hob, no⟩ := ins_of_ds hS
    walk_at "go"
    refine o_isD hob ?_
    walk_at "go"
    refine m_call0 hob (no _ (by decide +kernel)) ?_
    walk_at "go"
    refine w_read hS (by omega) (by omega) fun c xs e1 hc _ => ?_
    rw [hM] at e1
    cases e1
    walk_at "go"
    refine m_call0 hob (no _ (by decide +kernel)) ?_
    walk_at "go"
    refine w_blocks hS ?_
    walk_at "go"
    refine ⟨c, M, _, rfl, hc, h4, by omega, fun H1 s1 => ?_⟩
    walk_at "go"
    refine m_call0 (ins_same s1 hob) (no _ (by decide +kernel)) ?_
    walk_at "go"
    refine w_read (hS.same s1) (by omega) (by omega) fun c2 xs e1 hc2 _ => ?_
    rw [hM] at e1
    cases e1
    exact k c2 H1 hc2 s1
end
end Vw

set_option Elab.async false
set_option linter.all false
set_option maxRecDepth 100000
set_option maxHeartbeats 4000000
namespace Vw
open PySem PySem.Spec PyProof.Rows L2 RT
local macro_rules | `(tactic| walk_at "s") => `(tactic| with_reducible first
  | refine' s_seq ?_ | refine' s_next ?_ | refine' s_set ?_ | refine' s_ret ?_ | refine' s_retN ?_ | refine' s_drop ?_ | refine' s_if ?_ | refine' s_ipI ?_
  | refine' e_c ?_ | refine' e_op ?_ | refine' e_un ?_ | refine' e_neg ?_ | refine' e_test ?_ | refine' e_tB ?_ | refine' e_bl ?_ | refine' e_and ?_ | refine' e_or ?_ | refine' e_not ?_
  | refine' e_andV ?_ | refine' e_orV ?_ | refine' e_notV ?_ | refine' e_kV ?_ | refine' e_ife ?_ | refine' e_nil ?_ | refine' e_cons ?_ | refine' e_cb ?_ | refine' e_call ?_ | refine' e_chain ?_
  | refine' o_addI ?_ | refine' o_eqI ?_ | refine' o_neI ?_ | refine' o_I0 ?_ | refine' o_pow16 ?_ | refine' o_pow17 ?_ | refine' o_pow18 ?_ | refine' o_pow19 ?_ | refine' o_pow30 ?_ | refine' o_pow31 ?_ | refine' o_pow1 ?_ | refine' o_pow2 ?_ | refine' o_pow3 ?_ | refine' o_pow4 ?_ | refine' o_pow5 ?_ | refine' o_pow6 ?_ | refine' o_pow9 ?_ | refine' o_pow10 ?_ | refine' o_pow12 ?_ | refine' o_pow15 ?_ | refine' o_pow20 ?_ | refine' e_lst ?_ | refine' e_tup ?_ | refine' iteT ?_ | refine' i_nt ?_ | refine' i_nf ?_ | refine' iteF ?_ | refine' c_int ?_ | refine' c_abs ?_ | refine' c_min2 ?_ | refine' c_max2 ?_ | refine' e_tru ?_ | refine' t_bl ?_ | refine' t_non ?_ | refine' t_int ?_ | refine' isN_non ?_ | refine' isN_int ?_ | refine' isN_ref ?_ | refine' isN_str ?_ | refine' isN_bl ?_ | refine' noN_non ?_ | refine' noN_int ?_ | refine' noN_ref ?_ | refine' noN_str ?_ | refine' noN_bl ?_
  | refine' s_brk ?_ | refine' s_cont ?_ | refine' s_for ?_ | refine' e_lc ?_ | refine' e_dc ?_ | refine' e_yes ?_ | refine' i_rng1 ?_ | refine' i_lst0 ?_ | refine' i_tup0 ?_ | refine' e_bm ?_ | refine' e_sl ?_ | refine' e_np ?_ | refine' e_pt ?_ | refine' e_ptI ?_ | refine' e_din ?_ | refine' e_dnin ?_ | refine' e_methE ?_ | refine' p_cons ?_ | refine' p_nil ?_ | refine' s_dput ?_ | refine' e_dget2 ?_ | refine' e_dpop1 ?_ | refine' i_enum0 ?_ | refine' i_rev0 ?_ | refine' g_sub ?_ | refine' s_asg ?_ | refine' i_zip0 ?_ | refine' e_revT ?_ | refine' isB_bl ?_ | refine' notB_bl ?_ | refine' o_neB ?_ | refine' i_nrr ?_ | refine' e_meth ?_ | refine' s_setf ?_ | refine' e_fld ?_ | refine' e_bm0 ?_ | refine' r_tx ?_ | refine' o_eqStr ?_ | refine' o_neStr ?_)
local macro_rules | `(tactic| walk_at "v") => `(tactic| ((with_reducible refine' e_var ?hv ?_); (case hv => exact rfl)))
local macro_rules | `(tactic| walk_at "a") => `(tactic| ((with_reducible refine' s_aug ?hv ?_); (case hv => exact rfl)))
local macro_rules | `(tactic| walk_at "m") => `(tactic| first
  | ((with_reducible refine' o_mod ?hv ?_); (case hv => first | decide | omega))
  | ((with_reducible refine' o_mulR ?hv ?_); (case hv => omega))
  | ((with_reducible refine' o_mulL ?hv ?_); (case hv => omega))
  | ((with_reducible refine' o_div ?hv ?hw ?_); (case hv => omega); (case hw => omega))
  | ((with_reducible refine' o_pow _ ?hv ?hw ?hx ?_); (case hv => exact rfl); (case hw => decide); (case hx => decide)))
local macro_rules | `(tactic| walk_at "i") => `(tactic| (first
  | ((with_reducible refine' isi_int true ?hv ?_); (case hv => exact (by decide +kernel)))
  | ((with_reducible refine' isi_int false ?hv ?_); (case hv => exact (by decide +kernel)))
  | ((with_reducible refine' isi_non true ?hv ?_); (case hv => exact (by decide +kernel)))
  | ((with_reducible refine' isi_non false ?hv ?_); (case hv => exact (by decide +kernel)))
  | ((with_reducible refine' isi_str true ?hv ?_); (case hv => exact (by decide +kernel)))
  | ((with_reducible refine' isi_str false ?hv ?_); (case hv => exact (by decide +kernel)))
  | ((with_reducible refine' isi_bl true ?hv ?_); (case hv => exact (by decide +kernel)))
  | ((with_reducible refine' isi_bl false ?hv ?_); (case hv => exact (by decide +kernel)))
  | ((with_reducible refine' isi_t true ?hw ?hv ?_); (case hw => assumption); (case hv => exact (by decide +kernel)))
  | ((with_reducible refine' isi_t false ?hw ?hv ?_); (case hw => assumption); (case hv => exact (by decide +kernel)))
  | ((with_reducible refine' isi_l true ?hw ?hv ?_); (case hw => assumption); (case hv => exact (by decide +kernel)))
  | ((with_reducible refine' isi_l false ?hw ?hv ?_); (case hw => assumption); (case hv => exact (by decide +kernel)))
  | ((with_reducible refine' isi_tup true ?hw ?hv ?_); (case hw => assumption); (case hv => exact (by decide +kernel)))
  | ((with_reducible refine' isi_tup false ?hw ?hv ?_); (case hw => assumption); (case hv => exact (by decide +kernel)))
  | ((with_reducible refine' isi_lst true ?hw ?hv ?_); (case hw => assumption); (case hv => exact (by decide +kernel)))
  | ((with_reducible refine' isi_lst false ?hw ?hv ?_); (case hw => assumption); (case hv => exact (by decide +kernel)))))
local macro_rules | `(tactic| walk_at "om") => `(tactic| first | omega | (simp only [List.length_cons, List.length_nil, List.length_map, List.length_append, List.length_range]; omega))
local macro_rules | `(tactic| walk_at "d") => `(tactic| (first
  | ((with_reducible refine' i_dt ?hv ?_); (case hv => walk_at "om"))
  | ((with_reducible refine' i_df ?hv ?_); (case hv => walk_at "om"))
  | ((with_reducible refine' i_ndt ?hv ?_); (case hv => walk_at "om"))
  | ((with_reducible refine' i_ndf ?hv ?_); (case hv => walk_at "om"))))
local macro_rules | `(tactic| walk_at "x") => `(tactic| first
  | ((with_reducible refine' o_ixA ?hv ?hw ?_); (case hv => assumption); (case hw => exact rfl))
  | ((with_reducible refine' o_ixU ?hv ?hw ?_); (case hv => assumption); (case hw => exact rfl))
  | ((with_reducible refine' o_ixL ?hv ?hw ?_); (case hv => assumption); (case hw => exact rfl))
  | ((with_reducible refine' o_ixT ?hv ?hw ?_); (case hv => assumption); (case hw => exact rfl))
  | ((with_reducible refine' set_ ?hv ?hw ?_); (case hv => assumption); (case hw => exact rfl))
  | ((with_reducible refine' e_lenM ?hv ?_); (case hv => first | assumption | exact slO (by assumption)))
  | ((with_reducible refine' e_lenN ?hv ?_); (case hv => first | assumption | exact stO (by assumption)))
  | ((with_reducible refine' e_lenL ?hv ?_); (case hv => first | assumption | exact slO (by assumption)))
  | ((with_reducible refine' e_lenT ?hv ?_); (case hv => first | assumption | exact stO (by assumption))))
local macro_rules | `(tactic| walk_at "c") => `(tactic| first
  | ((with_reducible refine' c_listL ?hv ?_); (case hv => assumption))
  | ((with_reducible refine' c_listT ?hv ?_); (case hv => assumption))
  | ((with_reducible refine' c_tupL ?hv ?_); (case hv => first | assumption | exact slO (by assumption)))
  | ((with_reducible refine' c_tupT ?hv ?_); (case hv => assumption))
  | ((with_reducible refine' t_lst ?hv ?_); (case hv => first | assumption | exact slO (by assumption)))
  | ((with_reducible refine' t_tup ?hv ?_); (case hv => assumption))
  | ((with_reducible refine' r_sl ?hv ?_); (case hv => first | assumption | exact slO (by assumption)))
  | ((with_reducible refine' o_inL ?hv ?_); (case hv => first | assumption | exact slO (by assumption)))
  | ((with_reducible refine' o_inT ?hv ?_); (case hv => first | assumption | exact stO (by assumption)))
  | ((with_reducible refine' o_niL ?hv ?_); (case hv => first | assumption | exact slO (by assumption)))
  | ((with_reducible refine' o_niT ?hv ?_); (case hv => first | assumption | exact stO (by assumption)))
  | ((with_reducible refine' ty_lst ?hv ?_); (case hv => assumption)))
local macro_rules | `(tactic| walk_at "mo") => `(tactic| repeat' (first | exact m_yes | exact m_var | exact m_c | exact m_I0 | exact m_I | exact m_ix | exact m_add | exact m_in | exact m_int1 | exact m_abs | exact m_nil | refine' m_and ?_ ?_ | refine' m_test ?_ | refine' m_tB ?_ | refine' m_op ?_ ?_ ?_ | refine' m_cons ?_ ?_ | refine' m_cb ?_ ?_))
local macro_rules | `(tactic| walk_at "go") => `(tactic| repeat' (first | walk_at "s" | walk_at "v" | walk_at "a" | walk_at "x" | walk_at "m" | walk_at "c" | walk_at "i" | walk_at "d"))

section
variable {P : Program} {w : World} {K : PySem.W.Frag} {mg : Str → Option Value} {base : Heap}
/-! ### what counts -/
def Rg2Q (R : It → Hp → Prop) (vs : List V) (H1 : Hp) : Prop := ∃ i j : Int, vs = [.int i, .int j] ∧ (-(2 ^ 62) ≤ i ∧ i < 2 ^ 62 ∧ -(2 ^ 62) ≤ j ∧ j < 2 ^ 62) ∧ R (Itr i (j - i).toNat) H1
theorem i_rng2 {σ : L2.St} {H : Hp} {R : It → Hp → Prop} {ta : TA} (h : ta σ H fun vs H1 => Rg2Q R vs H1) : iRng2 ta σ H R := h
theorem i_rg2 {H : Hp} {R : It → Hp → Prop} {i j : Int} {n : Nat} (e : (j - i).toNat = n) (h0 : -1000000000000 ≤ i ∧ i ≤ 1000000000000) (h1 : -1000000000000 ≤ j ∧ j ≤ 1000000000000) (h : R (Itr i n) H) : Rg2Q R [.int i, .int j] H := ⟨i, j, rfl, by omega, by rw [e]; exact h⟩
def stepB (M : Mst) (lt : Nat) (acc : List Pc) (k : Nat) (p : Pc) : Bool := decide (p.k = k) && (decide (p.e ≤ lt) && (match acc.getLast? with | some q => goesB q p | none => beginsB M p))
def countG (M : Mst) (lt : Nat) (g : Nat → Option Pc) : Nat → List Pc → Nat → List Pc
  | 0, acc, _ => acc
  | n + 1, acc, k => match g k with
    | none => acc
    | some p => if stepB M lt acc k p = true then countG M lt g n (acc ++ [p]) (k + 1) else acc
theorem countG_none {M : Mst} {lt n k : Nat} {g : Nat → Option Pc} {acc : List Pc} (h : g k = none) : countG M lt g (n + 1) acc k = acc := by
  show (match g k with | none => acc | some p => if stepB M lt acc k p = true then countG M lt g n (acc ++ [p]) (k + 1) else acc) = acc
  rw [h]
theorem countG_some {M : Mst} {lt n k : Nat} {g : Nat → Option Pc} {acc : List Pc} {q : Pc} (h : g k = some q) : countG M lt g (n + 1) acc k = if stepB M lt acc k q = true then countG M lt g n (acc ++ [q]) (k + 1) else acc := by
  show (match g k with | none => acc | some p => if stepB M lt acc k p = true then countG M lt g n (acc ++ [p]) (k + 1) else acc) = _
  rw [h]
/-- what is read of the ring's blocks, by running numbers from k on -/
def Ring (S : SD) (r k : Nat) (g : Nat → Option Pc) : Prop := ∀ j, j < r → S.shows (1 + ((k + j) % r : Nat)) = some (octs (g (k + j))) ∧ ∀ p, g (k + j) = some p → p.xs ≠ [] ∧ p.xs.length ≤ 36
def sp_counted (K : PySem.W.Frag) (C : Addr) : Sp := fun vs H Q _ => ∃ (p : Addr) (lt : Nat) (F : List Addr) (S : SD) (M : Mst) (g : Nat → Option Pc), vs = [.ref p, .int lt] ∧ DS K C H p F S ∧ S.shows 0 = some (Mst.ct M) ∧ 4 ≤ M.r ∧ M.r + 8 ≤ S.lies.length ∧ M.k ≤ 1000000000 ∧ Ring S M.r M.k g ∧
  ∀ D cs H', Same H H' → H D = none → H' D = some (.lst (cs.map V.ref)) → TupsAt K H' cs ((countG M lt g M.r [] M.k).map Pc.ct) → Q (.ref D) H'
theorem ok_counted (T : Txt K mg) : FnOk P w K mg base CX0 6 T.counted.f T.counted.fd ["disk", "latest"] ((sp_counted K T.C_Disk)) := by
  refine T.counted.F.ok sc_counted (fun vs H Q E h => ?_) (fun cdv A outer s H vs Q E hr h => ?_)
  · obtain ⟨p, lt, F, S, M, g, rfl, _⟩ := h
    rfl
  · obtain ⟨p, lt, F, S, M, g, rfl, hS, hM, h4, h8, hk, hR, k⟩ := h
    refine ⟨_, (pss_cons (ps_set (i := 2) sc_counted.nd rfl (Or.inl rfl) (pe_call (ok_master_of T) (hr.mono (by decide)) (by rfl) T.master_of.g T.master_of.F.kp T.master_of.b .nil pass0 (pa_cons (pv 0) pa_nil)))
    (pss_cons (ps_set (i := 3) sc_counted.nd rfl (Or.inl rfl) (pe_lst pa_nil))
    (pss_cons (ps_for PassesOwn.never rfl (pi_range2 (by rfl) T.z_range (pa_cons (pe_ix (ixLT (K := K)) (pv 2) pe_int (fun _ _ => rfl)) (pa_cons (pe_op oAdd (pe_ix (ixLT (K := K)) (pv 2) pe_int (fun _ _ => rfl)) (pe_ix (ixLT (K := K)) (pv 2) pe_int (fun _ _ => rfl))) pa_nil))) (pg_name (i := 4) sc_counted.nd rfl (Or.inl rfl))
      (pss_cons (ps_set (i := 5) sc_counted.nd rfl (Or.inl rfl) (pe_meth (pv 0) T.k_Disk.cl T.m_Disk_read.i (ok_Disk_read T) (hr.mono (by decide)) T.m_Disk_read.b .nil pass0 (pa_cons (pe_op oAdd pe_int (pe_op op_mod (pv 4) (pe_ix (ixLT (K := K)) (pv 2) pe_int (fun _ _ => rfl)))) pa_nil)))
    (pss_cons (ps_if (PW.pt (pw_or (pt_not (ptTruth (K := K) (pe_call (ok_is_piece T) (hr.mono (by decide)) (by rfl) T.is_piece.g T.is_piece.F.kp T.is_piece.b .nil pass0 (pa_cons (pv 5) (pa_cons (pv 4) pa_nil))) (by intro _; rfl))) (pw_or1 (pt_cmpR op_gt (pe_ix (ixLT (K := K)) (pv 5) pe_int (fun _ _ => rfl)) (pv 1) (nomark _))))) (pss_one (ps_ret (pv 3))) pss_nil)
    (pss_cons (ps_if (pt_not (pt_ifExp (ptTruth (K := K) (pv 3) (by intro _; rfl)) (ptTruth (K := K) (pe_call (ok_goes_on T) (hr.mono (by decide)) (by rfl) T.goes_on.g T.goes_on.F.kp T.goes_on.b .nil pass0 (pa_cons (pe_ix (ixLT (K := K)) (pv 3) (pe_un un_neg pe_int) (fun _ _ => rfl)) (pa_cons (pv 5) pa_nil))) (by intro _; rfl)) (ptTruth (K := K) (pe_call (ok_begins T) (hr.mono (by decide)) (by rfl) T.begins.g T.begins.F.kp T.begins.b .nil pass0 (pa_cons (pv 2) (pa_cons (pv 5) pa_nil))) (by intro _; rfl)))) (pss_one (ps_ret (pv 3))) pss_nil)
    (pss_one (ps_expr (peApp (K := K) (pe_bm PySem.F.plainAttrs_list PySem.F.slot_list_append PySem.F.type_list_append mt_append (pv 3) (pa_cons (pv 5) pa_nil)))))))))
    (pss_one (ps_ret (pv 3)))))), ?_⟩
    obtain ⟨fs, hob, no⟩ := ins_of_ds hS
    have hr6 := hS.len
    walk_at "go"
    refine ⟨p, F, S, M, rfl, hS, hM, h4, h8, fun c H1 hc s1 => ?_⟩
    have hc' : SqT K H1 c [.str "master", .int M.e, .int M.r, .int M.k, .int M.m, .int M.f] := hc
    walk_at "go"
    refine n_new (le_size (by simp)) fun D H2 n2 s2 h2 => ?_
    have hc2 : SqT K H2 c [.str "master", .int M.e, .int M.r, .int M.k, .int M.m, .int M.f] := st_ s2 hc
    walk_at "go"
    refine i_rng2 ?_
    walk_at "go"
    refine i_rg2 (n := M.r) (by omega) (by omega) (by omega) ?_
    refine l_it walk_range (fun i σ3 H3 => ∃ (y4 y5 : Option V) (cs : List Addr) (acc : List Pc), σ3 = [some (.ref p), some (.int lt), some (.ref c), some (.ref D), y4, y5] ∧ Same H1 H3 ∧ H3 D = some (.lst (cs.map V.ref)) ∧ TupsAt K H3 cs (acc.map Pc.ct) ∧ acc.length = i ∧
      countG M lt g (M.r - i) acc (M.k + i) = countG M lt g M.r [] M.k) ⟨none, none, [], [], rfl, s2, h2, TupsAt.nil, rfl, rfl⟩ (fun _ _ _ _ _ => trivial) (fun σ3 H3 q => ?_) (fun i x σ3 H3 H4 hi q y => ?_)
    · obtain ⟨y4, y5, cs, acc, rfl, s3, h3, t3, l3, e3⟩ := q
      rw [Nat.sub_self] at e3
      walk_at "go"
      exact k D cs H3 (s1.trans s3) (free_ s1 n2) h3 (by rw [← e3]; exact t3)
    · obtain ⟨y4, y5, cs, acc, rfl, s3, h3, t3, l3, e3⟩ := q
      obtain ⟨rfl, rfl⟩ := y
      have e0 : M.r - i = (M.r - i - 1) + 1 := by omega
      rw [e0] at e3
      obtain ⟨eg, ne⟩ := hR i hi
      have nd : H D = none := free_ s1 n2
      have eb : ((M.k : Int) + (i : Nat)) % (M.r : Int) = (((M.k + i) % M.r : Nat) : Int) := by rw [Int.natCast_emod, Int.natCast_add]
      have hb := Nat.mod_lt (M.k + i) (show 0 < M.r by omega)
      have hc4 : SqT K H4 c [V.str "master", V.int M.e, V.int M.r, V.int M.k, V.int M.m, V.int M.f] := st_ s3 hc'
      show tSeq _ _ _ [some (.ref p), some (.int lt), some (.ref c), some (.ref D), some (.int ((M.k : Int) + (i : Nat))), y5] H4
      walk_at "go"
      refine m_call0 (ins_same (s1.trans s3) hob) (no _ (by decide +kernel)) ?_
      walk_at "go"
      rw [eb]
      refine w_read (hS.same (s1.trans s3)) (by omega) (by omega) fun c5 xs e5 hc5 ok5 => ?_
      rw [eg] at e5
      cases e5
      walk_at "go"
      refine ⟨c5, g (M.k + i), _, rfl, hc5, fun p e => (ne p e).1, ok5.1, fun H5 s5 => ?_⟩
      have s35 := s3.trans s5
      have s05 := s1.trans s35
      have h35 := s5 _ _ h3
      have t35 := t3.same s5
      have hc55 := st_ s5 hc5
      have hc45 := st_ s5 hc4
      clear h3 t3 hc5 hc4 hc' hc2
      generalize hg : g (M.k + i) = og at *
      cases og with
      | none =>
        rw [countG_none hg] at e3
        show _
        rw [show pieceB none ((M.k : Int) + (i : Nat)) = false from rfl]
        walk_at "go"
        exact k D cs H5 s05 nd h35 (by rw [← e3]; exact t35)
      | some q =>
        rw [countG_some hg] at e3
        have hc56 : SqT K H5 c5 q.ct := hc55
        have hc55 : SqT K H5 c5 (.int q.k :: .int q.e :: .int q.r :: .int q.l :: q.xs) := hc55
        have stop : stepB M lt acc (M.k + i) q = false → Q (.ref D) H5 := fun e => by
          rw [e] at e3
          refine k D cs H5 s05 nd h35 ?_
          rw [← e3]; exact t35
        have ek : decide ((q.k : Int) = (M.k : Int) + (i : Nat)) = decide (q.k = M.k + i) := decide_eq_decide.mpr (by omega)
        rw [show pieceB (some q) ((M.k : Int) + (i : Nat)) = decide ((q.k : Int) = (M.k : Int) + (i : Nat)) from rfl, ek]
        cases e1 : decide (q.k = M.k + i) with
        | false =>
          walk_at "go"
          exact stop (by unfold stepB; rw [e1]; rfl)
        | true =>
          walk_at "go"
          refine o_ixT hc55 (atI_in (j := 1) rfl rfl) ?_
          walk_at "go"
          refine i_d (fun z => ?_) (fun z => ?_)
          · walk_at "go"
            refine stop ?_
            unfold stepB
            rw [e1, decide_eq_false (show ¬ q.e ≤ lt by omega)]; rfl
          · have e2 : decide (q.e ≤ lt) = true := decide_eq_true (by omega)
            walk_at "go"
            have fin : stepB M lt acc (M.k + i) q = true → ∀ H6, Same H5 H6 → ∃ (y4 y5 : Option V) (cs2 : List Addr) (acc2 : List Pc), [some (V.ref p), some (.int lt), some (.ref c), some (.ref D), some (.int ((M.k : Int) + (i : Nat))), some (.ref c5)] = [some (.ref p), some (.int lt), some (.ref c), some (.ref D), y4, y5] ∧ Same H1 (upd H6 D (.lst (cs.map V.ref ++ [V.ref c5]))) ∧ upd H6 D (.lst (cs.map V.ref ++ [V.ref c5])) D = some (.lst (cs2.map V.ref)) ∧ TupsAt K (upd H6 D (.lst (cs.map V.ref ++ [V.ref c5]))) cs2 (acc2.map Pc.ct) ∧ acc2.length = i + 1 ∧
                countG M lt g (M.r - (i + 1)) acc2 (M.k + (i + 1)) = countG M lt g M.r [] M.k := fun e H6 s6 => by
              rw [if_pos e] at e3
              have h36 := s6 _ _ h35
              refine ⟨_, _, cs ++ [c5], acc ++ [q], rfl, upd_free (s35.trans s6) n2, by rw [upd_same, List.map_append]; rfl, ?_, by simp [l3], e3⟩
              rw [List.map_append]
              exact ((t35.same s6).snoc (st_ s6 hc56)).ch (F := [D]) (Ch.upd1 (by simp) fun o e => by rw [h36] at e; cases e; rfl)
            have hl35 := slO (K := K) h35
            cases hl : acc.getLast? with
            | none =>
              have ea : acc = [] := List.getLast?_eq_none_iff.mp hl
              subst ea
              have ec : cs = [] := List.length_eq_zero_iff.mp t35.1
              subst ec
              refine e_ifT ?_
              walk_at "go"
              refine i_f rfl ?_
              walk_at "go"
              refine ⟨c, c5, M, q, rfl, hc45, hc56, ?_⟩
              have es : stepB M lt [] (M.k + i) q = beginsB M q := by unfold stepB; rw [e1, e2]; rfl
              cases e5 : beginsB M q with
              | false =>
                walk_at "go"
                exact stop (by rw [es, e5])
              | true =>
                walk_at "go"
                refine ⟨_, _, _, rfl, rfl, h35, lt_size (by simp), ?_⟩
                walk_at "go"
                exact fin (by rw [es, e5]) H5 (Same.refl _)
            | some q0 =>
              have pos : 0 < acc.length := List.length_pos_iff.mpr fun z => by rw [z] at hl; cases hl
              have pos2 : 0 < cs.length := by have := t35.1; rw [List.length_map] at this; omega
              have eq0 : (acc.map Pc.ct)[cs.length - 1]? = some q0.ct := by
                have el := t35.1
                rw [List.length_map] at el
                rw [List.getElem?_map, el, ← List.getLast?_eq_getElem?, hl]; rfl
              obtain ⟨d, ed, hd⟩ := t35.get eq0
              have ne0 : (cs.map V.ref).isEmpty = false := by
                cases cs with
                | nil => simp at pos2
                | cons a l => rfl
              refine e_ifT ?_
              walk_at "go"
              rw [ne0]
              walk_at "go"
              refine o_ixL hl35 (atI_neg (by simpa using pos2) (by rw [List.getElem?_map, List.length_map, ed]; rfl)) ?_
              walk_at "go"
              refine ⟨d, c5, q0, q, rfl, hd, hc56, fun H6 s6 => ?_⟩
              have es : stepB M lt acc (M.k + i) q = goesB q0 q := by unfold stepB; rw [e1, e2, hl]; rfl
              cases e5 : goesB q0 q with
              | false =>
                walk_at "go"
                rw [es, e5] at e3
                refine k D cs H6 (s05.trans s6) nd (s6 _ _ h35) ?_
                rw [← e3]; exact t35.same s6
              | true =>
                walk_at "go"
                have h36 := s6 _ _ h35
                refine ty_lst h36 ?_
                walk_at "go"
                refine ⟨_, _, _, rfl, rfl, h36, lt_size (by have := t35.1; rw [List.length_map] at this ⊢; omega), ?_⟩
                walk_at "go"
                exact fin (by rw [es, e5]) H6 s6
end
end Vw

set_option Elab.async false
set_option linter.all false
set_option maxRecDepth 100000
set_option maxHeartbeats 4000000
namespace Vw
open PySem PySem.Spec PyProof.Rows L2 RT
local macro_rules | `(tactic| walk_at "s") => `(tactic| with_reducible first
  | refine' s_seq ?_ | refine' s_next ?_ | refine' s_set ?_ | refine' s_ret ?_ | refine' s_retN ?_ | refine' s_drop ?_ | refine' s_if ?_ | refine' s_ipI ?_
  | refine' e_c ?_ | refine' e_op ?_ | refine' e_un ?_ | refine' e_neg ?_ | refine' e_test ?_ | refine' e_tB ?_ | refine' e_bl ?_ | refine' e_and ?_ | refine' e_or ?_ | refine' e_not ?_
  | refine' e_andV ?_ | refine' e_orV ?_ | refine' e_notV ?_ | refine' e_kV ?_ | refine' e_ife ?_ | refine' e_nil ?_ | refine' e_cons ?_ | refine' e_cb ?_ | refine' e_call ?_ | refine' e_chain ?_
  | refine' o_addI ?_ | refine' o_eqI ?_ | refine' o_neI ?_ | refine' o_I0 ?_ | refine' o_pow16 ?_ | refine' o_pow17 ?_ | refine' o_pow18 ?_ | refine' o_pow19 ?_ | refine' o_pow30 ?_ | refine' o_pow31 ?_ | refine' o_pow1 ?_ | refine' o_pow2 ?_ | refine' o_pow3 ?_ | refine' o_pow4 ?_ | refine' o_pow5 ?_ | refine' o_pow6 ?_ | refine' o_pow9 ?_ | refine' o_pow10 ?_ | refine' o_pow12 ?_ | refine' o_pow15 ?_ | refine' o_pow20 ?_ | refine' e_lst ?_ | refine' e_tup ?_ | refine' iteT ?_ | refine' i_nt ?_ | refine' i_nf ?_ | refine' iteF ?_ | refine' c_int ?_ | refine' c_abs ?_ | refine' c_min2 ?_ | refine' c_max2 ?_ | refine' e_tru ?_ | refine' t_bl ?_ | refine' t_non ?_ | refine' t_int ?_ | refine' isN_non ?_ | refine' isN_int ?_ | refine' isN_ref ?_ | refine' isN_str ?_ | refine' isN_bl ?_ | refine' noN_non ?_ | refine' noN_int ?_ | refine' noN_ref ?_ | refine' noN_str ?_ | refine' noN_bl ?_
  | refine' s_brk ?_ | refine' s_cont ?_ | refine' s_for ?_ | refine' e_lc ?_ | refine' e_dc ?_ | refine' e_yes ?_ | refine' i_rng1 ?_ | refine' i_lst0 ?_ | refine' i_tup0 ?_ | refine' e_bm ?_ | refine' e_sl ?_ | refine' e_np ?_ | refine' e_pt ?_ | refine' e_ptI ?_ | refine' e_din ?_ | refine' e_dnin ?_ | refine' e_methE ?_ | refine' p_cons ?_ | refine' p_nil ?_ | refine' s_dput ?_ | refine' e_dget2 ?_ | refine' e_dpop1 ?_ | refine' i_enum0 ?_ | refine' i_rev0 ?_ | refine' g_sub ?_ | refine' s_asg ?_ | refine' i_zip0 ?_ | refine' e_revT ?_ | refine' isB_bl ?_ | refine' notB_bl ?_ | refine' o_neB ?_ | refine' i_nrr ?_ | refine' e_meth ?_ | refine' s_setf ?_ | refine' e_fld ?_ | refine' e_bm0 ?_ | refine' r_tx ?_ | refine' o_eqStr ?_ | refine' o_neStr ?_)
local macro_rules | `(tactic| walk_at "v") => `(tactic| ((with_reducible refine' e_var ?hv ?_); (case hv => exact rfl)))
local macro_rules | `(tactic| walk_at "a") => `(tactic| ((with_reducible refine' s_aug ?hv ?_); (case hv => exact rfl)))
local macro_rules | `(tactic| walk_at "m") => `(tactic| first
  | ((with_reducible refine' o_mod ?hv ?_); (case hv => first | decide | omega))
  | ((with_reducible refine' o_mulR ?hv ?_); (case hv => omega))
  | ((with_reducible refine' o_mulL ?hv ?_); (case hv => omega))
  | ((with_reducible refine' o_div ?hv ?hw ?_); (case hv => omega); (case hw => omega))
  | ((with_reducible refine' o_pow _ ?hv ?hw ?hx ?_); (case hv => exact rfl); (case hw => decide); (case hx => decide)))
local macro_rules | `(tactic| walk_at "i") => `(tactic| (first
  | ((with_reducible refine' isi_int true ?hv ?_); (case hv => exact (by decide +kernel)))
  | ((with_reducible refine' isi_int false ?hv ?_); (case hv => exact (by decide +kernel)))
  | ((with_reducible refine' isi_non true ?hv ?_); (case hv => exact (by decide +kernel)))
  | ((with_reducible refine' isi_non false ?hv ?_); (case hv => exact (by decide +kernel)))
  | ((with_reducible refine' isi_str true ?hv ?_); (case hv => exact (by decide +kernel)))
  | ((with_reducible refine' isi_str false ?hv ?_); (case hv => exact (by decide +kernel)))
  | ((with_reducible refine' isi_bl true ?hv ?_); (case hv => exact (by decide +kernel)))
  | ((with_reducible refine' isi_bl false ?hv ?_); (case hv => exact (by decide +kernel)))
  | ((with_reducible refine' isi_t true ?hw ?hv ?_); (case hw => assumption); (case hv => exact (by decide +kernel)))
  | ((with_reducible refine' isi_t false ?hw ?hv ?_); (case hw => assumption); (case hv => exact (by decide +kernel)))
  | ((with_reducible refine' isi_l true ?hw ?hv ?_); (case hw => assumption); (case hv => exact (by decide +kernel)))
  | ((with_reducible refine' isi_l false ?hw ?hv ?_); (case hw => assumption); (case hv => exact (by decide +kernel)))
  | ((with_reducible refine' isi_tup true ?hw ?hv ?_); (case hw => assumption); (case hv => exact (by decide +kernel)))
  | ((with_reducible refine' isi_tup false ?hw ?hv ?_); (case hw => assumption); (case hv => exact (by decide +kernel)))
  | ((with_reducible refine' isi_lst true ?hw ?hv ?_); (case hw => assumption); (case hv => exact (by decide +kernel)))
  | ((with_reducible refine' isi_lst false ?hw ?hv ?_); (case hw => assumption); (case hv => exact (by decide +kernel)))))
local macro_rules | `(tactic| walk_at "om") => `(tactic| first | omega | (simp only [List.length_cons, List.length_nil, List.length_map, List.length_append, List.length_range]; omega))
local macro_rules | `(tactic| walk_at "d") => `(tactic| (first
  | ((with_reducible refine' i_dt ?hv ?_); (case hv => walk_at "om"))
  | ((with_reducible refine' i_df ?hv ?_); (case hv => walk_at "om"))
  | ((with_reducible refine' i_ndt ?hv ?_); (case hv => walk_at "om"))
  | ((with_reducible refine' i_ndf ?hv ?_); (case hv => walk_at "om"))))
local macro_rules | `(tactic| walk_at "x") => `(tactic| first
  | ((with_reducible refine' o_ixA ?hv ?hw ?_); (case hv => assumption); (case hw => exact rfl))
  | ((with_reducible refine' o_ixU ?hv ?hw ?_); (case hv => assumption); (case hw => exact rfl))
  | ((with_reducible refine' o_ixL ?hv ?hw ?_); (case hv => assumption); (case hw => exact rfl))
  | ((with_reducible refine' o_ixT ?hv ?hw ?_); (case hv => assumption); (case hw => exact rfl))
  | ((with_reducible refine' set_ ?hv ?hw ?_); (case hv => assumption); (case hw => exact rfl))
  | ((with_reducible refine' e_lenM ?hv ?_); (case hv => first | assumption | exact slO (by assumption)))
  | ((with_reducible refine' e_lenN ?hv ?_); (case hv => first | assumption | exact stO (by assumption)))
  | ((with_reducible refine' e_lenL ?hv ?_); (case hv => first | assumption | exact slO (by assumption)))
  | ((with_reducible refine' e_lenT ?hv ?_); (case hv => first | assumption | exact stO (by assumption))))
local macro_rules | `(tactic| walk_at "c") => `(tactic| first
  | ((with_reducible refine' c_listL ?hv ?_); (case hv => assumption))
  | ((with_reducible refine' c_listT ?hv ?_); (case hv => assumption))
  | ((with_reducible refine' c_tupL ?hv ?_); (case hv => first | assumption | exact slO (by assumption)))
  | ((with_reducible refine' c_tupT ?hv ?_); (case hv => assumption))
  | ((with_reducible refine' t_lst ?hv ?_); (case hv => first | assumption | exact slO (by assumption)))
  | ((with_reducible refine' t_tup ?hv ?_); (case hv => assumption))
  | ((with_reducible refine' r_sl ?hv ?_); (case hv => first | assumption | exact slO (by assumption)))
  | ((with_reducible refine' o_inL ?hv ?_); (case hv => first | assumption | exact slO (by assumption)))
  | ((with_reducible refine' o_inT ?hv ?_); (case hv => first | assumption | exact stO (by assumption)))
  | ((with_reducible refine' o_niL ?hv ?_); (case hv => first | assumption | exact slO (by assumption)))
  | ((with_reducible refine' o_niT ?hv ?_); (case hv => first | assumption | exact stO (by assumption)))
  | ((with_reducible refine' ty_lst ?hv ?_); (case hv => assumption)))
local macro_rules | `(tactic| walk_at "mo") => `(tactic| repeat' (first | exact m_yes | exact m_var | exact m_c | exact m_I0 | exact m_I | exact m_ix | exact m_add | exact m_in | exact m_int1 | exact m_abs | exact m_nil | refine' m_and ?_ ?_ | refine' m_test ?_ | refine' m_tB ?_ | refine' m_op ?_ ?_ ?_ | refine' m_cons ?_ ?_ | refine' m_cb ?_ ?_))
local macro_rules | `(tactic| walk_at "go") => `(tactic| repeat' (first | walk_at "s" | walk_at "v" | walk_at "a" | walk_at "x" | walk_at "m" | walk_at "c" | walk_at "i" | walk_at "d"))

section
variable {P : Program} {w : World} {K : PySem.W.Frag} {mg : Str → Option Value} {base : Heap}
/-! ### the records that are read -/
theorem ne_of_none' {H : Hp} {a b : Addr} {o : HO} (h : H a = some o) (n : H b = none) : b ≠ a := fun z => by rw [z, h] at n; cases n
theorem countG_all {M : Mst} {lt : Nat} {g : Nat → Option Pc} {Pr : Pc → Prop} : ∀ {n k : Nat} {acc : List Pc}, (∀ p ∈ acc, Pr p) → (∀ j, j < n → ∀ p, g (k + j) = some p → Pr p) → ∀ p ∈ countG M lt g n acc k, Pr p
  | 0, k, acc, ha, _, p, hp => ha p hp
  | n + 1, k, acc, ha, hg, p, hp => by
    cases e : g k with
    | none => rw [countG_none e] at hp; exact ha p hp
    | some q =>
      rw [countG_some e] at hp
      split at hp
      · refine countG_all (fun x hx => ?_) (fun j hj x hx => hg (j + 1) (by omega) x (by rw [← hx]; congr 1; omega)) p hp
        rcases List.mem_append.mp hx with z | z
        · exact ha x z
        · rw [List.mem_singleton.mp z]; exact hg 0 (by omega) q e
      · exact ha p hp
theorem countG_len {M : Mst} {lt : Nat} {g : Nat → Option Pc} : ∀ {n k : Nat} {acc : List Pc}, (countG M lt g n acc k).length ≤ acc.length + n
  | 0, k, acc => Nat.le_refl _
  | n + 1, k, acc => by
    cases e : g k with
    | none => rw [countG_none e]; omega
    | some q =>
      rw [countG_some e]
      split
      · have := countG_len (M := M) (lt := lt) (g := g) (n := n) (k := k + 1) (acc := acc ++ [q])
        rw [List.length_append, List.length_singleton] at this
        omega
      · omega
abbrev Rc := Nat × List V × Nat
def rdStep (st : List V × List Rc) (p : Pc) : List V × List Rc := if p.l = 0 then ([], st.2 ++ [(p.r, st.1 ++ p.xs, p.e)]) else (st.1 ++ p.xs, st.2)
def readP (ps : List Pc) : List Rc := (ps.foldl rdStep ([], [])).2
def RecsAt (K : PySem.W.Frag) (H : Hp) (ts : List Addr) (rs : List Rc) : Prop := ts.length = rs.length ∧ ∀ (i : Nat) (t : Addr) (r : Rc), ts[i]? = some t → rs[i]? = some r → ∃ a, SqT K H t [.int r.1, .ref a, .int r.2.2] ∧ SqT K H a r.2.1
theorem RecsAt.st {H H' : Hp} {ts : List Addr} {rs : List Rc} (h : RecsAt K H ts rs) (k : ∀ c xs, SqT K H c xs → SqT K H' c xs) : RecsAt K H' ts rs := ⟨h.1, fun i t r a b => (h.2 i t r a b).elim fun x q => ⟨x, k _ _ q.1, k _ _ q.2⟩⟩
theorem RecsAt.snoc {H : Hp} {ts : List Addr} {rs : List Rc} {t a : Addr} {r : Rc} (h : RecsAt K H ts rs) (h1 : SqT K H t [.int r.1, .ref a, .int r.2.2]) (h2 : SqT K H a r.2.1) : RecsAt K H (ts ++ [t]) (rs ++ [r]) := by
  refine ⟨by rw [List.length_append, List.length_append, h.1]; rfl, fun i d ys x y => ?_⟩
  have l := h.1
  by_cases hi : i < ts.length
  · rw [List.getElem?_append_left hi] at x
    rw [List.getElem?_append_left (by omega)] at y
    exact h.2 i d ys x y
  · rw [List.getElem?_append_right (by omega)] at x
    rw [List.getElem?_append_right (by omega)] at y
    rw [l] at x
    cases e : i - rs.length with
    | zero =>
      rw [e] at x y
      cases x; cases y; exact ⟨a, h1, h2⟩
    | succ n => rw [e] at x; cases x
theorem rd_len : ∀ {ps : List Pc} {st : List V × List Rc} {n : Nat}, (∀ p ∈ ps, p.xs.length ≤ 36) → st.1.length ≤ 36 * n → ((ps.foldl rdStep st).1.length ≤ 36 * (n + ps.length))
  | [], st, n, _, h => by simpa using h
  | p :: ps, st, n, hp, h => by
    have h1 := hp p (by simp)
    have := rd_len (ps := ps) (st := rdStep st p) (n := n + 1) (fun x hx => hp x (List.mem_cons_of_mem _ hx)) (by
      unfold rdStep
      split
      · show 0 ≤ _
        omega
      · show (st.1 ++ p.xs).length ≤ _
        rw [List.length_append]; omega)
    rw [List.foldl_cons, List.length_cons]
    omega
theorem rd_len2 : ∀ {ps : List Pc} {st : List V × List Rc}, (ps.foldl rdStep st).2.length ≤ st.2.length + ps.length
  | [], st => Nat.le_refl _
  | p :: ps, st => by
    have := rd_len2 (ps := ps) (st := rdStep st p)
    have h2 : (rdStep st p).2.length ≤ st.2.length + 1 := by
      unfold rdStep
      split
      · show (st.2 ++ [_]).length ≤ _
        rw [List.length_append]; exact Nat.le_refl _
      · show st.2.length ≤ _
        omega
    rw [List.foldl_cons, List.length_cons]
    omega
def sp_read_prefix (K : PySem.W.Frag) (C : Addr) : Sp := fun vs H Q _ => ∃ (p : Addr) (lt : Nat) (F : List Addr) (S : SD) (M : Mst) (g : Nat → Option Pc), vs = [.ref p, .int lt] ∧ DS K C H p F S ∧ S.shows 0 = some (Mst.ct M) ∧ 4 ≤ M.r ∧ M.r + 8 ≤ S.lies.length ∧ M.k ≤ 1000000000 ∧ Ring S M.r M.k g ∧
  ∀ D ts H', Same H H' → H D = none → H' D = some (.lst (ts.map V.ref)) → RecsAt K H' ts (readP (countG M lt g M.r [] M.k)) → Q (.ref D) H'
theorem ok_read_prefix (T : Txt K mg) : FnOk P w K mg base CX0 7 T.read_prefix.f T.read_prefix.fd ["disk", "latest"] ((sp_read_prefix K T.C_Disk)) := by
  refine T.read_prefix.F.ok sc_read_prefix (fun vs H Q E h => ?_) (fun cdv A outer s H vs Q E hr h => ?_)
  · obtain ⟨p, lt, F, S, M, g, rfl, _⟩ := h
    rfl
  · obtain ⟨p, lt, F, S, M, g, rfl, hS, hM, h4, h8, hk, hR, k⟩ := h
    refine ⟨_, (pss_cons (ps_set (i := 2) sc_read_prefix.nd rfl (Or.inl rfl) (pe_lst pa_nil))
    (pss_cons (ps_set (i := 3) sc_read_prefix.nd rfl (Or.inl rfl) (pe_lst pa_nil))
    (pss_cons (ps_for PassesOwn.never rfl (piL (K := K) (pe_call (ok_counted T) (hr.mono (by decide)) (by rfl) T.counted.g T.counted.F.kp T.counted.b .nil pass0 (pa_cons (pv 0) (pa_cons (pv 1) pa_nil)))) (pg_name (i := 4) sc_read_prefix.nd rfl (Or.inl rfl))
      (pss_cons (ps_expr (peExt (K := K) (pe_bm PySem.F.plainAttrs_list PySem.F.slot_list_extend PySem.F.type_list_extend (mtExtT (K := K)) (pv 3) (pa_cons (pe_slice (slT (K := K)) (pv 4) (po_some (pe_glob (by rfl) T.c_HEAD.h T.c_HEAD.r)) po_none) pa_nil))))
    (pss_one (ps_if (pt_cmpR (oEq (K := K) hr.units) (pe_ix (ixLT (K := K)) (pv 4) pe_int (fun _ _ => rfl)) pe_int (nomark _)) (pss_cons (ps_expr (peApp (K := K) (pe_bm PySem.F.plainAttrs_list PySem.F.slot_list_append PySem.F.type_list_append mt_append (pv 2) (pa_cons (pe_tup (pa_cons (pe_ix (ixLT (K := K)) (pv 4) pe_int (fun _ _ => rfl)) (pa_cons (pe_callTy (cTupOf (K := K)) (by rfl) T.z_tuple (by decide +kernel) (pa_cons (pv 3) pa_nil)) (pa_cons (pe_ix (ixLT (K := K)) (pv 4) pe_int (fun _ _ => rfl)) pa_nil)))) pa_nil))))
    (pss_one (ps_set (i := 3) sc_read_prefix.nd rfl (Or.inl rfl) (pe_lst pa_nil)))) pss_nil))))
    (pss_one (ps_ret (pv 2)))))), ?_⟩
    have hr6 := hS.len
    walk_at "go"
    refine n_new (le_size (by simp)) fun f H1 n1 s1 h1 => ?_
    walk_at "go"
    refine n_new (le_size (by simp)) fun it H2 n2 s2 h2 => ?_
    have s02 := s1.trans s2
    have h12 := s2 _ _ h1
    walk_at "go"
    refine ⟨p, lt, F, S, M, g, rfl, hS.same s02, hM, h4, h8, hk, hR, fun D cs H3 s3 n3 h3 t3 => ?_⟩
    have s03 := s02.trans s3
    have hl := countG_len (M := M) (lt := lt) (g := g) (n := M.r) (k := M.k) (acc := [])
    have hbd : ∀ p ∈ countG M lt g M.r [] M.k, p.xs.length ≤ 36 := countG_all (fun p h => by cases h) fun j hj p e => ((hR j hj).2 p e).2
    generalize countG M lt g M.r [] M.k = ps at *
    have hl : ps.length ≤ 600 := by rw [List.length_nil] at hl; omega
    have lc : cs.length = ps.length := by rw [t3.1, List.length_map]
    refine i_lst (slO h3) ?_
    refine l_lst (xs := cs.map V.ref) (fun i σ4 H4 => ∃ (it : Addr) (y : Option V) (ts : List Addr), σ4 = [some (.ref p), some (.int lt), some (.ref f), some (.ref it), y] ∧ Same H H4 ∧ H it = none ∧ it ≠ f ∧ D ≠ it ∧ H4 D = some (.lst (cs.map V.ref)) ∧ H4 f = some (.lst (ts.map V.ref)) ∧ H4 it = some (.lst ((ps.take i).foldl rdStep ([], [])).1) ∧
      TupsAt K H4 cs (ps.map Pc.ct) ∧ RecsAt K H4 ts ((ps.take i).foldl rdStep ([], [])).2) ⟨it, none, [], rfl, s03, free_ s1 n2, ne_of_none' h1 n2, ne_of_none' h2 n3, h3, s3 _ _ h12, s3 _ _ h2, t3, ⟨rfl, fun i t r a => by cases a⟩⟩ (fun i σ4 H4 hi q => ?_) (fun σ4 H4 q => ?_) (fun i x σ4 H4 hx q => ?_)
    · obtain ⟨it, y, ts, q⟩ := q
      exact slO q.2.2.2.2.2.1
    · obtain ⟨it, y, ts, rfl, s4, ni, nf, nd, hD, hf, hi, tu, re⟩ := q
      rw [List.length_map, lc, List.take_length] at re
      walk_at "go"
      exact k f ts H4 s4 n1 hf re
    · obtain ⟨it, y, ts, rfl, s4, ni, nf, nd, hD, hf, hi, tu, re⟩ := q
      have hi' : i < cs.length := by
        have := (List.getElem?_eq_some_iff.mp hx).1
        simpa using this
      have hp : i < ps.length := by omega
      have ex : x = .ref cs[i] := by
        rw [List.getElem?_map, List.getElem?_eq_getElem hi'] at hx
        exact (Option.some.inj hx).symm
      subst ex
      have hc : SqT K H4 cs[i] ps[i].ct := tu.2 i _ _ (List.getElem?_eq_getElem hi') (by rw [List.getElem?_map, List.getElem?_eq_getElem hp]; rfl)
      have ln := rd_len (ps := ps.take i) (st := ([], [])) (n := 0) (fun p h => hbd p (List.mem_of_mem_take h)) (Nat.zero_le _)
      have ln2 := rd_len2 (ps := ps.take i) (st := ([], []))
      rw [List.length_take] at ln ln2
      have et : (ps.take (i + 1)).foldl rdStep ([], []) = rdStep ((ps.take i).foldl rdStep ([], [])) ps[i] := by
        rw [List.take_add_one, List.getElem?_eq_getElem hp, List.foldl_append]; rfl
      have hxi := hbd ps[i] (List.getElem_mem hp)
      rw [et]
      generalize (ps.take i).foldl rdStep ([], []) = st at *
      generalize ps[i] = q at *
      have ln : st.1.length ≤ 36 * 600 := by omega
      have ln2 : st.2.length ≤ 600 := by rw [List.length_nil] at ln2; omega
      walk_at "go"
      refine r_slT hc fun c5 H5 s5 hc5 => ?_
      rw [show cutV q.ct (some 4) none = q.xs from cut_from (i := 4)] at hc5
      have hi5 := s5 _ _ hi
      walk_at "go"
      refine r_extT hi5 hc5 (by omega) fun H6 o6 e6 => ?_
      have c56 : Ch [it] H5 H6 := Ch.of_oth o6 (by simp) fun o e => by rw [hi5] at e; cases e; rfl
      have kp : ∀ c xs, SqT K H4 c xs → SqT K H6 c xs := fun c xs h => c56.st (st_ s5 h)
      have hc6 : SqT K H6 cs[i] (.int q.k :: .int q.e :: .int q.r :: .int q.l :: q.xs) := kp _ _ hc
      have s6 : Same H H6 := fun b o e => c56 b o (s5 _ _ (s4 _ _ e)) (.inl fun m => by rw [List.mem_singleton.mp m, ni] at e; cases e)
      have hf6 := o6 _ _ (Ne.symm nf) (s5 _ _ hf)
      have hD6 := o6 _ _ nd (s5 _ _ hD)
      have tu6 : TupsAt K H6 cs (ps.map Pc.ct) := ⟨tu.1, fun i c xs a b => kp _ _ (tu.2 i c xs a b)⟩
      have re6 := re.st kp
      walk_at "go"
      refine o_ixT hc6 (atI_in (j := 3) rfl rfl) ?_
      walk_at "go"
      refine i_d (fun z => ?_) (fun z => ?_)
      · have er : rdStep st q = ([], st.2 ++ [(q.r, st.1 ++ q.xs, q.e)]) := by unfold rdStep; rw [if_pos (by omega)]
        walk_at "go"
        refine o_ixT hc6 (atI_in (j := 2) rfl rfl) ?_
        walk_at "go"
        refine n_new0 fun a7 H7 n7 s7 h7 => ?_
        have hc7 := st_ s7 hc6
        walk_at "go"
        refine o_ixT hc7 (atI_in (j := 1) rfl rfl) ?_
        walk_at "go"
        refine n_new (le_size (by simp)) fun t8 H8 n8 s8 h8 => ?_
        have s68 := s7.trans s8
        have hf8 := s68 _ _ hf6
        walk_at "go"
        refine r_app hf8 (by rw [List.length_map, re.1]; omega) fun H9 o9 e9 => ?_
        have c89 : Ch [f] H8 H9 := Ch.of_oth o9 (by simp) fun o e => by rw [hf8] at e; cases e; rfl
        walk_at "go"
        refine n_new (le_size (by simp)) fun i2 H10 n10 s10 h10 => ?_
        have kp2 : ∀ c xs, SqT K H6 c xs → SqT K H10 c xs := fun c xs h => st_ s10 (c89.st (st_ s68 h))
        have s9 : Same H H9 := fun b o e => c89 b o (s68 _ _ (s6 _ _ e)) (.inl fun m => by rw [List.mem_singleton.mp m, n1] at e; cases e)
        have ndf : D ≠ f := fun z => by rw [z, h12] at n3; cases n3
        have hD10 := s10 _ _ (o9 _ _ ndf (s68 _ _ hD6))
        walk_at "go"
        refine ⟨i2, _, ts ++ [t8], rfl, s9.trans s10, free_ s9 n10, ne_of_none' e9 n10, Ne.symm (ne_of_none' (o9 _ _ ndf (s68 _ _ hD6)) n10), hD10, ?_, ?_, ⟨tu6.1, fun i c xs a b => kp2 _ _ (tu6.2 i c xs a b)⟩, ?_⟩
        · rw [List.map_append]; exact s10 _ _ e9
        · rw [er]; exact h10
        · rw [er]
          exact (re6.st kp2).snoc (a := a7) (r := (q.r, st.1 ++ q.xs, q.e)) (st_ s10 (c89.st (stO h8))) (st_ s10 (c89.st (st_ s8 (stO h7))))
      · have er : rdStep st q = (st.1 ++ q.xs, st.2) := by unfold rdStep; rw [if_neg (by omega)]
        walk_at "go"
        refine ⟨it, _, ts, rfl, s6, ni, nf, nd, hD6, hf6, ?_, tu6, ?_⟩
        · rw [er]; exact e6
        · rw [er]; exact re6
end
end Vw

set_option Elab.async false
set_option linter.all false
set_option maxRecDepth 100000
set_option maxHeartbeats 4000000
namespace Vw
open PySem PySem.Spec PyProof.Rows L2 RT
local macro_rules | `(tactic| walk_at "s") => `(tactic| with_reducible first
  | refine' s_seq ?_ | refine' s_next ?_ | refine' s_set ?_ | refine' s_ret ?_ | refine' s_retN ?_ | refine' s_drop ?_ | refine' s_if ?_ | refine' s_ipI ?_
  | refine' e_c ?_ | refine' e_op ?_ | refine' e_un ?_ | refine' e_neg ?_ | refine' e_test ?_ | refine' e_tB ?_ | refine' e_bl ?_ | refine' e_and ?_ | refine' e_or ?_ | refine' e_not ?_
  | refine' e_andV ?_ | refine' e_orV ?_ | refine' e_notV ?_ | refine' e_kV ?_ | refine' e_ife ?_ | refine' e_nil ?_ | refine' e_cons ?_ | refine' e_cb ?_ | refine' e_call ?_ | refine' e_chain ?_
  | refine' o_addI ?_ | refine' o_eqI ?_ | refine' o_neI ?_ | refine' o_I0 ?_ | refine' o_pow16 ?_ | refine' o_pow17 ?_ | refine' o_pow18 ?_ | refine' o_pow19 ?_ | refine' o_pow30 ?_ | refine' o_pow31 ?_ | refine' o_pow1 ?_ | refine' o_pow2 ?_ | refine' o_pow3 ?_ | refine' o_pow4 ?_ | refine' o_pow5 ?_ | refine' o_pow6 ?_ | refine' o_pow9 ?_ | refine' o_pow10 ?_ | refine' o_pow12 ?_ | refine' o_pow15 ?_ | refine' o_pow20 ?_ | refine' e_lst ?_ | refine' e_tup ?_ | refine' iteT ?_ | refine' i_nt ?_ | refine' i_nf ?_ | refine' iteF ?_ | refine' c_int ?_ | refine' c_abs ?_ | refine' c_min2 ?_ | refine' c_max2 ?_ | refine' e_tru ?_ | refine' t_bl ?_ | refine' t_non ?_ | refine' t_int ?_ | refine' isN_non ?_ | refine' isN_int ?_ | refine' isN_ref ?_ | refine' isN_str ?_ | refine' isN_bl ?_ | refine' noN_non ?_ | refine' noN_int ?_ | refine' noN_ref ?_ | refine' noN_str ?_ | refine' noN_bl ?_
  | refine' s_brk ?_ | refine' s_cont ?_ | refine' s_for ?_ | refine' e_lc ?_ | refine' e_dc ?_ | refine' e_yes ?_ | refine' i_rng1 ?_ | refine' i_lst0 ?_ | refine' i_tup0 ?_ | refine' e_bm ?_ | refine' e_sl ?_ | refine' e_np ?_ | refine' e_pt ?_ | refine' e_ptI ?_ | refine' e_din ?_ | refine' e_dnin ?_ | refine' e_methE ?_ | refine' p_cons ?_ | refine' p_nil ?_ | refine' s_dput ?_ | refine' e_dget2 ?_ | refine' e_dpop1 ?_ | refine' i_enum0 ?_ | refine' i_rev0 ?_ | refine' g_sub ?_ | refine' s_asg ?_ | refine' i_zip0 ?_ | refine' e_revT ?_ | refine' isB_bl ?_ | refine' notB_bl ?_ | refine' o_neB ?_ | refine' i_nrr ?_ | refine' e_meth ?_ | refine' s_setf ?_ | refine' e_fld ?_ | refine' e_bm0 ?_ | refine' r_tx ?_ | refine' o_eqStr ?_ | refine' o_neStr ?_)
local macro_rules | `(tactic| walk_at "v") => `(tactic| ((with_reducible refine' e_var ?hv ?_); (case hv => exact rfl)))
local macro_rules | `(tactic| walk_at "a") => `(tactic| ((with_reducible refine' s_aug ?hv ?_); (case hv => exact rfl)))
local macro_rules | `(tactic| walk_at "m") => `(tactic| first
  | ((with_reducible refine' o_mod ?hv ?_); (case hv => first | decide | omega))
  | ((with_reducible refine' o_mulR ?hv ?_); (case hv => omega))
  | ((with_reducible refine' o_mulL ?hv ?_); (case hv => omega))
  | ((with_reducible refine' o_div ?hv ?hw ?_); (case hv => omega); (case hw => omega))
  | ((with_reducible refine' o_pow _ ?hv ?hw ?hx ?_); (case hv => exact rfl); (case hw => decide); (case hx => decide)))
local macro_rules | `(tactic| walk_at "i") => `(tactic| (first
  | ((with_reducible refine' isi_int true ?hv ?_); (case hv => exact (by decide +kernel)))
  | ((with_reducible refine' isi_int false ?hv ?_); (case hv => exact (by decide +kernel)))
  | ((with_reducible refine' isi_non true ?hv ?_); (case hv => exact (by decide +kernel)))
  | ((with_reducible refine' isi_non false ?hv ?_); (case hv => exact (by decide +kernel)))
  | ((with_reducible refine' isi_str true ?hv ?_); (case hv => exact (by decide +kernel)))
  | ((with_reducible refine' isi_str false ?hv ?_); (case hv => exact (by decide +kernel)))
  | ((with_reducible refine' isi_bl true ?hv ?_); (case hv => exact (by decide +kernel)))
  | ((with_reducible refine' isi_bl false ?hv ?_); (case hv => exact (by decide +kernel)))
  | ((with_reducible refine' isi_t true ?hw ?hv ?_); (case hw => assumption); (case hv => exact (by decide +kernel)))
  | ((with_reducible refine' isi_t false ?hw ?hv ?_); (case hw => assumption); (case hv => exact (by decide +kernel)))
  | ((with_reducible refine' isi_l true ?hw ?hv ?_); (case hw => assumption); (case hv => exact (by decide +kernel)))
  | ((with_reducible refine' isi_l false ?hw ?hv ?_); (case hw => assumption); (case hv => exact (by decide +kernel)))
  | ((with_reducible refine' isi_tup true ?hw ?hv ?_); (case hw => assumption); (case hv => exact (by decide +kernel)))
  | ((with_reducible refine' isi_tup false ?hw ?hv ?_); (case hw => assumption); (case hv => exact (by decide +kernel)))
  | ((with_reducible refine' isi_lst true ?hw ?hv ?_); (case hw => assumption); (case hv => exact (by decide +kernel)))
  | ((with_reducible refine' isi_lst false ?hw ?hv ?_); (case hw => assumption); (case hv => exact (by decide +kernel)))))
local macro_rules | `(tactic| walk_at "om") => `(tactic| first | omega | (simp only [List.length_cons, List.length_nil, List.length_map, List.length_append, List.length_range]; omega))
local macro_rules | `(tactic| walk_at "d") => `(tactic| (first
  | ((with_reducible refine' i_dt ?hv ?_); (case hv => walk_at "om"))
  | ((with_reducible refine' i_df ?hv ?_); (case hv => walk_at "om"))
  | ((with_reducible refine' i_ndt ?hv ?_); (case hv => walk_at "om"))
  | ((with_reducible refine' i_ndf ?hv ?_); (case hv => walk_at "om"))))
local macro_rules | `(tactic| walk_at "x") => `(tactic| first
  | ((with_reducible refine' o_ixA ?hv ?hw ?_); (case hv => assumption); (case hw => exact rfl))
  | ((with_reducible refine' o_ixU ?hv ?hw ?_); (case hv => assumption); (case hw => exact rfl))
  | ((with_reducible refine' o_ixL ?hv ?hw ?_); (case hv => assumption); (case hw => exact rfl))
  | ((with_reducible refine' o_ixT ?hv ?hw ?_); (case hv => assumption); (case hw => exact rfl))
  | ((with_reducible refine' set_ ?hv ?hw ?_); (case hv => assumption); (case hw => exact rfl))
  | ((with_reducible refine' e_lenM ?hv ?_); (case hv => first | assumption | exact slO (by assumption)))
  | ((with_reducible refine' e_lenN ?hv ?_); (case hv => first | assumption | exact stO (by assumption)))
  | ((with_reducible refine' e_lenL ?hv ?_); (case hv => first | assumption | exact slO (by assumption)))
  | ((with_reducible refine' e_lenT ?hv ?_); (case hv => first | assumption | exact stO (by assumption))))
local macro_rules | `(tactic| walk_at "c") => `(tactic| first
  | ((with_reducible refine' c_listL ?hv ?_); (case hv => assumption))
  | ((with_reducible refine' c_listT ?hv ?_); (case hv => assumption))
  | ((with_reducible refine' c_tupL ?hv ?_); (case hv => first | assumption | exact slO (by assumption)))
  | ((with_reducible refine' c_tupT ?hv ?_); (case hv => assumption))
  | ((with_reducible refine' t_lst ?hv ?_); (case hv => first | assumption | exact slO (by assumption)))
  | ((with_reducible refine' t_tup ?hv ?_); (case hv => assumption))
  | ((with_reducible refine' r_sl ?hv ?_); (case hv => first | assumption | exact slO (by assumption)))
  | ((with_reducible refine' o_inL ?hv ?_); (case hv => first | assumption | exact slO (by assumption)))
  | ((with_reducible refine' o_inT ?hv ?_); (case hv => first | assumption | exact stO (by assumption)))
  | ((with_reducible refine' o_niL ?hv ?_); (case hv => first | assumption | exact slO (by assumption)))
  | ((with_reducible refine' o_niT ?hv ?_); (case hv => first | assumption | exact stO (by assumption)))
  | ((with_reducible refine' ty_lst ?hv ?_); (case hv => assumption)))
local macro_rules | `(tactic| walk_at "mo") => `(tactic| repeat' (first | exact m_yes | exact m_var | exact m_c | exact m_I0 | exact m_I | exact m_ix | exact m_add | exact m_in | exact m_int1 | exact m_abs | exact m_nil | refine' m_and ?_ ?_ | refine' m_test ?_ | refine' m_tB ?_ | refine' m_op ?_ ?_ ?_ | refine' m_cons ?_ ?_ | refine' m_cb ?_ ?_))
local macro_rules | `(tactic| walk_at "go") => `(tactic| repeat' (first | walk_at "s" | walk_at "v" | walk_at "a" | walk_at "x" | walk_at "m" | walk_at "c" | walk_at "i" | walk_at "d"))

section
variable {P : Program} {w : World} {K : PySem.W.Frag} {mg : Str → Option Value} {base : Heap}
/-! ### a log as data -/
abbrev Kp := List V × Nat × Nat
structure LD where
  ep : Nat
  ring : Nat
  bg : Nat
  bk : Nat
  nk : Nat
  fo : Option Int
  kept : List Kp
def LD.last (L : LD) : Int := (L.bg : Int) + (L.kept.length : Nat) - 1
def lf (p kl : Addr) (L : LD) : List (Str × V) := ("_disk", V.ref p) :: ("_epoch", V.int L.ep) :: ("_ring", V.int L.ring) :: ("_begin", V.int L.bg) :: ("_kept", V.ref kl) :: ("_begin_k", V.int L.bk) :: ("_next_k", V.int L.nk) :: (match L.fo with | none => [] | some i => [("_forced", V.int i)])
section
variable (p kl : Addr) (L : LD) (n : Int)
theorem lf_d : (lf p kl L).lookup ("_disk" : Str) = some (V.ref p) := by unfold lf; cases L.fo <;> rfl
theorem lf_e : (lf p kl L).lookup ("_epoch" : Str) = some (V.int L.ep) := by unfold lf; cases L.fo <;> rfl
theorem lf_r : (lf p kl L).lookup ("_ring" : Str) = some (V.int L.ring) := by unfold lf; cases L.fo <;> rfl
theorem lf_b : (lf p kl L).lookup ("_begin" : Str) = some (V.int L.bg) := by unfold lf; cases L.fo <;> rfl
theorem lf_k : (lf p kl L).lookup ("_kept" : Str) = some (V.ref kl) := by unfold lf; cases L.fo <;> rfl
theorem lf_bk : (lf p kl L).lookup ("_begin_k" : Str) = some (V.int L.bk) := by unfold lf; cases L.fo <;> rfl
theorem lf_nk : (lf p kl L).lookup ("_next_k" : Str) = some (V.int L.nk) := by unfold lf; cases L.fo <;> rfl
theorem lf_f (h : L.fo = some n) : (lf p kl L).lookup ("_forced" : Str) = some (V.int n) := by unfold lf; rw [h]; rfl
theorem lf_pf : putF "_forced" (.int n) (lf p kl L) = lf p kl { L with fo := some n } := by
  unfold lf
  cases L.fo <;> rfl
theorem lf_pn (m : Nat) : putF "_next_k" (.int m) (lf p kl L) = lf p kl { L with nk := m } := by
  unfold lf
  cases L.fo <;> rfl
theorem lf_len : (lf p kl L).length < 1000 := by
  unfold lf
  cases L.fo
  · show 7 < 1000
    decide
  · show 8 < 1000
    decide
theorem lf_no {m : Str} (h : ((["_disk", "_epoch", "_ring", "_begin", "_kept", "_begin_k", "_next_k", "_forced"] : List Str)).contains m = false) : (lf p kl L).lookup m = none := by
  unfold lf
  simp only [List.contains_cons, List.contains_nil, Bool.or_false, Bool.or_eq_false_iff] at h
  cases L.fo <;> simp only [List.cons_append, List.nil_append, List.lookup, h.1, h.2.1, h.2.2.1, h.2.2.2.1, h.2.2.2.2.1, h.2.2.2.2.2.1, h.2.2.2.2.2.2.1, h.2.2.2.2.2.2.2]
end
def KeptAt (K : PySem.W.Frag) (H : Hp) (ts : List Addr) (ks : List Kp) : Prop := ts.length = ks.length ∧ ∀ (i : Nat) (t : Addr) (r : Kp), ts[i]? = some t → ks[i]? = some r → ∃ a, SqT K H t [.ref a, .int r.2.1, .int r.2.2] ∧ SqT K H a r.1
theorem KeptAt.st {H H' : Hp} {ts : List Addr} {rs : List Kp} (h : KeptAt K H ts rs) (k : ∀ c xs, SqT K H c xs → SqT K H' c xs) : KeptAt K H' ts rs := ⟨h.1, fun i t r a b => (h.2 i t r a b).elim fun x q => ⟨x, k _ _ q.1, k _ _ q.2⟩⟩
theorem KeptAt.snoc {H : Hp} {ts : List Addr} {rs : List Kp} {t a : Addr} {r : Kp} (h : KeptAt K H ts rs) (h1 : SqT K H t [.ref a, .int r.2.1, .int r.2.2]) (h2 : SqT K H a r.1) : KeptAt K H (ts ++ [t]) (rs ++ [r]) := by
  refine ⟨by rw [List.length_append, List.length_append, h.1]; rfl, fun i d ys x y => ?_⟩
  have l := h.1
  by_cases hi : i < ts.length
  · rw [List.getElem?_append_left hi] at x
    rw [List.getElem?_append_left (by omega)] at y
    exact h.2 i d ys x y
  · rw [List.getElem?_append_right (by omega)] at x
    rw [List.getElem?_append_right (by omega)] at y
    rw [l] at x
    cases e : i - rs.length with
    | zero =>
      rw [e] at x y
      cases x; cases y; exact ⟨a, h1, h2⟩
    | succ n => rw [e] at x; cases x
/-- a log over the disk at p, its own places G -/
def LS (K : PySem.W.Frag) (C : Addr) (H : Hp) (q p : Addr) (G : List Addr) (L : LD) : Prop := ∃ kl ts, G = [q, kl] ∧ InsAt C H q (lf p kl L) ∧ H kl = some (.lst (ts.map V.ref)) ∧ KeptAt K H ts L.kept
theorem LS.ch {C q p : Addr} {F G : List Addr} {H H' : Hp} {L : LD} (h : LS K C H q p G L) (s : Ch F H H') (n : ∀ a ∈ G, a ∉ F) : LS K C H' q p G L := by
  obtain ⟨kl, ts, rfl, ⟨dx, h1⟩, h2, h3⟩ := h
  exact ⟨kl, ts, rfl, ⟨dx, s.at_ (n _ (by simp)) h1⟩, s.at_ (n _ (by simp)) h2, h3.st fun c xs z => s.st z⟩
theorem LS.same {C q p : Addr} {G : List Addr} {H H' : Hp} {L : LD} (h : LS K C H q p G L) (s : Same H H') : LS K C H' q p G L := h.ch (F := []) (Ch.of_same s) (by simp)
theorem LS.there {C q p : Addr} {G : List Addr} {H : Hp} {L : LD} (h : LS K C H q p G L) : ∀ a ∈ G, H a ≠ none := by
  obtain ⟨kl, ts, rfl, ⟨dx, h1⟩, h2, h3⟩ := h
  intro a m e
  rcases List.mem_cons.mp m with z | m
  · subst z; rw [h1] at e; cases e
  · rw [List.mem_singleton.mp m, h2] at e; cases e
def sp_last (K : PySem.W.Frag) (C : Addr) : Sp := fun vs H Q _ => ∃ q p G L, vs = [.ref q] ∧ LS K C H q p G L ∧ L.kept.length ≤ 10000 ∧ Q (.int L.last) H
theorem ok_Log_last (T : Txt K mg) : FnOk P w K mg base CX0 1 T.m_Log_last.f T.m_Log_last.fd ["self"] ((sp_last K T.C_Log)) := by
  refine T.m_Log_last.F.ok sc_Log_last (fun vs H Q E h => ?_) (fun cdv A outer s H vs Q E hr h => ?_)
  · obtain ⟨q, p, G, L, rfl, _⟩ := h
    rfl
  · obtain ⟨q, p, G, L, rfl, hL, hn, k⟩ := h
    refine ⟨_, (pss_one (ps_ret (pe_op op_sub (pe_op oAdd (peFld (K := K) (pv 0) rfl) (pe_callB (cLen (K := K)) (by rfl) T.z_len PySem.boot_len (pa_cons (peFld (K := K) (pv 0) rfl) pa_nil))) pe_int))), ?_⟩
    obtain ⟨kl, ts, eG, hob, hkl, hka⟩ := hL
    walk_at "go"
    refine o_fld hob T.k_Log.cl T.n_Log__begin (lf_b _ _ _) ?_
    walk_at "go"
    refine o_fld hob T.k_Log.cl T.n_Log__kept (lf_k _ _ _) ?_
    walk_at "go"
    have e : (L.bg : Int) + (ts.length : Nat) - 1 = L.last := by
      unfold LD.last
      rw [hka.1]
    rw [e]
    exact k
def sp_room (K : PySem.W.Frag) (C : Addr) : Sp := fun vs H Q _ => ∃ q p G L, vs = [.ref q] ∧ LS K C H q p G L ∧ Q (.int ((L.ring : Int) - ((L.nk : Int) - L.bk))) H
theorem ok_Log_room (T : Txt K mg) : FnOk P w K mg base CX0 1 T.m_Log_room.f T.m_Log_room.fd ["self"] ((sp_room K T.C_Log)) := by
  refine T.m_Log_room.F.ok sc_Log_room (fun vs H Q E h => ?_) (fun cdv A outer s H vs Q E hr h => ?_)
  · obtain ⟨q, p, G, L, rfl, _⟩ := h
    rfl
  · obtain ⟨q, p, G, L, rfl, hL, k⟩ := h
    refine ⟨_, (pss_one (ps_ret (pe_op op_sub (peFld (K := K) (pv 0) rfl) (pe_op op_sub (peFld (K := K) (pv 0) rfl) (peFld (K := K) (pv 0) rfl))))), ?_⟩
    obtain ⟨kl, ts, eG, hob, hkl, hka⟩ := hL
    walk_at "go"
    refine o_fld hob T.k_Log.cl T.n_Log__ring (lf_r _ _ _) ?_
    walk_at "go"
    refine o_fld hob T.k_Log.cl T.n_Log__next_k (lf_nk _ _ _) ?_
    walk_at "go"
    refine o_fld hob T.k_Log.cl T.n_Log__begin_k (lf_bk _ _ _) ?_
    walk_at "go"
    exact k
def sp_forced (K : PySem.W.Frag) (C : Addr) : Sp := fun vs H Q _ => ∃ q p G L f, vs = [.ref q] ∧ LS K C H q p G L ∧ L.fo = some f ∧ Q (.int f) H
theorem ok_Log_forced (T : Txt K mg) : FnOk P w K mg base CX0 1 T.m_Log_forced.f T.m_Log_forced.fd ["self"] ((sp_forced K T.C_Log)) := by
  refine T.m_Log_forced.F.ok sc_Log_forced (fun vs H Q E h => ?_) (fun cdv A outer s H vs Q E hr h => ?_)
  · obtain ⟨q, p, G, L, f, rfl, _⟩ := h
    rfl
  · obtain ⟨q, p, G, L, f, rfl, hL, hf, k⟩ := h
    refine ⟨_, (pss_one (ps_ret (peFld (K := K) (pv 0) rfl))), ?_⟩
    obtain ⟨kl, ts, eG, hob, hkl, hka⟩ := hL
    walk_at "go"
    refine o_fld hob T.k_Log.cl T.n_Log__forced (lf_f _ _ _ _ hf) ?_
    walk_at "go"
    exact k
def sp_block (K : PySem.W.Frag) (C : Addr) : Sp := fun vs H Q _ => ∃ q p G L, ∃ k : Nat, vs = [.ref q, .int k] ∧ LS K C H q p G L ∧ 0 < L.ring ∧ Q (.int (1 + (k % L.ring : Nat))) H
theorem ok_Log__block (T : Txt K mg) : FnOk P w K mg base CX0 1 T.m_Log__block.f T.m_Log__block.fd ["self", "k"] ((sp_block K T.C_Log)) := by
  refine T.m_Log__block.F.ok sc_Log__block (fun vs H Q E h => ?_) (fun cdv A outer s H vs Q E hr h => ?_)
  · obtain ⟨q, p, G, L, n, rfl, _⟩ := h
    rfl
  · obtain ⟨q, p, G, L, n, rfl, hL, h0, k⟩ := h
    refine ⟨_, (pss_one (ps_ret (pe_op oAdd pe_int (pe_op op_mod (pv 1) (peFld (K := K) (pv 0) rfl))))), ?_⟩
    obtain ⟨kl, ts, eG, hob, hkl, hka⟩ := hL
    walk_at "go"
    refine o_fld hob T.k_Log.cl T.n_Log__ring (lf_r _ _ _) ?_
    walk_at "go"
    rw [Int.natCast_emod] at k
    exact k
/-- the running number of the first block of the i-th record, or of the next one -/
def LD.fk (L : LD) (i : Nat) : Nat := match L.kept[i]? with
  | some r => r.2.1
  | none => L.nk
def sp_first_k (K : PySem.W.Frag) (C : Addr) : Sp := fun vs H Q _ => ∃ q p G L, ∃ i : Nat, vs = [.ref q, .int ((L.bg : Int) + i)] ∧ LS K C H q p G L ∧ L.kept.length ≤ 10000 ∧ Q (.int (L.fk i)) H
theorem ok_Log__first_k (T : Txt K mg) : FnOk P w K mg base CX0 2 T.m_Log__first_k.f T.m_Log__first_k.fd ["self", "number"] ((sp_first_k K T.C_Log)) := by
  refine T.m_Log__first_k.F.ok sc_Log__first_k (fun vs H Q E h => ?_) (fun cdv A outer s H vs Q E hr h => ?_)
  · obtain ⟨q, p, G, L, i, rfl, _⟩ := h
    rfl
  · obtain ⟨q, p, G, L, i, rfl, hL, hn, k⟩ := h
    refine ⟨_, (pss_cons (ps_if (pt_cmpR op_gt (pv 1) (pe_meth0 (pv 0) T.k_Log.cl T.m_Log_last.i (ok_Log_last T) (hr.mono (by decide)) T.m_Log_last.b .nil pass0) (nomark _)) (pss_one (ps_ret (peFld (K := K) (pv 0) rfl))) pss_nil)
    (pss_one (ps_ret (pe_ix (ixLT (K := K)) (pe_ix (ixLT (K := K)) (peFld (K := K) (pv 0) rfl) (pe_op op_sub (pv 1) (peFld (K := K) (pv 0) rfl)) (fun _ _ => rfl)) pe_int (fun _ _ => rfl))))), ?_⟩
    have hL' := hL
    obtain ⟨kl, ts, eG, hob, hkl, hka⟩ := hL
    walk_at "go"
    refine m_call0 hob (lf_no _ _ _ (by decide +kernel)) ?_
    walk_at "go"
    refine ⟨q, p, G, L, rfl, hL', hn, ?_⟩
    walk_at "go"
    unfold LD.fk at k
    refine i_d (fun z => ?_) (fun z => ?_)
    · unfold LD.last at z
      rw [List.getElem?_eq_none (by omega)] at k
      walk_at "go"
      refine o_fld hob T.k_Log.cl T.n_Log__next_k (lf_nk _ _ _) ?_
      walk_at "go"
      exact k
    · unfold LD.last at z
      have hi : i < L.kept.length := by omega
      have hi2 : i < ts.length := by have := hka.1; omega
      rw [List.getElem?_eq_getElem hi] at k
      obtain ⟨a, ht, ha⟩ := hka.2 i _ _ (List.getElem?_eq_getElem hi2) (List.getElem?_eq_getElem hi)
      walk_at "go"
      refine o_fld hob T.k_Log.cl T.n_Log__kept (lf_k _ _ _) ?_
      walk_at "go"
      refine o_fld hob T.k_Log.cl T.n_Log__begin (lf_b _ _ _) ?_
      walk_at "go"
      refine o_ixA hkl (atI_in (j := i) (by omega) (by rw [List.getElem?_map, List.getElem?_eq_getElem hi2]; rfl)) ?_
      walk_at "go"
      exact k
end
end Vw

set_option Elab.async false
set_option linter.all false
set_option maxRecDepth 100000
set_option maxHeartbeats 4000000
namespace Vw
open PySem PySem.Spec PyProof.Rows L2 RT
local macro_rules | `(tactic| walk_at "s") => `(tactic| with_reducible first
  | refine' s_seq ?_ | refine' s_next ?_ | refine' s_set ?_ | refine' s_ret ?_ | refine' s_retN ?_ | refine' s_drop ?_ | refine' s_if ?_ | refine' s_ipI ?_
  | refine' e_c ?_ | refine' e_op ?_ | refine' e_un ?_ | refine' e_neg ?_ | refine' e_test ?_ | refine' e_tB ?_ | refine' e_bl ?_ | refine' e_and ?_ | refine' e_or ?_ | refine' e_not ?_
  | refine' e_andV ?_ | refine' e_orV ?_ | refine' e_notV ?_ | refine' e_kV ?_ | refine' e_ife ?_ | refine' e_nil ?_ | refine' e_cons ?_ | refine' e_cb ?_ | refine' e_call ?_ | refine' e_chain ?_
  | refine' o_addI ?_ | refine' o_eqI ?_ | refine' o_neI ?_ | refine' o_I0 ?_ | refine' o_pow16 ?_ | refine' o_pow17 ?_ | refine' o_pow18 ?_ | refine' o_pow19 ?_ | refine' o_pow30 ?_ | refine' o_pow31 ?_ | refine' o_pow1 ?_ | refine' o_pow2 ?_ | refine' o_pow3 ?_ | refine' o_pow4 ?_ | refine' o_pow5 ?_ | refine' o_pow6 ?_ | refine' o_pow9 ?_ | refine' o_pow10 ?_ | refine' o_pow12 ?_ | refine' o_pow15 ?_ | refine' o_pow20 ?_ | refine' e_lst ?_ | refine' e_tup ?_ | refine' iteT ?_ | refine' i_nt ?_ | refine' i_nf ?_ | refine' iteF ?_ | refine' c_int ?_ | refine' c_abs ?_ | refine' c_min2 ?_ | refine' c_max2 ?_ | refine' e_tru ?_ | refine' t_bl ?_ | refine' t_non ?_ | refine' t_int ?_ | refine' isN_non ?_ | refine' isN_int ?_ | refine' isN_ref ?_ | refine' isN_str ?_ | refine' isN_bl ?_ | refine' noN_non ?_ | refine' noN_int ?_ | refine' noN_ref ?_ | refine' noN_str ?_ | refine' noN_bl ?_
  | refine' s_brk ?_ | refine' s_cont ?_ | refine' s_for ?_ | refine' e_lc ?_ | refine' e_dc ?_ | refine' e_yes ?_ | refine' i_rng1 ?_ | refine' i_lst0 ?_ | refine' i_tup0 ?_ | refine' e_bm ?_ | refine' e_sl ?_ | refine' e_np ?_ | refine' e_pt ?_ | refine' e_ptI ?_ | refine' e_din ?_ | refine' e_dnin ?_ | refine' e_methE ?_ | refine' p_cons ?_ | refine' p_nil ?_ | refine' s_dput ?_ | refine' e_dget2 ?_ | refine' e_dpop1 ?_ | refine' i_enum0 ?_ | refine' i_rev0 ?_ | refine' g_sub ?_ | refine' s_asg ?_ | refine' i_zip0 ?_ | refine' e_revT ?_ | refine' isB_bl ?_ | refine' notB_bl ?_ | refine' o_neB ?_ | refine' i_nrr ?_ | refine' e_meth ?_ | refine' s_setf ?_ | refine' e_fld ?_ | refine' e_bm0 ?_ | refine' r_tx ?_ | refine' o_eqStr ?_ | refine' o_neStr ?_)
local macro_rules | `(tactic| walk_at "v") => `(tactic| ((with_reducible refine' e_var ?hv ?_); (case hv => exact rfl)))
local macro_rules | `(tactic| walk_at "a") => `(tactic| ((with_reducible refine' s_aug ?hv ?_); (case hv => exact rfl)))
local macro_rules | `(tactic| walk_at "m") => `(tactic| first
  | ((with_reducible refine' o_mod ?hv ?_); (case hv => first | decide | omega))
  | ((with_reducible refine' o_mulR ?hv ?_); (case hv => omega))
  | ((with_reducible refine' o_mulL ?hv ?_); (case hv => omega))
  | ((with_reducible refine' o_div ?hv ?hw ?_); (case hv => omega); (case hw => omega))
  | ((with_reducible refine' o_pow _ ?hv ?hw ?hx ?_); (case hv => exact rfl); (case hw => decide); (case hx => decide)))
local macro_rules | `(tactic| walk_at "i") => `(tactic| (first
  | ((with_reducible refine' isi_int true ?hv ?_); (case hv => exact (by decide +kernel)))
  | ((with_reducible refine' isi_int false ?hv ?_); (case hv => exact (by decide +kernel)))
  | ((with_reducible refine' isi_non true ?hv ?_); (case hv => exact (by decide +kernel)))
  | ((with_reducible refine' isi_non false ?hv ?_); (case hv => exact (by decide +kernel)))
  | ((with_reducible refine' isi_str true ?hv ?_); (case hv => exact (by decide +kernel)))
  | ((with_reducible refine' isi_str false ?hv ?_); (case hv => exact (by decide +kernel)))
  | ((with_reducible refine' isi_bl true ?hv ?_); (case hv => exact (by decide +kernel)))
  | ((with_reducible refine' isi_bl false ?hv ?_); (case hv => exact (by decide +kernel)))
  | ((with_reducible refine' isi_t true ?hw ?hv ?_); (case hw => assumption); (case hv => exact (by decide +kernel)))
  | ((with_reducible refine' isi_t false ?hw ?hv ?_); (case hw => assumption); (case hv => exact (by decide +kernel)))
  | ((with_reducible refine' isi_l true ?hw ?hv ?_); (case hw => assumption); (case hv => exact (by decide +kernel)))
  | ((with_reducible refine' isi_l false ?hw ?hv ?_); (case hw => assumption); (case hv => exact (by decide +kernel)))
  | ((with_reducible refine' isi_tup true ?hw ?hv ?_); (case hw => assumption); (case hv => exact (by decide +kernel)))
  | ((with_reducible refine' isi_tup false ?hw ?hv ?_); (case hw => assumption); (case hv => exact (by decide +kernel)))
  | ((with_reducible refine' isi_lst true ?hw ?hv ?_); (case hw => assumption); (case hv => exact (by decide +kernel)))
  | ((with_reducible refine' isi_lst false ?hw ?hv ?_); (case hw => assumption); (case hv => exact (by decide +kernel)))))
local macro_rules | `(tactic| walk_at "om") => `(tactic| first | omega | (simp only [List.length_cons, List.length_nil, List.length_map, List.length_append, List.length_range]; omega))
local macro_rules | `(tactic| walk_at "d") => `(tactic| (first
  | ((with_reducible refine' i_dt ?hv ?_); (case hv => walk_at "om"))
  | ((with_reducible refine' i_df ?hv ?_); (case hv => walk_at "om"))
  | ((with_reducible refine' i_ndt ?hv ?_); (case hv => walk_at "om"))
  | ((with_reducible refine' i_ndf ?hv ?_); (case hv => walk_at "om"))))
local macro_rules | `(tactic| walk_at "x") => `(tactic| first
  | ((with_reducible refine' o_ixA ?hv ?hw ?_); (case hv => assumption); (case hw => exact rfl))
  | ((with_reducible refine' o_ixU ?hv ?hw ?_); (case hv => assumption); (case hw => exact rfl))
  | ((with_reducible refine' o_ixL ?hv ?hw ?_); (case hv => assumption); (case hw => exact rfl))
  | ((with_reducible refine' o_ixT ?hv ?hw ?_); (case hv => assumption); (case hw => exact rfl))
  | ((with_reducible refine' set_ ?hv ?hw ?_); (case hv => assumption); (case hw => exact rfl))
  | ((with_reducible refine' e_lenM ?hv ?_); (case hv => first | assumption | exact slO (by assumption)))
  | ((with_reducible refine' e_lenN ?hv ?_); (case hv => first | assumption | exact stO (by assumption)))
  | ((with_reducible refine' e_lenL ?hv ?_); (case hv => first | assumption | exact slO (by assumption)))
  | ((with_reducible refine' e_lenT ?hv ?_); (case hv => first | assumption | exact stO (by assumption))))
local macro_rules | `(tactic| walk_at "c") => `(tactic| first
  | ((with_reducible refine' c_listL ?hv ?_); (case hv => assumption))
  | ((with_reducible refine' c_listT ?hv ?_); (case hv => assumption))
  | ((with_reducible refine' c_tupL ?hv ?_); (case hv => first | assumption | exact slO (by assumption)))
  | ((with_reducible refine' c_tupT ?hv ?_); (case hv => assumption))
  | ((with_reducible refine' t_lst ?hv ?_); (case hv => first | assumption | exact slO (by assumption)))
  | ((with_reducible refine' t_tup ?hv ?_); (case hv => assumption))
  | ((with_reducible refine' r_sl ?hv ?_); (case hv => first | assumption | exact slO (by assumption)))
  | ((with_reducible refine' o_inL ?hv ?_); (case hv => first | assumption | exact slO (by assumption)))
  | ((with_reducible refine' o_inT ?hv ?_); (case hv => first | assumption | exact stO (by assumption)))
  | ((with_reducible refine' o_niL ?hv ?_); (case hv => first | assumption | exact slO (by assumption)))
  | ((with_reducible refine' o_niT ?hv ?_); (case hv => first | assumption | exact stO (by assumption)))
  | ((with_reducible refine' ty_lst ?hv ?_); (case hv => assumption)))
local macro_rules | `(tactic| walk_at "mo") => `(tactic| repeat' (first | exact m_yes | exact m_var | exact m_c | exact m_I0 | exact m_I | exact m_ix | exact m_add | exact m_in | exact m_int1 | exact m_abs | exact m_nil | refine' m_and ?_ ?_ | refine' m_test ?_ | refine' m_tB ?_ | refine' m_op ?_ ?_ ?_ | refine' m_cons ?_ ?_ | refine' m_cb ?_ ?_))
local macro_rules | `(tactic| walk_at "go") => `(tactic| repeat' (first | walk_at "s" | walk_at "v" | walk_at "a" | walk_at "x" | walk_at "m" | walk_at "c" | walk_at "i" | walk_at "d"))

section
variable {P : Program} {w : World} {K : PySem.W.Frag} {mg : Str → Option Value} {base : Heap}
/-! ### a record more -/
def LD.more (L : LD) (xs : List V) (e : Nat) : LD := { L with nk := L.nk + cutN xs, kept := L.kept ++ [(xs, L.nk, e)] }
def sp_keep (K : PySem.W.Frag) (C : Addr) : Sp := fun vs H Q _ => ∃ (q p : Addr) (G : List Addr) (L : LD) (a : Addr) (xs : List V) (e : Nat), vs = [.ref q, .ref a, .int e] ∧ LS K C H q p G L ∧ L.kept.length ≤ 10000 ∧ SqT K H a xs ∧ xs.length ≤ 30000 ∧ ∀ H', LS K C H' q p G (L.more xs e) → Ch G H H' → Q .non H'
theorem ok_Log__keep (T : Txt K mg) : FnOk P w K mg base CX0 2 T.m_Log__keep.f T.m_Log__keep.fd ["self", "record", "epoch"] ((sp_keep K T.C_Log)) := by
  refine T.m_Log__keep.F.ok sc_Log__keep (fun vs H Q E h => ?_) (fun cdv A outer s H vs Q E hr h => ?_)
  · obtain ⟨q, p, G, L, a, xs, e, rfl, _⟩ := h
    rfl
  · obtain ⟨q, p, G, L, a, xs, e, rfl, hL, hn, ha, hl, k⟩ := h
    refine ⟨_, (pss_cons (ps_expr (peApp (K := K) (pe_bm PySem.F.plainAttrs_list PySem.F.slot_list_append PySem.F.type_list_append mt_append (peFld (K := K) (pv 0) rfl) (pa_cons (pe_tup (pa_cons (pv 1) (pa_cons (peFld (K := K) (pv 0) rfl) (pa_cons (pv 2) pa_nil)))) pa_nil))))
    (pss_one (ps_fldaug (pv 0) (pe_callB (cLen (K := K)) (by rfl) T.z_len PySem.boot_len (pa_cons (pe_call (ok_pieces_of T) (hr.mono (by decide)) (by rfl) T.pieces_of.g T.pieces_of.F.kp T.pieces_of.b .nil pass0 (pa_cons (pv 1) pa_nil)) pa_nil)) in_add))), ?_⟩
    obtain ⟨kl, ts, eG, ⟨dx, hob⟩, hkl, hka⟩ := hL
    have nqk : q ≠ kl := fun z => by rw [z, hkl] at hob; cases hob
    walk_at "go"
    refine o_fld ⟨dx, hob⟩ T.k_Log.cl T.n_Log__kept (lf_k _ _ _) ?_
    walk_at "go"
    refine o_fld ⟨dx, hob⟩ T.k_Log.cl T.n_Log__next_k (lf_nk _ _ _) ?_
    walk_at "go"
    refine n_new (le_size (by simp)) fun t H1 n1 s1 h1 => ?_
    have hkl1 := s1 _ _ hkl
    walk_at "go"
    refine r_app hkl1 (by rw [List.length_map, hka.1]; omega) fun H2 o2 h2 => ?_
    have c12 : Ch [kl] H1 H2 := Ch.of_oth o2 (by simp) fun o e => by rw [hkl1] at e; cases e; rfl
    have hob2 := o2 _ _ nqk (s1 _ _ hob)
    have ha2 := c12.st (st_ s1 ha)
    walk_at "go"
    refine ⟨_, rfl, q, T.C_Log, dx, _, _, rfl, hob2, T.k_Log.cl, T.n_Log__next_k, lf_nk _ _ _, ?_⟩
    walk_at "go"
    refine ⟨a, xs, rfl, ha2, hl, fun D cs H3 s3 n3 h3 t3 => ?_⟩
    walk_at "go"
    have ec : cs.length = cutN xs := by rw [t3.1, cutUp_length]
    refine ⟨_, _, rfl, rfl, dx, _, s3 _ _ hob2, lf_len _ _ _, ?_⟩
    have en : (L.nk : Int) + (cs.length : Nat) = ((L.nk + cutN xs : Nat) : Int) := by rw [ec]; omega
    rw [en, lf_pn]
    have c34 : Ch [q] H3 (upd H3 q (.ins T.C_Log dx (lf p kl { L with nk := L.nk + cutN xs }))) := Ch.upd1 (by simp) fun o e => by rw [s3 _ _ hob2] at e; cases e; rfl
    have kp : ∀ c ys, SqT K H1 c ys → SqT K (upd H3 q (.ins T.C_Log dx (lf p kl { L with nk := L.nk + cutN xs }))) c ys := fun c ys h => c34.st (st_ s3 (c12.st h))
    refine k _ ⟨kl, ts ++ [t], eG, ⟨dx, upd_same⟩, ?_, ?_⟩ ?_
    · rw [upd_ne (Ne.symm nqk), List.map_append]; exact s3 _ _ h2
    · exact (hka.st fun c ys h => kp c ys (st_ s1 h)).snoc (a := a) (r := (xs, L.nk, e)) (kp _ _ (stO h1)) (kp _ _ (st_ s1 ha))
    · subst eG
      exact fun b o e c => (c34.mono (F' := [q, kl]) (by simp)) b o (s3 _ _ ((c12.mono (F' := [q, kl]) (by simp)) b o (s1 _ _ e) c)) c
/-! ### the records told -/
def LD.pairs (L : LD) : List (Int × List V) := (List.range L.kept.length).map fun i : Nat => ((L.bg : Int) + (i : Nat), (L.kept.getD i ([], 0, 0)).1)
def PairsTo (K : PySem.W.Frag) (H : Hp) (ts : List Addr) (rs : List (Int × List V)) : Prop := ts.length = rs.length ∧ ∀ (i : Nat) (t : Addr) (r : Int × List V), ts[i]? = some t → rs[i]? = some r → ∃ a, SqT K H t [.int r.1, .ref a] ∧ SqT K H a r.2
theorem PairsTo.st {H H' : Hp} {ts : List Addr} {rs : List (Int × List V)} (h : PairsTo K H ts rs) (k : ∀ c xs, SqT K H c xs → SqT K H' c xs) : PairsTo K H' ts rs := ⟨h.1, fun i t r a b => (h.2 i t r a b).elim fun x q => ⟨x, k _ _ q.1, k _ _ q.2⟩⟩
theorem pairsTo_snoc {H : Hp} {ts : List Addr} {rs : List (Int × List V)} {t a : Addr} {r : Int × List V} (h : PairsTo K H ts rs) (h1 : SqT K H t [.int r.1, .ref a]) (h2 : SqT K H a r.2) : PairsTo K H (ts ++ [t]) (rs ++ [r]) := by
  refine ⟨by rw [List.length_append, List.length_append, h.1]; rfl, fun i d ys x y => ?_⟩
  have l := h.1
  by_cases hi : i < ts.length
  · rw [List.getElem?_append_left hi] at x
    rw [List.getElem?_append_left (by omega)] at y
    exact h.2 i d ys x y
  · rw [List.getElem?_append_right (by omega)] at x
    rw [List.getElem?_append_right (by omega)] at y
    rw [l] at x
    cases e : i - rs.length with
    | zero =>
      rw [e] at x y
      cases x; cases y; exact ⟨a, h1, h2⟩
    | succ n => rw [e] at x; cases x
def sp_records (K : PySem.W.Frag) (C : Addr) : Sp := fun vs H Q _ => ∃ q p G L, vs = [.ref q] ∧ LS K C H q p G L ∧ L.kept.length ≤ 10000 ∧ ∀ D ts H', Same H H' → H D = none → H' D = some (.lst (ts.map V.ref)) → PairsTo K H' ts L.pairs → Q (.ref D) H'
theorem ok_Log_records (T : Txt K mg) : FnOk P w K mg base CX0 1 T.m_Log_records.f T.m_Log_records.fd ["self"] ((sp_records K T.C_Log)) := by
  refine T.m_Log_records.F.ok sc_Log_records (fun vs H Q E h => ?_) (fun cdv A outer s H vs Q E hr h => ?_)
  · obtain ⟨q, p, G, L, rfl, _⟩ := h
    rfl
  · obtain ⟨q, p, G, L, rfl, hL, hn, k⟩ := h
    refine ⟨_, (pss_one (ps_ret (pe_lc (own := [("place", 1), ("row", 2)]) rfl sc_Log_records.nd (piEnumT (K := K) (by rfl) T.z_enumerate (pa_cons (peFld (K := K) (pv 0) rfl) pa_nil)) (blkOk_by (N := n_Log_records) (sc := defScope s_Log_records) (by decide +kernel)) (fun _ _ _ _ _ => (pgTup (K := K) (n := 2) (pg_tup (n := 2) rfl (pgs_cons (pg_name (i := 1) sc_Log_records.nd rfl (Or.inl rfl)) (pgs_cons (pg_name (i := 2) sc_Log_records.nd rfl (Or.inl rfl)) pgs_nil))))) (fun _ _ _ _ _ => pts_nil) (fun _ _ _ _ _ => (pe_tup (pa_cons (pe_op oAdd (peFld (K := K) (pv 0) rfl) (pv 1)) (pa_cons (pe_ix (ixLT (K := K)) (pv 2) pe_int (fun _ _ => rfl)) pa_nil))))))), ?_⟩
    obtain ⟨kl, ts, eG, ⟨dx, hob⟩, hkl, hka⟩ := hL
    walk_at "go"
    refine o_fld ⟨dx, hob⟩ T.k_Log.cl T.n_Log__kept (lf_k _ _ _) ?_
    walk_at "go"
    refine i_enumX (.inl (slO hkl)) (Same.refl _) fun J G hG hW => ?_
    refine c_it hW (fun i acc H2 => Same H H2 ∧ ∃ us, acc = us.map V.ref ∧ PairsTo K H2 us (L.pairs.take i)) (fun D hD => ⟨upd_free (Same.refl _) hD, [], rfl, rfl, fun i t r a => by cases a⟩) (fun i acc H2 hi p => hG _ p.1) (fun acc D H2 hD hp p => ?_) (fun i x acc H2 H3 D hi hD hp p y => ?_)
    · obtain ⟨s2, us, rfl, pt⟩ := p
      have el : (ts.map V.ref).length = L.pairs.length := by
        unfold LD.pairs
        rw [List.length_map, List.length_map, List.length_range, hka.1]
      rw [el, List.take_length] at pt
      exact k D us H2 s2 hD hp pt
    · obtain ⟨s2, us, rfl, pt⟩ := p
      obtain ⟨Tp, x1, x2, rfl, nT, rfl, e1, e2⟩ := y
      have hi' : i < ts.length := by simpa using hi
      have hi2 : i < L.kept.length := by rw [← hka.1]; exact hi'
      have ex1 : x1 = .int (i : Nat) := (Option.some.inj e1).symm
      have e2 : (ts.map V.ref)[i]? = some x2 := e2
      have ex2 : x2 = .ref ts[i] := by
        rw [List.getElem?_map, List.getElem?_eq_getElem hi'] at e2
        exact (Option.some.inj e2).symm
      subst ex1 ex2
      obtain ⟨a, ht, ha⟩ := hka.2 i _ _ (List.getElem?_eq_getElem hi') (List.getElem?_eq_getElem hi2)
      have s23 : Same H2 (upd H2 Tp (.tup [.int (i : Nat), .ref ts[i]])) := Same.new nT
      refine g_pair upd_same ⟨rfl, ?_⟩
      generalize upd H2 Tp (.tup [.int (i : Nat), .ref ts[i]]) = H3 at s23
      have s3 := s2.trans s23
      have ht3 := st_ s3 ht
      have ha3 := st_ s3 ha
      walk_at "go"
      refine o_fld ⟨dx, s3 _ _ hob⟩ T.k_Log.cl T.n_Log__begin (lf_b _ _ _) ?_
      walk_at "go"
      refine n_new (le_size (by simp)) fun t4 H4 n4 s4 h4 => ?_
      have hp4 := s4 _ _ (s23 _ _ hp)
      have ll : us.length = i := by
        rw [pt.1, List.length_take]
        unfold LD.pairs
        rw [List.length_map, List.length_range]; omega
      have c5 : Ch [D] H4 (upd H4 D (.lst (us.map V.ref ++ [V.ref t4]))) := Ch.upd1 (by simp) fun o e => by rw [hp4] at e; cases e; rfl
      refine ⟨_, hp4, lt_size (by rw [List.length_map]; omega), _, upd_same, upd_free (s3.trans s4) hD, us ++ [t4], by rw [List.map_append]; rfl, ?_⟩
      have ep : L.pairs[i]? = some ((L.bg : Int) + (i : Nat), (L.kept[i]).1) := by
        unfold LD.pairs
        rw [List.getElem?_map, List.getElem?_range hi2]
        show some ((L.bg : Int) + (i : Nat), (L.kept.getD i ([], 0, 0)).1) = _
        rw [List.getD_eq_getElem?_getD, List.getElem?_eq_getElem hi2]; rfl
      rw [List.take_add_one, ep]
      refine pairsTo_snoc (PairsTo.st pt fun c ys h => c5.st (st_ (s23.trans s4) h)) (a := a) (c5.st (stO h4)) (c5.st (st_ s4 ha3))
end
end Vw

set_option Elab.async false
set_option linter.all false
set_option maxRecDepth 100000
set_option maxHeartbeats 4000000
namespace Vw
open PySem PySem.Spec PyProof.Rows L2 RT
local macro_rules | `(tactic| walk_at "s") => `(tactic| with_reducible first
  | refine' s_seq ?_ | refine' s_next ?_ | refine' s_set ?_ | refine' s_ret ?_ | refine' s_retN ?_ | refine' s_drop ?_ | refine' s_if ?_ | refine' s_ipI ?_
  | refine' e_c ?_ | refine' e_op ?_ | refine' e_un ?_ | refine' e_neg ?_ | refine' e_test ?_ | refine' e_tB ?_ | refine' e_bl ?_ | refine' e_and ?_ | refine' e_or ?_ | refine' e_not ?_
  | refine' e_andV ?_ | refine' e_orV ?_ | refine' e_notV ?_ | refine' e_kV ?_ | refine' e_ife ?_ | refine' e_nil ?_ | refine' e_cons ?_ | refine' e_cb ?_ | refine' e_call ?_ | refine' e_chain ?_
  | refine' o_addI ?_ | refine' o_eqI ?_ | refine' o_neI ?_ | refine' o_I0 ?_ | refine' o_pow16 ?_ | refine' o_pow17 ?_ | refine' o_pow18 ?_ | refine' o_pow19 ?_ | refine' o_pow30 ?_ | refine' o_pow31 ?_ | refine' o_pow1 ?_ | refine' o_pow2 ?_ | refine' o_pow3 ?_ | refine' o_pow4 ?_ | refine' o_pow5 ?_ | refine' o_pow6 ?_ | refine' o_pow9 ?_ | refine' o_pow10 ?_ | refine' o_pow12 ?_ | refine' o_pow15 ?_ | refine' o_pow20 ?_ | refine' e_lst ?_ | refine' e_tup ?_ | refine' iteT ?_ | refine' i_nt ?_ | refine' i_nf ?_ | refine' iteF ?_ | refine' c_int ?_ | refine' c_abs ?_ | refine' c_min2 ?_ | refine' c_max2 ?_ | refine' e_tru ?_ | refine' t_bl ?_ | refine' t_non ?_ | refine' t_int ?_ | refine' isN_non ?_ | refine' isN_int ?_ | refine' isN_ref ?_ | refine' isN_str ?_ | refine' isN_bl ?_ | refine' noN_non ?_ | refine' noN_int ?_ | refine' noN_ref ?_ | refine' noN_str ?_ | refine' noN_bl ?_
  | refine' s_brk ?_ | refine' s_cont ?_ | refine' s_for ?_ | refine' e_lc ?_ | refine' e_dc ?_ | refine' e_yes ?_ | refine' i_rng1 ?_ | refine' i_lst0 ?_ | refine' i_tup0 ?_ | refine' e_bm ?_ | refine' e_sl ?_ | refine' e_np ?_ | refine' e_pt ?_ | refine' e_ptI ?_ | refine' e_din ?_ | refine' e_dnin ?_ | refine' e_methE ?_ | refine' p_cons ?_ | refine' p_nil ?_ | refine' s_dput ?_ | refine' e_dget2 ?_ | refine' e_dpop1 ?_ | refine' i_enum0 ?_ | refine' i_rev0 ?_ | refine' g_sub ?_ | refine' s_asg ?_ | refine' i_zip0 ?_ | refine' e_revT ?_ | refine' isB_bl ?_ | refine' notB_bl ?_ | refine' o_neB ?_ | refine' i_nrr ?_ | refine' e_meth ?_ | refine' s_setf ?_ | refine' e_fld ?_ | refine' e_bm0 ?_ | refine' r_tx ?_ | refine' o_eqStr ?_ | refine' o_neStr ?_)
local macro_rules | `(tactic| walk_at "v") => `(tactic| ((with_reducible refine' e_var ?hv ?_); (case hv => exact rfl)))
local macro_rules | `(tactic| walk_at "a") => `(tactic| ((with_reducible refine' s_aug ?hv ?_); (case hv => exact rfl)))
local macro_rules | `(tactic| walk_at "m") => `(tactic| first
  | ((with_reducible refine' o_mod ?hv ?_); (case hv => first | decide | omega))
  | ((with_reducible refine' o_mulR ?hv ?_); (case hv => omega))
  | ((with_reducible refine' o_mulL ?hv ?_); (case hv => omega))
  | ((with_reducible refine' o_div ?hv ?hw ?_); (case hv => omega); (case hw => omega))
  | ((with_reducible refine' o_pow _ ?hv ?hw ?hx ?_); (case hv => exact rfl); (case hw => decide); (case hx => decide)))
local macro_rules | `(tactic| walk_at "i") => `(tactic| (first
  | ((with_reducible refine' isi_int true ?hv ?_); (case hv => exact (by decide +kernel)))
  | ((with_reducible refine' isi_int false ?hv ?_); (case hv => exact (by decide +kernel)))
  | ((with_reducible refine' isi_non true ?hv ?_); (case hv => exact (by decide +kernel)))
  | ((with_reducible refine' isi_non false ?hv ?_); (case hv => exact (by decide +kernel)))
  | ((with_reducible refine' isi_str true ?hv ?_); (case hv => exact (by decide +kernel)))
  | ((with_reducible refine' isi_str false ?hv ?_); (case hv => exact (by decide +kernel)))
  | ((with_reducible refine' isi_bl true ?hv ?_); (case hv => exact (by decide +kernel)))
  | ((with_reducible refine' isi_bl false ?hv ?_); (case hv => exact (by decide +kernel)))
  | ((with_reducible refine' isi_t true ?hw ?hv ?_); (case hw => assumption); (case hv => exact (by decide +kernel)))
  | ((with_reducible refine' isi_t false ?hw ?hv ?_); (case hw => assumption); (case hv => exact (by decide +kernel)))
  | ((with_reducible refine' isi_l true ?hw ?hv ?_); (case hw => assumption); (case hv => exact (by decide +kernel)))
  | ((with_reducible refine' isi_l false ?hw ?hv ?_); (case hw => assumption); (case hv => exact (by decide +kernel)))
  | ((with_reducible refine' isi_tup true ?hw ?hv ?_); (case hw => assumption); (case hv => exact (by decide +kernel)))
  | ((with_reducible refine' isi_tup false ?hw ?hv ?_); (case hw => assumption); (case hv => exact (by decide +kernel)))
  | ((with_reducible refine' isi_lst true ?hw ?hv ?_); (case hw => assumption); (case hv => exact (by decide +kernel)))
  | ((with_reducible refine' isi_lst false ?hw ?hv ?_); (case hw => assumption); (case hv => exact (by decide +kernel)))))
local macro_rules | `(tactic| walk_at "om") => `(tactic| first | omega | (simp only [List.length_cons, List.length_nil, List.length_map, List.length_append, List.length_range]; omega))
local macro_rules | `(tactic| walk_at "d") => `(tactic| (first
  | ((with_reducible refine' i_dt ?hv ?_); (case hv => walk_at "om"))
  | ((with_reducible refine' i_df ?hv ?_); (case hv => walk_at "om"))
  | ((with_reducible refine' i_ndt ?hv ?_); (case hv => walk_at "om"))
  | ((with_reducible refine' i_ndf ?hv ?_); (case hv => walk_at "om"))))
local macro_rules | `(tactic| walk_at "x") => `(tactic| first
  | ((with_reducible refine' o_ixA ?hv ?hw ?_); (case hv => assumption); (case hw => exact rfl))
  | ((with_reducible refine' o_ixU ?hv ?hw ?_); (case hv => assumption); (case hw => exact rfl))
  | ((with_reducible refine' o_ixL ?hv ?hw ?_); (case hv => assumption); (case hw => exact rfl))
  | ((with_reducible refine' o_ixT ?hv ?hw ?_); (case hv => assumption); (case hw => exact rfl))
  | ((with_reducible refine' set_ ?hv ?hw ?_); (case hv => assumption); (case hw => exact rfl))
  | ((with_reducible refine' e_lenM ?hv ?_); (case hv => first | assumption | exact slO (by assumption)))
  | ((with_reducible refine' e_lenN ?hv ?_); (case hv => first | assumption | exact stO (by assumption)))
  | ((with_reducible refine' e_lenL ?hv ?_); (case hv => first | assumption | exact slO (by assumption)))
  | ((with_reducible refine' e_lenT ?hv ?_); (case hv => first | assumption | exact stO (by assumption))))
local macro_rules | `(tactic| walk_at "c") => `(tactic| first
  | ((with_reducible refine' c_listL ?hv ?_); (case hv => assumption))
  | ((with_reducible refine' c_listT ?hv ?_); (case hv => assumption))
  | ((with_reducible refine' c_tupL ?hv ?_); (case hv => first | assumption | exact slO (by assumption)))
  | ((with_reducible refine' c_tupT ?hv ?_); (case hv => assumption))
  | ((with_reducible refine' t_lst ?hv ?_); (case hv => first | assumption | exact slO (by assumption)))
  | ((with_reducible refine' t_tup ?hv ?_); (case hv => assumption))
  | ((with_reducible refine' r_sl ?hv ?_); (case hv => first | assumption | exact slO (by assumption)))
  | ((with_reducible refine' o_inL ?hv ?_); (case hv => first | assumption | exact slO (by assumption)))
  | ((with_reducible refine' o_inT ?hv ?_); (case hv => first | assumption | exact stO (by assumption)))
  | ((with_reducible refine' o_niL ?hv ?_); (case hv => first | assumption | exact slO (by assumption)))
  | ((with_reducible refine' o_niT ?hv ?_); (case hv => first | assumption | exact stO (by assumption)))
  | ((with_reducible refine' ty_lst ?hv ?_); (case hv => assumption)))
local macro_rules | `(tactic| walk_at "mo") => `(tactic| repeat' (first | exact m_yes | exact m_var | exact m_c | exact m_I0 | exact m_I | exact m_ix | exact m_add | exact m_in | exact m_int1 | exact m_abs | exact m_nil | refine' m_and ?_ ?_ | refine' m_test ?_ | refine' m_tB ?_ | refine' m_op ?_ ?_ ?_ | refine' m_cons ?_ ?_ | refine' m_cb ?_ ?_))
local macro_rules | `(tactic| walk_at "go") => `(tactic| repeat' (first | walk_at "s" | walk_at "v" | walk_at "a" | walk_at "x" | walk_at "m" | walk_at "c" | walk_at "i" | walk_at "d"))

section
variable {P : Program} {w : World} {K : PySem.W.Frag} {mg : Str → Option Value} {base : Heap}
/-! ### a record written -/
def SD.puts (S : SD) (ws : List (Int × Ct)) : SD := ws.foldl (fun S w => S.wrote w.1 w.2) S
theorem SD.puts_lies : ∀ {ws : List (Int × Ct)} {S : SD}, (S.puts ws).lies = S.lies
  | [], S => rfl
  | w :: ws, S => SD.puts_lies (ws := ws) (S := S.wrote w.1 w.2)
theorem SD.puts_snoc {S : SD} {ws : List (Int × Ct)} {w : Int × Ct} : S.puts (ws ++ [w]) = (S.puts ws).wrote w.1 w.2 := by unfold SD.puts; rw [List.foldl_append]; rfl
theorem SD.puts_len {x : Int} : ∀ {ws : List (Int × Ct)} {S : SD}, ((S.puts ws).rows x).length ≤ (S.rows x).length + ws.length
  | [], S => Nat.le_refl _
  | w :: ws, S => by
    have h := SD.puts_len (x := x) (ws := ws) (S := S.wrote w.1 w.2)
    have h2 : ((S.wrote w.1 w.2).rows x).length ≤ (S.rows x).length + 1 := by
      show (if x = w.1 then S.rows w.1 ++ [w.2] else S.rows x).length ≤ _
      split
      · next e => rw [e, List.length_append]; exact Nat.le_refl _
      · omega
    rw [List.length_cons]
    show (((S.wrote w.1 w.2).puts ws).rows x).length ≤ _
    omega
def LD.no (L : LD) : Nat := L.bg + L.kept.length
def LD.pc (L : LD) (xs : List V) (i : Nat) : Pc := ⟨L.nk + i, L.ep, L.no, cutN xs - 1 - i, cutAt xs i⟩
def LD.puts (L : LD) (xs : List V) : List (Int × Ct) := (List.range (cutN xs)).map fun i : Nat => (1 + ((L.nk + i) % L.ring : Nat), (L.pc xs i).ct)
theorem item_nat {n : Nat} (h : n ≤ 1000000000000) : itemB (.int n) = true := by
  show (false || within (.int n) _ _) = true
  unfold within
  rw [Bool.false_or, Bool.and_eq_true, decide_eq_true_eq, decide_eq_true_eq]
  constructor <;> omega
theorem cutAt_len {xs : List V} {i : Nat} : (cutAt xs i).length ≤ 36 := by unfold cutAt; rw [List.length_take]; omega
theorem cutAt_mem {xs : List V} {i : Nat} {x : V} (h : x ∈ cutAt xs i) : x ∈ xs := List.mem_of_mem_drop (List.mem_of_mem_take h)
structure RecOk (xs : List V) : Prop where
  l0 : 1 ≤ xs.length
  l1 : xs.length ≤ 6000
  sm : ∀ x ∈ xs, smallV x = true
  it : ∀ x ∈ xs, itemB x = true
theorem RecOk.items {xs : List V} (h : RecOk xs) : itemsB xs 1 6000 = true := by
  unfold itemsB
  rw [decide_eq_true (show (1 : Int) ≤ xs.length by have := h.l0; omega), decide_eq_true (show (xs.length : Int) ≤ 6000 by have := h.l1; omega), List.all_eq_true.mpr h.it]; rfl
theorem RecOk.few {xs : List V} (h : RecOk xs) : cutN xs ≤ 167 := by have := h.l1; unfold cutN; omega
theorem pc_ok {L : LD} {xs : List V} {i : Nat} (h : RecOk xs) (hi : i < cutN xs) (h1 : L.nk ≤ 1000000000) (h2 : L.ep ≤ 1000000000) (h3 : L.no ≤ 1000000000) : CtOk (L.pc xs i).ct := by
  have hc := h.few
  have hl := cutAt_len (xs := xs) (i := i)
  have e : (L.pc xs i).ct = [.int (L.nk + i : Nat), .int L.ep, .int L.no, .int (cutN xs - 1 - i : Nat)] ++ cutAt xs i := rfl
  have el : (L.pc xs i).ct.length = (cutAt xs i).length + 4 := rfl
  refine ⟨by omega, fun x hx => ?_, ?_⟩
  · rw [e] at hx
    rcases List.mem_append.mp hx with m | m
    · simp only [List.mem_cons, List.not_mem_nil, or_false] at m
      rcases m with rfl | rfl | rfl | rfl <;> rfl
    · exact h.sm x (cutAt_mem m)
  · unfold itemsB
    have ea : (L.pc xs i).ct.all itemB = true := by
      refine List.all_eq_true.mpr fun x hx => ?_
      rw [e] at hx
      rcases List.mem_append.mp hx with m | m
      · simp only [List.mem_cons, List.not_mem_nil, or_false] at m
        rcases m with rfl | rfl | rfl | rfl <;> exact item_nat (by omega)
      · exact h.it x (cutAt_mem m)
    rw [ea, decide_eq_true (show (0 : Int) ≤ ((L.pc xs i).ct.length : Nat) by omega), decide_eq_true (show (((L.pc xs i).ct.length : Nat) : Int) ≤ 40 by omega)]; rfl
def sp_append (K : PySem.W.Frag) (CL CD : Addr) : Sp := fun vs H Q _ => ∃ (q p : Addr) (F G : List Addr) (S : SD) (L : LD) (a : Addr) (xs : List V), vs = [.ref q, .ref a] ∧ LS K CL H q p G L ∧ DS K CD H p F S ∧ (∀ x ∈ F, x ∉ G) ∧ SqT K H a xs ∧ RecOk xs ∧ L.kept.length ≤ 10000 ∧ 0 < L.ring ∧ L.ring + 8 ≤ S.lies.length ∧
  L.nk + cutN xs ≤ L.bk + L.ring ∧ L.nk ≤ 1000000000 ∧ L.ep ≤ 1000000000 ∧ L.no ≤ 1000000000 ∧ (∀ x, (S.rows x).length ≤ 800) ∧
  ∀ F' H', DS K CD H' p F' (S.puts (L.puts xs)) → LS K CL H' q p G (L.more xs L.ep) → (∀ x ∈ F', x ∉ G) → Ch (F ++ G) H H' → (∀ x ∈ F', x ∈ F ∨ H x = none) → Q (.int L.no) H'
theorem ok_Log_append (T : Txt K mg) : FnOk P w K mg base CX0 6 T.m_Log_append.f T.m_Log_append.fd ["self", "thing"] ((sp_append K T.C_Log T.C_Disk)) := by
  refine T.m_Log_append.F.ok sc_Log_append (fun vs H Q E h => ?_) (fun cdv A outer s H vs Q E hr h => ?_)
  · obtain ⟨q, p, F, G, S, L, a, xs, rfl, _⟩ := h
    rfl
  · obtain ⟨q, p, F, G, S, L, a, xs, rfl, hL, hD, dj, ha, ok, hn, hr0, hr8, hroom, b1, b2, b3, hrow, k⟩ := h
    refine ⟨_, (pss_cons (ps_if (pt_not (ptTruth (K := K) (pe_call (ok_is_items T) (hr.mono (by decide)) (by rfl) T.is_items.g T.is_items.F.kp T.is_items.b .nil pass0 (pa_cons (pv 1) (pa_cons pe_int (pa_cons (pe_glob (by rfl) T.c_MOST_RECORD.h T.c_MOST_RECORD.r) pa_nil)))) (by intro _; rfl))) (pss_one ps_never) pss_nil)
    (pss_cons (ps_set (i := 2) sc_Log_append.nd rfl (Or.inl rfl) (pe_call (ok_pieces_of T) (hr.mono (by decide)) (by rfl) T.pieces_of.g T.pieces_of.F.kp T.pieces_of.b .nil pass0 (pa_cons (pv 1) pa_nil)))
    (pss_cons (ps_if (pt_cmpR op_gt (pe_callB (cLen (K := K)) (by rfl) T.z_len PySem.boot_len (pa_cons (pv 2) pa_nil)) (pe_meth0 (pv 0) T.k_Log.cl T.m_Log_room.i (ok_Log_room T) (hr.mono (by decide)) T.m_Log_room.b .nil pass0) (nomark _)) (pss_one ps_never) pss_nil)
    (pss_cons (ps_set (i := 3) sc_Log_append.nd rfl (Or.inl rfl) (pe_op (oAddT (K := K)) (pe_meth0 (pv 0) T.k_Log.cl T.m_Log_last.i (ok_Log_last T) (hr.mono (by decide)) T.m_Log_last.b .nil pass0) pe_int))
    (pss_cons (ps_for PassesOwn.never rfl (piEnumT (K := K) (by rfl) T.z_enumerate (pa_cons (pv 2) pa_nil)) (pgTup (K := K) (n := 2) (pg_tup (n := 2) rfl (pgs_cons (pg_name (i := 4) sc_Log_append.nd rfl (Or.inl rfl)) (pgs_cons (pg_name (i := 5) sc_Log_append.nd rfl (Or.inl rfl)) pgs_nil))))
      (pss_cons (ps_set (i := 6) sc_Log_append.nd rfl (Or.inl rfl) (pe_op (oAddT (K := K)) (peFld (K := K) (pv 0) rfl) (pv 4)))
    (pss_one (ps_expr (pe_meth (peFld (K := K) (pv 0) rfl) T.k_Disk.cl T.m_Disk_write.i (ok_Disk_write T) (hr.mono (by decide)) T.m_Disk_write.b .nil pass0 (pa_cons (pe_meth (pv 0) T.k_Log.cl T.m_Log__block.i (ok_Log__block T) (hr.mono (by decide)) T.m_Log__block.b .nil pass0 (pa_cons (pv 6) pa_nil)) (pa_cons (pe_op (oAddT (K := K)) (pe_tup (pa_cons (pv 6) (pa_cons (peFld (K := K) (pv 0) rfl) (pa_cons (pv 3) (pa_cons (pe_op op_sub (pe_op op_sub (pe_callB (cLen (K := K)) (by rfl) T.z_len PySem.boot_len (pa_cons (pv 2) pa_nil)) pe_int) (pv 4)) pa_nil))))) (pv 5)) pa_nil)))))))
    (pss_cons (ps_expr (pe_meth (pv 0) T.k_Log.cl T.m_Log__keep.i (ok_Log__keep T) (hr.mono (by decide)) T.m_Log__keep.b .nil pass0 (pa_cons (pv 1) (pa_cons (peFld (K := K) (pv 0) rfl) pa_nil))))
    (pss_one (ps_ret (pv 3))))))))), ?_⟩
    have hL0 := hL
    obtain ⟨kl, ts, eG, ⟨dx, hob⟩, hkl, hka⟩ := hL
    have hc167 := ok.few
    have l6 := ok.l1
    walk_at "go"
    refine ⟨a, xs, 1, 6000, rfl, ha, by omega, ok.sm, fun H1 s1 => ?_⟩
    rw [ok.items]
    walk_at "go"
    refine ⟨a, xs, rfl, st_ s1 ha, by omega, fun D cs H2 s2 n2 h2 t2 => ?_⟩
    have s02 := s1.trans s2
    have lc : cs.length = cutN xs := by rw [t2.1, cutUp_length]
    walk_at "go"
    refine m_call0 ⟨dx, s02 _ _ hob⟩ (lf_no _ _ _ (by decide +kernel)) ?_
    walk_at "go"
    refine ⟨q, p, G, L, rfl, hL0.same s02, ?_⟩
    walk_at "go"
    refine m_call0 ⟨dx, s02 _ _ hob⟩ (lf_no _ _ _ (by decide +kernel)) ?_
    walk_at "go"
    refine ⟨q, p, G, L, rfl, hL0.same s02, hn, ?_⟩
    walk_at "go"
    have eno : L.last + 1 = (L.no : Int) := by unfold LD.last LD.no; omega
    rw [eno]
    have nD : H D = none := free_ s1 n2
    have hD2 := hD.same s02
    have DF : D ∉ F := fun m => hD.there D m nD
    have DG : D ∉ G := fun m => hL0.there D m nD
    have qG : q ∈ G := by rw [eG]; simp
    have kG : kl ∈ G := by rw [eG]; simp
    have hL2 := hL0.same s02
    have hob2 := s02 _ _ hob
    have lp : (L.puts xs).length = cutN xs := by unfold LD.puts; rw [List.length_map, List.length_range]
    refine ⟨D, cs.map V.ref, rfl, .inl ⟨slO h2, ?_⟩⟩
    refine l_it (walk_enum (xs := cs.map V.ref)) (fun i σ3 H3 => ∃ (y4 y5 y6 : Option V) (F3 : List Addr), σ3 = [some (.ref q), some (.ref a), some (.ref D), some (.int L.no), y4, y5, y6] ∧ DS K T.C_Disk H3 p F3 (S.puts ((L.puts xs).take i)) ∧ Ch F H2 H3 ∧ (∀ x ∈ F3, x ∈ F ∨ H2 x = none)) ⟨none, none, none, F, rfl, hD2, Ch.refl, fun x h => .inl h⟩ (fun i σ3 H3 hi z => ?_) (fun σ3 H3 z => ?_) (fun i x σ3 H3 H4 hi z y => ?_)
    · obtain ⟨y4, y5, y6, F3, _, _, c3, _⟩ := z
      exact slO (c3.at_ DF h2)
    · obtain ⟨y4, y5, y6, F3, rfl, d3, c3, f3⟩ := z
      rw [List.length_map, lc, List.take_of_length_le (by omega)] at d3
      have dj3 : ∀ x ∈ F3, x ∉ G := fun x hx m => by
        rcases f3 x hx with z | z
        · exact dj x z m
        · exact hL2.there x m z
      have hL3 := hL2.ch c3 fun x hx m => dj x m hx
      walk_at "go"
      refine m_call0 ⟨dx, c3.at_ (fun m => dj q m qG) hob2⟩ (lf_no _ _ _ (by decide +kernel)) ?_
      walk_at "go"
      refine o_fld ⟨dx, c3.at_ (fun m => dj q m qG) hob2⟩ T.k_Log.cl T.n_Log__epoch (lf_e _ _ _) ?_
      walk_at "go"
      refine ⟨q, p, G, L, a, xs, L.ep, rfl, hL3, hn, c3.st (st_ s02 ha), by omega, fun H5 l5 c5 => ?_⟩
      walk_at "go"
      refine k F3 H5 (d3.ch c5 dj3) l5 dj3 ?_ fun x hx => (f3 x hx).imp id (free_ s02)
      exact fun b o e c => c5 b o (c3 b o (s02 _ _ e) (c.imp (fun z m => z (List.mem_append_left _ m)) id)) (c.imp (fun z m => z (List.mem_append_right _ m)) id)
    · obtain ⟨y4, y5, y6, F3, rfl, d3, c3, f3⟩ := z
      obtain ⟨Tp, x1, x2, rfl, nT, rfl, e1, e2⟩ := y
      have hi' : i < cs.length := by simpa using hi
      have hi2 : i < cutN xs := by omega
      have ex1 : x1 = .int (i : Nat) := (Option.some.inj e1).symm
      have e2 : (cs.map V.ref)[i]? = some x2 := e2
      have ex2 : x2 = .ref cs[i] := by
        rw [List.getElem?_map, List.getElem?_eq_getElem hi'] at e2
        exact (Option.some.inj e2).symm
      subst ex1 ex2
      have s34 : Same H3 (upd H3 Tp (.tup [.int (i : Nat), .ref cs[i]])) := Same.new nT
      refine g_pair upd_same ?_
      generalize upd H3 Tp (.tup [.int (i : Nat), .ref cs[i]]) = H4 at s34
      have kp : ∀ c ys, SqT K H2 c ys → SqT K H4 c ys := fun c ys h => st_ s34 (c3.st h)
      have hob4 := s34 _ _ (c3.at_ (fun m => dj q m qG) hob2)
      have hD4 := s34 _ _ (c3.at_ DF h2)
      have hL4 := (hL2.ch c3 fun x hx m => dj x m hx).same s34
      have hpc : SqT K H4 cs[i] (cutAt xs i) := kp _ _ (t2.2 i _ _ (List.getElem?_eq_getElem hi') (by unfold cutUp; rw [List.getElem?_map, List.getElem?_range hi2]; rfl))
      have d4 := d3.same s34
      obtain ⟨fs, hdo, no⟩ := ins_of_ds d4
      have en : (L.nk : Int) + (i : Nat) = ((L.nk + i : Nat) : Int) := by omega
      walk_at "go"
      refine o_fld ⟨dx, hob4⟩ T.k_Log.cl T.n_Log__next_k (lf_nk _ _ _) ?_
      walk_at "go"
      rw [en]
      refine o_fld ⟨dx, hob4⟩ T.k_Log.cl T.n_Log__disk (lf_d _ _ _) ?_
      refine m_call0 hdo (no _ (by decide +kernel)) ?_
      walk_at "go"
      refine m_call0 ⟨dx, hob4⟩ (lf_no _ _ _ (by decide +kernel)) ?_
      walk_at "go"
      refine ⟨q, p, G, L, L.nk + i, rfl, hL4, hr0, ?_⟩
      walk_at "go"
      refine o_fld ⟨dx, hob4⟩ T.k_Log.cl T.n_Log__epoch (lf_e _ _ _) ?_
      walk_at "go"
      have el : (cs.length : Int) - 1 - (i : Nat) = ((cutN xs - 1 - i : Nat) : Int) := by omega
      rw [el]
      refine n_new (le_size (by simp)) fun t5 H5 n5 s5 h5 => ?_
      walk_at "go"
      refine o_catA (stO h5) (st_ s5 hpc) (by have := cutAt_len (xs := xs) (i := i); simp only [List.length_cons, List.length_nil]; omega) fun t6 H6 s6 h6 => ?_
      walk_at "go"
      have s46 := s5.trans s6
      have hb := Nat.mod_lt (L.nk + i) hr0
      have ew : (L.puts xs)[i]? = some (1 + (((L.nk + i) % L.ring : Nat) : Int), (L.pc xs i).ct) := by
        unfold LD.puts
        rw [List.getElem?_map, List.getElem?_range hi2]; rfl
      have lz : (S.puts ((L.puts xs).take i)).lies.length = S.lies.length := by rw [SD.puts_lies]
      refine w_write (d4.same s46) (fun x => ?_) (by omega) (by rw [lz]; omega) (xs := (L.pc xs i).ct) h6 (pc_ok ok hi2 b1 b2 b3) fun F7 H7 d7 c7 f7 => ?_
      · have := SD.puts_len (x := x) (ws := (L.puts xs).take i) (S := S)
        have := hrow x
        rw [List.length_take] at *
        omega
      · walk_at "go"
        have s37 := s34.trans s46
        refine ⟨_, _, _, F7, rfl, ?_, ?_, ?_⟩
        · rw [List.take_add_one, ew]
          show DS K T.C_Disk H7 p F7 (S.puts ((L.puts xs).take i ++ [(1 + (((L.nk + i) % L.ring : Nat) : Int), (L.pc xs i).ct)]))
          rw [SD.puts_snoc]
          exact d7
        · exact c3.trans (Ch.trans (F' := F3) (Ch.of_same (F := F3) s37) c7 fun x hx => .inl hx) f3
        · intro x hx
          rcases f7 x hx with z | z
          · exact f3 x z
          · have n3 := free_ s37 z
            by_cases hF : x ∈ F
            · exact .inl hF
            · refine .inr ?_
              cases e : H2 x with
              | none => rfl
              | some o => rw [c3.at_ hF e] at n3; cases n3
end
end Vw

set_option Elab.async false
set_option linter.all false
set_option maxRecDepth 100000
set_option maxHeartbeats 4000000
namespace Vw
open PySem PySem.Spec PyProof.Rows L2 RT
local macro_rules | `(tactic| walk_at "s") => `(tactic| with_reducible first
  | refine' s_seq ?_ | refine' s_next ?_ | refine' s_set ?_ | refine' s_ret ?_ | refine' s_retN ?_ | refine' s_drop ?_ | refine' s_if ?_ | refine' s_ipI ?_
  | refine' e_c ?_ | refine' e_op ?_ | refine' e_un ?_ | refine' e_neg ?_ | refine' e_test ?_ | refine' e_tB ?_ | refine' e_bl ?_ | refine' e_and ?_ | refine' e_or ?_ | refine' e_not ?_
  | refine' e_andV ?_ | refine' e_orV ?_ | refine' e_notV ?_ | refine' e_kV ?_ | refine' e_ife ?_ | refine' e_nil ?_ | refine' e_cons ?_ | refine' e_cb ?_ | refine' e_call ?_ | refine' e_chain ?_
  | refine' o_addI ?_ | refine' o_eqI ?_ | refine' o_neI ?_ | refine' o_I0 ?_ | refine' o_pow16 ?_ | refine' o_pow17 ?_ | refine' o_pow18 ?_ | refine' o_pow19 ?_ | refine' o_pow30 ?_ | refine' o_pow31 ?_ | refine' o_pow1 ?_ | refine' o_pow2 ?_ | refine' o_pow3 ?_ | refine' o_pow4 ?_ | refine' o_pow5 ?_ | refine' o_pow6 ?_ | refine' o_pow9 ?_ | refine' o_pow10 ?_ | refine' o_pow12 ?_ | refine' o_pow15 ?_ | refine' o_pow20 ?_ | refine' e_lst ?_ | refine' e_tup ?_ | refine' iteT ?_ | refine' i_nt ?_ | refine' i_nf ?_ | refine' iteF ?_ | refine' c_int ?_ | refine' c_abs ?_ | refine' c_min2 ?_ | refine' c_max2 ?_ | refine' e_tru ?_ | refine' t_bl ?_ | refine' t_non ?_ | refine' t_int ?_ | refine' isN_non ?_ | refine' isN_int ?_ | refine' isN_ref ?_ | refine' isN_str ?_ | refine' isN_bl ?_ | refine' noN_non ?_ | refine' noN_int ?_ | refine' noN_ref ?_ | refine' noN_str ?_ | refine' noN_bl ?_
  | refine' s_brk ?_ | refine' s_cont ?_ | refine' s_for ?_ | refine' e_lc ?_ | refine' e_dc ?_ | refine' e_yes ?_ | refine' i_rng1 ?_ | refine' i_lst0 ?_ | refine' i_tup0 ?_ | refine' e_bm ?_ | refine' e_sl ?_ | refine' e_np ?_ | refine' e_pt ?_ | refine' e_ptI ?_ | refine' e_din ?_ | refine' e_dnin ?_ | refine' e_methE ?_ | refine' p_cons ?_ | refine' p_nil ?_ | refine' s_dput ?_ | refine' e_dget2 ?_ | refine' e_dpop1 ?_ | refine' i_enum0 ?_ | refine' i_rev0 ?_ | refine' g_sub ?_ | refine' s_asg ?_ | refine' i_zip0 ?_ | refine' e_revT ?_ | refine' isB_bl ?_ | refine' notB_bl ?_ | refine' o_neB ?_ | refine' i_nrr ?_ | refine' e_meth ?_ | refine' s_setf ?_ | refine' e_fld ?_ | refine' e_bm0 ?_ | refine' r_tx ?_ | refine' o_eqStr ?_ | refine' o_neStr ?_)
local macro_rules | `(tactic| walk_at "v") => `(tactic| ((with_reducible refine' e_var ?hv ?_); (case hv => exact rfl)))
local macro_rules | `(tactic| walk_at "a") => `(tactic| ((with_reducible refine' s_aug ?hv ?_); (case hv => exact rfl)))
local macro_rules | `(tactic| walk_at "m") => `(tactic| first
  | ((with_reducible refine' o_mod ?hv ?_); (case hv => first | decide | omega))
  | ((with_reducible refine' o_mulR ?hv ?_); (case hv => omega))
  | ((with_reducible refine' o_mulL ?hv ?_); (case hv => omega))
  | ((with_reducible refine' o_div ?hv ?hw ?_); (case hv => omega); (case hw => omega))
  | ((with_reducible refine' o_pow _ ?hv ?hw ?hx ?_); (case hv => exact rfl); (case hw => decide); (case hx => decide)))
local macro_rules | `(tactic| walk_at "i") => `(tactic| (first
  | ((with_reducible refine' isi_int true ?hv ?_); (case hv => exact (by decide +kernel)))
  | ((with_reducible refine' isi_int false ?hv ?_); (case hv => exact (by decide +kernel)))
  | ((with_reducible refine' isi_non true ?hv ?_); (case hv => exact (by decide +kernel)))
  | ((with_reducible refine' isi_non false ?hv ?_); (case hv => exact (by decide +kernel)))
  | ((with_reducible refine' isi_str true ?hv ?_); (case hv => exact (by decide +kernel)))
  | ((with_reducible refine' isi_str false ?hv ?_); (case hv => exact (by decide +kernel)))
  | ((with_reducible refine' isi_bl true ?hv ?_); (case hv => exact (by decide +kernel)))
  | ((with_reducible refine' isi_bl false ?hv ?_); (case hv => exact (by decide +kernel)))
  | ((with_reducible refine' isi_t true ?hw ?hv ?_); (case hw => assumption); (case hv => exact (by decide +kernel)))
  | ((with_reducible refine' isi_t false ?hw ?hv ?_); (case hw => assumption); (case hv => exact (by decide +kernel)))
  | ((with_reducible refine' isi_l true ?hw ?hv ?_); (case hw => assumption); (case hv => exact (by decide +kernel)))
  | ((with_reducible refine' isi_l false ?hw ?hv ?_); (case hw => assumption); (case hv => exact (by decide +kernel)))
  | ((with_reducible refine' isi_tup true ?hw ?hv ?_); (case hw => assumption); (case hv => exact (by decide +kernel)))
  | ((with_reducible refine' isi_tup false ?hw ?hv ?_); (case hw => assumption); (case hv => exact (by decide +kernel)))
  | ((with_reducible refine' isi_lst true ?hw ?hv ?_); (case hw => assumption); (case hv => exact (by decide +kernel)))
  | ((with_reducible refine' isi_lst false ?hw ?hv ?_); (case hw => assumption); (case hv => exact (by decide +kernel)))))
local macro_rules | `(tactic| walk_at "om") => `(tactic| first | omega | (simp only [List.length_cons, List.length_nil, List.length_map, List.length_append, List.length_range]; omega))
local macro_rules | `(tactic| walk_at "d") => `(tactic| (first
  | ((with_reducible refine' i_dt ?hv ?_); (case hv => walk_at "om"))
  | ((with_reducible refine' i_df ?hv ?_); (case hv => walk_at "om"))
  | ((with_reducible refine' i_ndt ?hv ?_); (case hv => walk_at "om"))
  | ((with_reducible refine' i_ndf ?hv ?_); (case hv => walk_at "om"))))
local macro_rules | `(tactic| walk_at "x") => `(tactic| first
  | ((with_reducible refine' o_ixA ?hv ?hw ?_); (case hv => assumption); (case hw => exact rfl))
  | ((with_reducible refine' o_ixU ?hv ?hw ?_); (case hv => assumption); (case hw => exact rfl))
  | ((with_reducible refine' o_ixL ?hv ?hw ?_); (case hv => assumption); (case hw => exact rfl))
  | ((with_reducible refine' o_ixT ?hv ?hw ?_); (case hv => assumption); (case hw => exact rfl))
  | ((with_reducible refine' set_ ?hv ?hw ?_); (case hv => assumption); (case hw => exact rfl))
  | ((with_reducible refine' e_lenM ?hv ?_); (case hv => first | assumption | exact slO (by assumption)))
  | ((with_reducible refine' e_lenN ?hv ?_); (case hv => first | assumption | exact stO (by assumption)))
  | ((with_reducible refine' e_lenL ?hv ?_); (case hv => first | assumption | exact slO (by assumption)))
  | ((with_reducible refine' e_lenT ?hv ?_); (case hv => first | assumption | exact stO (by assumption))))
local macro_rules | `(tactic| walk_at "c") => `(tactic| first
  | ((with_reducible refine' c_listL ?hv ?_); (case hv => assumption))
  | ((with_reducible refine' c_listT ?hv ?_); (case hv => assumption))
  | ((with_reducible refine' c_tupL ?hv ?_); (case hv => first | assumption | exact slO (by assumption)))
  | ((with_reducible refine' c_tupT ?hv ?_); (case hv => assumption))
  | ((with_reducible refine' t_lst ?hv ?_); (case hv => first | assumption | exact slO (by assumption)))
  | ((with_reducible refine' t_tup ?hv ?_); (case hv => assumption))
  | ((with_reducible refine' r_sl ?hv ?_); (case hv => first | assumption | exact slO (by assumption)))
  | ((with_reducible refine' o_inL ?hv ?_); (case hv => first | assumption | exact slO (by assumption)))
  | ((with_reducible refine' o_inT ?hv ?_); (case hv => first | assumption | exact stO (by assumption)))
  | ((with_reducible refine' o_niL ?hv ?_); (case hv => first | assumption | exact slO (by assumption)))
  | ((with_reducible refine' o_niT ?hv ?_); (case hv => first | assumption | exact stO (by assumption)))
  | ((with_reducible refine' ty_lst ?hv ?_); (case hv => assumption)))
local macro_rules | `(tactic| walk_at "mo") => `(tactic| repeat' (first | exact m_yes | exact m_var | exact m_c | exact m_I0 | exact m_I | exact m_ix | exact m_add | exact m_in | exact m_int1 | exact m_abs | exact m_nil | refine' m_and ?_ ?_ | refine' m_test ?_ | refine' m_tB ?_ | refine' m_op ?_ ?_ ?_ | refine' m_cons ?_ ?_ | refine' m_cb ?_ ?_))
local macro_rules | `(tactic| walk_at "go") => `(tactic| repeat' (first | walk_at "s" | walk_at "v" | walk_at "a" | walk_at "x" | walk_at "m" | walk_at "c" | walk_at "i" | walk_at "d"))

section
variable {P : Program} {w : World} {K : PySem.W.Frag} {mg : Str → Option Value} {base : Heap}
/-! ### records forced -/
theorem SD.fB_true {b : Int} : ∀ (n : Nat) (S : SD), S.pw = none → (SD.fB b n S).2 = true ∧ (SD.fB b n S).1.pw = none
  | 0, S, h => ⟨rfl, h⟩
  | n + 1, S, h => by
    unfold SD.fB
    split
    · exact ⟨rfl, h⟩
    · next c cs e =>
      rw [if_neg (by rw [h]; simp)]
      exact SD.fB_true n _ (by show S.pw.map _ = none; rw [h]; rfl)
theorem SD.forceL_true : ∀ (l : List Int) (S : SD), S.pw = none → (SD.forceL l S).2 = true ∧ (SD.forceL l S).1.pw = none
  | [], S, h => ⟨rfl, h⟩
  | b :: bs, S, h => by
    have h1 := SD.fB_true (b := b) (S.rows b).length S h
    unfold SD.forceL
    rw [if_pos (show (S.forceB b).2 = true from h1.1)]
    exact SD.forceL_true bs _ h1.2
def ringBs (r a n : Nat) : List Int := (List.range n).map fun j : Nat => 1 + (((a + j) % r : Nat) : Int)
theorem mod_inj {r a i j : Nat} (h : (a + i) % r = (a + j) % r) (hi : i < r) (hj : j < r) : i = j := by
  have h1 := Nat.sub_mod_eq_zero_of_mod_eq h
  have h2 := Nat.sub_mod_eq_zero_of_mod_eq h.symm
  rw [Nat.mod_eq_of_lt (by omega)] at h1 h2
  omega
theorem ringBs_nd {r a n : Nat} (hn : n ≤ r) : (ringBs r a n).Nodup := by
  unfold ringBs
  refine List.pairwise_map.mpr (List.Pairwise.imp_of_mem (fun {i j} hi hj h e => h ?_) List.nodup_range)
  have hi := List.mem_range.mp hi
  have hj := List.mem_range.mp hj
  exact mod_inj (r := r) (a := a) (by omega) (by omega) (by omega)
theorem ringBs_in {r a n : Nat} (h : 0 < r) : ∀ x ∈ ringBs r a n, 1 ≤ x ∧ x ≤ r := fun x hx => by
  obtain ⟨j, _, e⟩ := List.mem_map.mp hx
  have := Nat.mod_lt (a + j) h
  omega
def sp_lforce (K : PySem.W.Frag) (CL CD : Addr) : Sp := fun vs H Q _ => ∃ (q p : Addr) (F G : List Addr) (S : SD) (L : LD) (i m : Nat), vs = [.ref q, .int ((L.bg : Int) + i)] ∧ LS K CL H q p G L ∧ DS K CD H p F S ∧ (∀ x ∈ F, x ∉ G) ∧ L.kept.length ≤ 10000 ∧ 0 < L.ring ∧ L.ring + 8 ≤ S.lies.length ∧ S.pw = none ∧
  i < L.kept.length ∧ m ≤ L.kept.length ∧ L.fo = some ((L.bg : Int) + m - 1) ∧ L.fk (i + 1) - L.fk m ≤ L.ring ∧ L.fk (i + 1) ≤ 1000000000 ∧ L.fk m ≤ 1000000000 ∧
  (i + 1 ≤ m → Q .non H) ∧ (m < i + 1 → ∀ ns F' H', ns.Perm (ringBs L.ring (L.fk m) (L.fk (i + 1) - L.fk m)) → ns.Pairwise (· < ·) → DS K CD H' p F' (SD.forceL ns S).1 → LS K CL H' q p G { L with fo := some ((L.bg : Int) + i) } → (∀ x ∈ F', x ∉ G) → Ch (F ++ G) H H' → (∀ x ∈ F', x ∈ F ∨ H x = none) → Q .non H')
theorem ok_Log_force (T : Txt K mg) : FnOk P w K mg base CX0 5 T.m_Log_force.f T.m_Log_force.fd ["self", "number"] ((sp_lforce K T.C_Log T.C_Disk)) := by
  refine T.m_Log_force.F.ok sc_Log_force (fun vs H Q E h => ?_) (fun cdv A outer s H vs Q E hr h => ?_)
  · obtain ⟨q, p, F, G, S, L, i, m, rfl, _⟩ := h
    rfl
  · obtain ⟨q, p, F, G, S, L, i, m, rfl, hL, hD, dj, hn, hr0, hr8, hpw, hi, hm, hfo, hle, hb1, hb2, k0, k1⟩ := h
    refine ⟨_, (pss_cons (ps_if (pt_not (ptTruth (K := K) (pe_call (ok_is_within T) (hr.mono (by decide)) (by rfl) T.is_within.g T.is_within.F.kp T.is_within.b .nil pass0 (pa_cons (pv 1) (pa_cons (peFld (K := K) (pv 0) rfl) (pa_cons (pe_meth0 (pv 0) T.k_Log.cl T.m_Log_last.i (ok_Log_last T) (hr.mono (by decide)) T.m_Log_last.b .nil pass0) pa_nil)))) (by intro _; rfl))) (pss_one ps_never) pss_nil)
    (pss_cons (ps_if (pt_cmpR op_le (pv 1) (peFld (K := K) (pv 0) rfl) (nomark _)) (pss_one ps_retN) pss_nil)
    (pss_cons (ps_set (i := 2) sc_Log_force.nd rfl (Or.inl rfl) (pe_meth (pv 0) T.k_Log.cl T.m_Log__first_k.i (ok_Log__first_k T) (hr.mono (by decide)) T.m_Log__first_k.b .nil pass0 (pa_cons (pe_op oAdd (peFld (K := K) (pv 0) rfl) pe_int) pa_nil)))
    (pss_cons (ps_expr (pe_meth (peFld (K := K) (pv 0) rfl) T.k_Disk.cl T.m_Disk_force.i (ok_Disk_force T) (hr.mono (by decide)) T.m_Disk_force.b .nil passL (pa_cons (pe_callTy (cTupOf (K := K)) (by rfl) T.z_tuple (by decide +kernel) (pa_cons (pe_callB (cSortI (K := K)) (by rfl) T.z_sorted (by decide +kernel) (pa_cons (pe_lc (own := [("k", 3)]) rfl sc_Log_force.nd (pi_range2 (by rfl) T.z_range (pa_cons (pv 2) (pa_cons (pe_meth (pv 0) T.k_Log.cl T.m_Log__first_k.i (ok_Log__first_k T) (hr.mono (by decide)) T.m_Log__first_k.b .nil pass0 (pa_cons (pe_op oAdd (pv 1) pe_int) pa_nil)) pa_nil))) (blkOk_by (N := n_Log_force) (sc := defScope s_Log_force) (by decide +kernel)) (fun _ _ _ _ _ => (pg_name (i := 3) sc_Log_force.nd rfl (Or.inl rfl))) (fun _ _ _ _ _ => pts_nil) (fun _ _ _ _ _ => (pe_meth (pv 0) T.k_Log.cl T.m_Log__block.i (ok_Log__block T) (hr.mono (by decide)) T.m_Log__block.b .nil pass0 (pa_cons (pv 3) pa_nil)))) pa_nil)) pa_nil)) pa_nil)))
    (pss_one (psFld (K := K) (pv 0) (pv 1) rfl)))))), ?_⟩
    have hL0 := hL
    obtain ⟨kl, ts, eG, ⟨dx, hob⟩, hkl, hka⟩ := hL
    have h600 := hD.len
    walk_at "go"
    refine o_fld ⟨dx, hob⟩ T.k_Log.cl T.n_Log__begin (lf_b _ _ _) ?_
    walk_at "go"
    refine m_call0 ⟨dx, hob⟩ (lf_no _ _ _ (by decide +kernel)) ?_
    walk_at "go"
    refine ⟨q, p, G, L, rfl, hL0, hn, ?_⟩
    walk_at "go"
    refine ⟨_, _, _, rfl, rfl, ?_⟩
    have ew : within (.int ((L.bg : Int) + i)) L.bg L.last = true := by
      unfold within LD.last
      rw [Bool.and_eq_true, decide_eq_true_eq, decide_eq_true_eq]
      constructor <;> omega
    rw [ew]
    walk_at "go"
    refine o_fld ⟨dx, hob⟩ T.k_Log.cl T.n_Log__forced (lf_f _ _ _ _ hfo) ?_
    walk_at "go"
    refine i_d (fun z => ?_) (fun z => ?_)
    · walk_at "go"
      exact k0 (by omega)
    · walk_at "go"
      refine m_call0 ⟨dx, hob⟩ (lf_no _ _ _ (by decide +kernel)) ?_
      walk_at "go"
      refine o_fld ⟨dx, hob⟩ T.k_Log.cl T.n_Log__forced (lf_f _ _ _ _ hfo) ?_
      walk_at "go"
      rw [show (L.bg : Int) + (m : Nat) - 1 + 1 = (L.bg : Int) + (m : Nat) by omega]
      refine ⟨q, p, G, L, m, rfl, hL0, hn, ?_⟩
      walk_at "go"
      obtain ⟨fs, hdo, no⟩ := ins_of_ds hD
      refine o_fld ⟨dx, hob⟩ T.k_Log.cl T.n_Log__disk (lf_d _ _ _) ?_
      refine m_call0 hdo (no _ (by decide +kernel)) ?_
      walk_at "go"
      refine i_rng2 ?_
      walk_at "go"
      refine m_call0 ⟨dx, hob⟩ (lf_no _ _ _ (by decide +kernel)) ?_
      walk_at "go"
      rw [show (L.bg : Int) + (i : Nat) + 1 = (L.bg : Int) + ((i + 1 : Nat) : Int) by omega]
      refine ⟨q, p, G, L, i + 1, rfl, hL0, hn, ?_⟩
      walk_at "go"
      refine i_rg2 (n := L.fk (i + 1) - L.fk m) (by omega) (by omega) (by omega) ?_
      have hr6 : L.ring ≤ 592 := by omega
      have hcnt : (ringBs L.ring (L.fk m) (L.fk (i + 1) - L.fk m)).length = L.fk (i + 1) - L.fk m := by unfold ringBs; rw [List.length_map, List.length_range]
      have hnd := ringBs_nd (a := L.fk m) hle
      have hin := ringBs_in (a := L.fk m) (n := L.fk (i + 1) - L.fk m) hr0
      refine c_it walk_range (fun j acc H2 => Same H H2 ∧ acc = ((List.range j).map fun j : Nat => 1 + (((L.fk m + j) % L.ring : Nat) : Int)).map V.int) (fun D hD => ⟨upd_free (Same.refl _) hD, rfl⟩) (fun _ _ _ _ _ => trivial) (fun acc D H2 nD h2 y => ?_) (fun j x acc H2 H3 D hj nD h2 y yy => ?_)
      · obtain ⟨s2, rfl⟩ := y
        have h2 : H2 D = some (.lst ((ringBs L.ring (L.fk m) (L.fk (i + 1) - L.fk m)).map V.int)) := h2
        generalize ringBs L.ring (L.fk m) (L.fk (i + 1) - L.fk m) = bs at *
        walk_at "go"
        refine ⟨D, bs, rfl, slO h2, fun ns l p1 p2 nl => ?_⟩
        have s3 : Same H2 (upd H2 l (.lst (ns.map V.int))) := Same.new nl
        have h3 : upd H2 l (.lst (ns.map V.int)) l = some (.lst (ns.map V.int)) := upd_same
        generalize upd H2 l (.lst (ns.map V.int)) = H3 at *
        have hpl := p1.length_eq
        have hasc := asc_of p2 (p1.nodup_iff.mpr hnd)
        walk_at "go"
        refine n_new0 fun t H4 n4 s4 h4 => ?_
        walk_at "go"
        have s04 := s2.trans (s3.trans s4)
        have hmem : ∀ n ∈ ns, 1 ≤ n ∧ n ≤ L.ring := fun n hn => hin n (p1.mem_iff.mp hn)
        refine ⟨p, F, S, t, ns, rfl, hD.same s04, stO h4, by omega, lotB_of (fun n hn => by have := hmem n hn; omega) hasc, fun n hn => by have := hmem n hn; omega, fun H5 F5 d5 c5 f5 => ?_⟩
        rw [if_pos (SD.forceL_true ns S hpw).1]
        have qG : q ∈ G := by rw [eG]; simp
        have hL4 := hL0.same s04
        have dj5 : ∀ x ∈ F5, x ∉ G := fun x hx mm => by
          rcases f5 x hx with y | y
          · exact dj x y mm
          · exact hL4.there x mm y
        have hob5 := c5.at_ (fun mm => dj q mm qG) (s04 _ _ hob)
        have hL5 := hL4.ch c5 fun x hx mm => dj x mm hx
        have nqk : q ≠ kl := fun z => by rw [z, hkl] at hob; cases hob
        walk_at "go"
        refine s_fld rfl hob5 T.k_Log.cl T.n_Log__forced (lf_len _ _ _) ?_
        rw [lf_pf]
        have c6 : Ch [q] H5 (upd H5 q (.ins T.C_Log dx (lf p kl { L with fo := some ((L.bg : Int) + i) }))) := Ch.upd1 (by simp) fun o e => by rw [hob5] at e; cases e; rfl
        have qF5 : q ∉ F5 := fun mm => dj5 q mm qG
        refine k1 (by omega) ns F5 _ p1 hasc (d5.ch c6 fun x hx mm => by rw [List.mem_singleton.mp mm] at hx; exact qF5 hx) ⟨kl, ts, eG, ⟨dx, upd_same⟩, ?_, ?_⟩ dj5 ?_ fun x hx => (f5 x hx).imp id (free_ s04)
        · rw [upd_ne (Ne.symm nqk)]
          exact c5.at_ (fun mm => dj kl mm (by rw [eG]; simp)) (s04 _ _ hkl)
        · exact hka.st fun c ys h => c6.st (c5.st (st_ s04 h))
        · exact fun b o e c => c6 b o (c5 b o (s04 _ _ e) (c.imp (fun z mm => z (List.mem_append_left _ mm)) id)) (c.imp (fun z mm => z (List.mem_append_right _ (by rw [List.mem_singleton.mp mm]; exact qG))) id)
      · obtain ⟨s2, rfl⟩ := y
        obtain ⟨rfl, rfl⟩ := yy
        refine ⟨rfl, ?_⟩
        walk_at "go"
        refine m_call0 ⟨dx, s2 _ _ hob⟩ (lf_no _ _ _ (by decide +kernel)) ?_
        walk_at "go"
        show sp_block K T.C_Log [V.ref q, V.int ((L.fk m : Int) + (j : Nat))] _ _ _
        rw [show (L.fk m : Int) + (j : Nat) = ((L.fk m + j : Nat) : Int) by omega]
        refine ⟨q, p, G, L, L.fk m + j, rfl, hL0.same s2, hr0, ?_⟩
        refine ⟨_, h2, lt_size (by simp only [List.length_map, List.length_range]; omega), _, upd_same, upd_free s2 nD, ?_⟩
        rw [List.range_succ, List.map_append, List.map_append]; rfl
end
end Vw

set_option Elab.async false
set_option linter.all false
set_option maxRecDepth 100000
set_option maxHeartbeats 4000000
namespace Vw
open PySem PySem.Spec PyProof.Rows L2 RT
local macro_rules | `(tactic| walk_at "s") => `(tactic| with_reducible first
  | refine' s_seq ?_ | refine' s_next ?_ | refine' s_set ?_ | refine' s_ret ?_ | refine' s_retN ?_ | refine' s_drop ?_ | refine' s_if ?_ | refine' s_ipI ?_
  | refine' e_c ?_ | refine' e_op ?_ | refine' e_un ?_ | refine' e_neg ?_ | refine' e_test ?_ | refine' e_tB ?_ | refine' e_bl ?_ | refine' e_and ?_ | refine' e_or ?_ | refine' e_not ?_
  | refine' e_andV ?_ | refine' e_orV ?_ | refine' e_notV ?_ | refine' e_kV ?_ | refine' e_ife ?_ | refine' e_nil ?_ | refine' e_cons ?_ | refine' e_cb ?_ | refine' e_call ?_ | refine' e_chain ?_
  | refine' o_addI ?_ | refine' o_eqI ?_ | refine' o_neI ?_ | refine' o_I0 ?_ | refine' o_pow16 ?_ | refine' o_pow17 ?_ | refine' o_pow18 ?_ | refine' o_pow19 ?_ | refine' o_pow30 ?_ | refine' o_pow31 ?_ | refine' o_pow1 ?_ | refine' o_pow2 ?_ | refine' o_pow3 ?_ | refine' o_pow4 ?_ | refine' o_pow5 ?_ | refine' o_pow6 ?_ | refine' o_pow9 ?_ | refine' o_pow10 ?_ | refine' o_pow12 ?_ | refine' o_pow15 ?_ | refine' o_pow20 ?_ | refine' e_lst ?_ | refine' e_tup ?_ | refine' iteT ?_ | refine' i_nt ?_ | refine' i_nf ?_ | refine' iteF ?_ | refine' c_int ?_ | refine' c_abs ?_ | refine' c_min2 ?_ | refine' c_max2 ?_ | refine' e_tru ?_ | refine' t_bl ?_ | refine' t_non ?_ | refine' t_int ?_ | refine' isN_non ?_ | refine' isN_int ?_ | refine' isN_ref ?_ | refine' isN_str ?_ | refine' isN_bl ?_ | refine' noN_non ?_ | refine' noN_int ?_ | refine' noN_ref ?_ | refine' noN_str ?_ | refine' noN_bl ?_
  | refine' s_brk ?_ | refine' s_cont ?_ | refine' s_for ?_ | refine' e_lc ?_ | refine' e_dc ?_ | refine' e_yes ?_ | refine' i_rng1 ?_ | refine' i_lst0 ?_ | refine' i_tup0 ?_ | refine' e_bm ?_ | refine' e_sl ?_ | refine' e_np ?_ | refine' e_pt ?_ | refine' e_ptI ?_ | refine' e_din ?_ | refine' e_dnin ?_ | refine' e_methE ?_ | refine' p_cons ?_ | refine' p_nil ?_ | refine' s_dput ?_ | refine' e_dget2 ?_ | refine' e_dpop1 ?_ | refine' i_enum0 ?_ | refine' i_rev0 ?_ | refine' g_sub ?_ | refine' s_asg ?_ | refine' i_zip0 ?_ | refine' e_revT ?_ | refine' isB_bl ?_ | refine' notB_bl ?_ | refine' o_neB ?_ | refine' i_nrr ?_ | refine' e_meth ?_ | refine' s_setf ?_ | refine' e_fld ?_ | refine' e_bm0 ?_ | refine' r_tx ?_ | refine' o_eqStr ?_ | refine' o_neStr ?_)
local macro_rules | `(tactic| walk_at "v") => `(tactic| ((with_reducible refine' e_var ?hv ?_); (case hv => exact rfl)))
local macro_rules | `(tactic| walk_at "a") => `(tactic| ((with_reducible refine' s_aug ?hv ?_); (case hv => exact rfl)))
local macro_rules | `(tactic| walk_at "m") => `(tactic| first
  | ((with_reducible refine' o_mod ?hv ?_); (case hv => first | decide | omega))
  | ((with_reducible refine' o_mulR ?hv ?_); (case hv => omega))
  | ((with_reducible refine' o_mulL ?hv ?_); (case hv => omega))
  | ((with_reducible refine' o_div ?hv ?hw ?_); (case hv => omega); (case hw => omega))
  | ((with_reducible refine' o_pow _ ?hv ?hw ?hx ?_); (case hv => exact rfl); (case hw => decide); (case hx => decide)))
local macro_rules | `(tactic| walk_at "i") => `(tactic| (first
  | ((with_reducible refine' isi_int true ?hv ?_); (case hv => exact (by decide +kernel)))
  | ((with_reducible refine' isi_int false ?hv ?_); (case hv => exact (by decide +kernel)))
  | ((with_reducible refine' isi_non true ?hv ?_); (case hv => exact (by decide +kernel)))
  | ((with_reducible refine' isi_non false ?hv ?_); (case hv => exact (by decide +kernel)))
  | ((with_reducible refine' isi_str true ?hv ?_); (case hv => exact (by decide +kernel)))
  | ((with_reducible refine' isi_str false ?hv ?_); (case hv => exact (by decide +kernel)))
  | ((with_reducible refine' isi_bl true ?hv ?_); (case hv => exact (by decide +kernel)))
  | ((with_reducible refine' isi_bl false ?hv ?_); (case hv => exact (by decide +kernel)))
  | ((with_reducible refine' isi_t true ?hw ?hv ?_); (case hw => assumption); (case hv => exact (by decide +kernel)))
  | ((with_reducible refine' isi_t false ?hw ?hv ?_); (case hw => assumption); (case hv => exact (by decide +kernel)))
  | ((with_reducible refine' isi_l true ?hw ?hv ?_); (case hw => assumption); (case hv => exact (by decide +kernel)))
  | ((with_reducible refine' isi_l false ?hw ?hv ?_); (case hw => assumption); (case hv => exact (by decide +kernel)))
  | ((with_reducible refine' isi_tup true ?hw ?hv ?_); (case hw => assumption); (case hv => exact (by decide +kernel)))
  | ((with_reducible refine' isi_tup false ?hw ?hv ?_); (case hw => assumption); (case hv => exact (by decide +kernel)))
  | ((with_reducible refine' isi_lst true ?hw ?hv ?_); (case hw => assumption); (case hv => exact (by decide +kernel)))
  | ((with_reducible refine' isi_lst false ?hw ?hv ?_); (case hw => assumption); (case hv => exact (by decide +kernel)))))
local macro_rules | `(tactic| walk_at "om") => `(tactic| first | omega | (simp only [List.length_cons, List.length_nil, List.length_map, List.length_append, List.length_range]; omega))
local macro_rules | `(tactic| walk_at "d") => `(tactic| (first
  | ((with_reducible refine' i_dt ?hv ?_); (case hv => walk_at "om"))
  | ((with_reducible refine' i_df ?hv ?_); (case hv => walk_at "om"))
  | ((with_reducible refine' i_ndt ?hv ?_); (case hv => walk_at "om"))
  | ((with_reducible refine' i_ndf ?hv ?_); (case hv => walk_at "om"))))
local macro_rules | `(tactic| walk_at "x") => `(tactic| first
  | ((with_reducible refine' o_ixA ?hv ?hw ?_); (case hv => assumption); (case hw => exact rfl))
  | ((with_reducible refine' o_ixU ?hv ?hw ?_); (case hv => assumption); (case hw => exact rfl))
  | ((with_reducible refine' o_ixL ?hv ?hw ?_); (case hv => assumption); (case hw => exact rfl))
  | ((with_reducible refine' o_ixT ?hv ?hw ?_); (case hv => assumption); (case hw => exact rfl))
  | ((with_reducible refine' set_ ?hv ?hw ?_); (case hv => assumption); (case hw => exact rfl))
  | ((with_reducible refine' e_lenM ?hv ?_); (case hv => first | assumption | exact slO (by assumption)))
  | ((with_reducible refine' e_lenN ?hv ?_); (case hv => first | assumption | exact stO (by assumption)))
  | ((with_reducible refine' e_lenL ?hv ?_); (case hv => first | assumption | exact slO (by assumption)))
  | ((with_reducible refine' e_lenT ?hv ?_); (case hv => first | assumption | exact stO (by assumption))))
local macro_rules | `(tactic| walk_at "c") => `(tactic| first
  | ((with_reducible refine' c_listL ?hv ?_); (case hv => assumption))
  | ((with_reducible refine' c_listT ?hv ?_); (case hv => assumption))
  | ((with_reducible refine' c_tupL ?hv ?_); (case hv => first | assumption | exact slO (by assumption)))
  | ((with_reducible refine' c_tupT ?hv ?_); (case hv => assumption))
  | ((with_reducible refine' t_lst ?hv ?_); (case hv => first | assumption | exact slO (by assumption)))
  | ((with_reducible refine' t_tup ?hv ?_); (case hv => assumption))
  | ((with_reducible refine' r_sl ?hv ?_); (case hv => first | assumption | exact slO (by assumption)))
  | ((with_reducible refine' o_inL ?hv ?_); (case hv => first | assumption | exact slO (by assumption)))
  | ((with_reducible refine' o_inT ?hv ?_); (case hv => first | assumption | exact stO (by assumption)))
  | ((with_reducible refine' o_niL ?hv ?_); (case hv => first | assumption | exact slO (by assumption)))
  | ((with_reducible refine' o_niT ?hv ?_); (case hv => first | assumption | exact stO (by assumption)))
  | ((with_reducible refine' ty_lst ?hv ?_); (case hv => assumption)))
local macro_rules | `(tactic| walk_at "mo") => `(tactic| repeat' (first | exact m_yes | exact m_var | exact m_c | exact m_I0 | exact m_I | exact m_ix | exact m_add | exact m_in | exact m_int1 | exact m_abs | exact m_nil | refine' m_and ?_ ?_ | refine' m_test ?_ | refine' m_tB ?_ | refine' m_op ?_ ?_ ?_ | refine' m_cons ?_ ?_ | refine' m_cb ?_ ?_))
local macro_rules | `(tactic| walk_at "go") => `(tactic| repeat' (first | walk_at "s" | walk_at "v" | walk_at "a" | walk_at "x" | walk_at "m" | walk_at "c" | walk_at "i" | walk_at "d"))

section
variable {P : Program} {w : World} {K : PySem.W.Frag} {mg : Str → Option Value} {base : Heap}
/-! ### a formatted disk -/
def fmM (r : Nat) : Mst := ⟨0, r, 0, 0, 0⟩
def metaC : Ct := [.int (-1), .str "meta", .int (-1), .int 1, .int 0, .int 0]
theorem mst_ok {M : Mst} (h : M.e ≤ 1000000000000 ∧ M.r ≤ 1000000000000 ∧ M.k ≤ 1000000000000 ∧ M.m ≤ 1000000000000 ∧ M.f ≤ 1000000000000) : CtOk (Mst.ct M) := by
  refine ⟨by show 6 ≤ 1000; decide, fun x hx => ?_, ?_⟩
  · unfold Mst.ct at hx
    simp only [List.mem_cons, List.not_mem_nil, or_false] at hx
    rcases hx with rfl | rfl | rfl | rfl | rfl | rfl
    · decide +kernel
    all_goals rfl
  · unfold itemsB
    have ea : (Mst.ct M).all itemB = true := by
      refine List.all_eq_true.mpr fun x hx => ?_
      unfold Mst.ct at hx
      simp only [List.mem_cons, List.not_mem_nil, or_false] at hx
      rcases hx with rfl | rfl | rfl | rfl | rfl | rfl
      · decide +kernel
      all_goals exact item_nat (by omega)
    rw [ea]; rfl
theorem meta_ok : CtOk metaC := ⟨by decide, by unfold metaC; decide +kernel, by decide +kernel⟩
def SD.fm (b r : Nat) : SD := ((SD.new b).wrote 0 (Mst.ct (fmM r))).wrote ((r : Int) + 1) metaC
theorem same_ch {F : List Addr} {H H1 H2 : Hp} (s : Same H H1) (c : Ch F H1 H2) (n : ∀ x ∈ F, H x = none) : Same H H2 := fun b o e => c b o (s b o e) (.inl fun m => by rw [n b m] at e; cases e)
theorem fresh_ch {F F' : List Addr} {H H1 : Hp} (s : Same H H1) (f : ∀ x ∈ F', x ∈ F ∨ H1 x = none) (n : ∀ x ∈ F, H x = none) : ∀ x ∈ F', H x = none := fun x hx => (f x hx).elim (n x) fun z => free_ s z
theorem fm_few {b r : Nat} : Few (SD.fm b r) := ⟨[0, (r : Int) + 1], by show 2 < 64; decide, fun x hx => by
  have hx : (if x = (r : Int) + 1 then (if (r : Int) + 1 = 0 then ([] : List Ct) ++ [Mst.ct (fmM r)] else []) ++ [metaC] else (if x = 0 then ([] : List Ct) ++ [Mst.ct (fmM r)] else [])) ≠ [] := hx
  by_cases h1 : x = (r : Int) + 1
  · rw [h1]; simp
  · rw [if_neg h1] at hx
    by_cases h2 : x = 0
    · rw [h2]; simp
    · rw [if_neg h2] at hx; exact absurd rfl hx⟩
def sp_formatted (K : PySem.W.Frag) (C : Addr) : Sp := fun vs H Q _ => ∃ b r : Nat, vs = [.int b, .int r] ∧ 16 ≤ b ∧ b ≤ 600 ∧ 4 ≤ r ∧ r + 8 ≤ b ∧ ∀ p F H' ns, Wt (SD.fm b r) ns → DS K C H' p F (SD.forceL ns (SD.fm b r)).1 → Same H H' → (∀ x ∈ F, H x = none) → Q (.ref p) H'
theorem ok_formatted (T : Txt K mg) : FnOk P w K mg base CX0 6 T.formatted.f T.formatted.fd ["blocks", "ring"] ((sp_formatted K T.C_Disk)) := by
  refine T.formatted.F.ok sc_formatted (fun vs H Q E h => ?_) (fun cdv A outer s H vs Q E hr h => ?_)
  · obtain ⟨b, r, rfl, _⟩ := h
    rfl
  · obtain ⟨b, r, rfl, h16, h600, h4, h8, k⟩ := h
    refine ⟨_, (pss_cons (ps_set (i := 2) sc_formatted.nd rfl (Or.inl rfl) (pe_make (T.m_Disk_init.made T.k_Disk) (ok_Disk_init T) (hr.mono (by decide)) (by rfl) T.k_Disk.g T.m_Disk_init.b .nil pass0 (pa_cons (pv 0) pa_nil)))
    (pss_cons (ps_if (pt_not (ptTruth (K := K) (pe_call (ok_is_ring_size T) (hr.mono (by decide)) (by rfl) T.is_ring_size.g T.is_ring_size.F.kp T.is_ring_size.b .nil pass0 (pa_cons (pv 1) (pa_cons (pv 0) pa_nil))) (by intro _; rfl))) (pss_one ps_never) pss_nil)
    (pss_cons (ps_expr (pe_meth (pv 2) T.k_Disk.cl T.m_Disk_write.i (ok_Disk_write T) (hr.mono (by decide)) T.m_Disk_write.b .nil pass0 (pa_cons pe_int (pa_cons (pe_tup (pa_cons (pe_glob (by rfl) T.c_MASTER.h T.c_MASTER.r) (pa_cons pe_int (pa_cons (pv 1) (pa_cons pe_int (pa_cons pe_int (pa_cons pe_int pa_nil))))))) pa_nil))))
    (pss_cons (ps_expr (pe_meth (pv 2) T.k_Disk.cl T.m_Disk_write.i (ok_Disk_write T) (hr.mono (by decide)) T.m_Disk_write.b .nil pass0 (pa_cons (pe_op oAdd (pv 1) pe_int) (pa_cons (pe_tup (pa_cons (pe_un un_neg pe_int) (pa_cons pe_str (pa_cons (pe_un un_neg pe_int) (pa_cons pe_int (pa_cons pe_int (pa_cons pe_int pa_nil))))))) pa_nil))))
    (pss_cons (ps_expr (pe_meth0 (pv 2) T.k_Disk.cl T.m_Disk_calm.i (ok_Disk_calm T) (hr.mono (by decide)) T.m_Disk_calm.b .nil passL))
    (pss_one (ps_ret (pv 2)))))))), ?_⟩
    walk_at "go"
    show tCons _ _ _ _ _
    walk_at "go"
    refine fun p dx np ndx nepd => ?_
    have hp5 : upd (upd H dx (.own p)) p (.ins T.C_Disk dx []) p = some (.ins T.C_Disk dx []) := upd_same
    have s5 : Same H (upd (upd H dx (.own p)) p (.ins T.C_Disk dx [])) := fun x o e => by
      rw [upd_ne (ne_of_none e np), upd_ne (ne_of_none e ndx)]; exact e
    generalize upd (upd H dx (.own p)) p (.ins T.C_Disk dx []) = H5 at *
    refine w_init (n := b) ⟨dx, hp5⟩ h16 h600 fun F H6 d6 but6 hf6 => ⟨rfl, ?_⟩
    have s6 : Same H H6 := fun x o e => but6 x o (by rw [List.mem_singleton]; exact ne_of_none e np) (s5 x o e)
    have nF : ∀ x ∈ F, H x = none := fun x hx => by
      rcases hf6 x hx with z | z
      · rw [z]; exact np
      · exact free_ s5 z
    have ln : (SD.new b).lies.length = b := by show (List.replicate b _).length = b; rw [List.length_replicate]
    clear hf6 but6 hp5 s5
    walk_at "go"
    refine ⟨(r : Int), (b : Int), rfl, ?_⟩
    have er : (decide (4 ≤ (r : Int)) && decide ((r : Int) ≤ (b : Int) - 8)) = true := by
      rw [decide_eq_true (show 4 ≤ (r : Int) by omega), decide_eq_true (show (r : Int) ≤ (b : Int) - 8 by omega)]; rfl
    rw [er]
    obtain ⟨fs, hdo, no⟩ := ins_of_ds d6
    walk_at "go"
    refine m_call0 hdo (no _ (by decide +kernel)) ?_
    walk_at "go"
    refine n_new (le_size (by simp)) fun t7 H7 n7 s7 h7 => ?_
    walk_at "go"
    refine w_write (xs := Mst.ct (fmM r)) (d6.same s7) (fun x => by show 0 < 1000; decide) (by omega) (by rw [ln]; omega) (stO h7) (mst_ok ⟨Nat.zero_le _, by show r ≤ _; omega, Nat.zero_le _, Nat.zero_le _, Nat.zero_le _⟩) fun F8 H8 d8 c8 f8 => ?_
    have s8 := same_ch (s6.trans s7) c8 nF
    have nF8 := fresh_ch (s6.trans s7) f8 nF
    obtain ⟨fs8, hdo8, no8⟩ := ins_of_ds d8
    walk_at "go"
    refine m_call0 hdo8 (no8 _ (by decide +kernel)) ?_
    walk_at "go"
    refine n_new (le_size (by simp)) fun t9 H9 n9 s9 h9 => ?_
    walk_at "go"
    refine w_write (xs := metaC) (d8.same s9) (fun x => ?_) (by omega) (by show (r : Int) + 1 < ((SD.new b).lies.length : Nat); rw [ln]; omega) (stO h9) meta_ok fun F10 H10 d10 c10 f10 => ?_
    · show (if x = 0 then ([] : List Ct) ++ [Mst.ct (fmM r)] else []).length < 1000
      split <;> simp
    have s10 := same_ch (s8.trans s9) c10 nF8
    have nF10 := fresh_ch (s8.trans s9) f10 nF8
    obtain ⟨fs10, hdo10, no10⟩ := ins_of_ds d10
    walk_at "go"
    refine m_call0 hdo10 (no10 _ (by decide +kernel)) ?_
    walk_at "go"
    refine ⟨p, F10, SD.fm b r, rfl, d10, fm_few, fun ns W H11 F11 d11 c11 f11 => ?_⟩
    rw [if_pos (SD.forceL_true ns _ rfl).1]
    walk_at "go"
    exact k p F11 H11 ns W d11 (same_ch s10 c11 nF10) (fresh_ch s10 f11 nF10)
end
end Vw

set_option Elab.async false
set_option linter.all false
set_option maxRecDepth 100000
set_option maxHeartbeats 4000000
namespace Vw
open PySem PySem.Spec PyProof.Rows L2 RT
local macro_rules | `(tactic| walk_at "s") => `(tactic| with_reducible first
  | refine' s_seq ?_ | refine' s_next ?_ | refine' s_set ?_ | refine' s_ret ?_ | refine' s_retN ?_ | refine' s_drop ?_ | refine' s_if ?_ | refine' s_ipI ?_
  | refine' e_c ?_ | refine' e_op ?_ | refine' e_un ?_ | refine' e_neg ?_ | refine' e_test ?_ | refine' e_tB ?_ | refine' e_bl ?_ | refine' e_and ?_ | refine' e_or ?_ | refine' e_not ?_
  | refine' e_andV ?_ | refine' e_orV ?_ | refine' e_notV ?_ | refine' e_kV ?_ | refine' e_ife ?_ | refine' e_nil ?_ | refine' e_cons ?_ | refine' e_cb ?_ | refine' e_call ?_ | refine' e_chain ?_
  | refine' o_addI ?_ | refine' o_eqI ?_ | refine' o_neI ?_ | refine' o_I0 ?_ | refine' o_pow16 ?_ | refine' o_pow17 ?_ | refine' o_pow18 ?_ | refine' o_pow19 ?_ | refine' o_pow30 ?_ | refine' o_pow31 ?_ | refine' o_pow1 ?_ | refine' o_pow2 ?_ | refine' o_pow3 ?_ | refine' o_pow4 ?_ | refine' o_pow5 ?_ | refine' o_pow6 ?_ | refine' o_pow9 ?_ | refine' o_pow10 ?_ | refine' o_pow12 ?_ | refine' o_pow15 ?_ | refine' o_pow20 ?_ | refine' e_lst ?_ | refine' e_tup ?_ | refine' iteT ?_ | refine' i_nt ?_ | refine' i_nf ?_ | refine' iteF ?_ | refine' c_int ?_ | refine' c_abs ?_ | refine' c_min2 ?_ | refine' c_max2 ?_ | refine' e_tru ?_ | refine' t_bl ?_ | refine' t_non ?_ | refine' t_int ?_ | refine' isN_non ?_ | refine' isN_int ?_ | refine' isN_ref ?_ | refine' isN_str ?_ | refine' isN_bl ?_ | refine' noN_non ?_ | refine' noN_int ?_ | refine' noN_ref ?_ | refine' noN_str ?_ | refine' noN_bl ?_
  | refine' s_brk ?_ | refine' s_cont ?_ | refine' s_for ?_ | refine' e_lc ?_ | refine' e_dc ?_ | refine' e_yes ?_ | refine' i_rng1 ?_ | refine' i_lst0 ?_ | refine' i_tup0 ?_ | refine' e_bm ?_ | refine' e_sl ?_ | refine' e_np ?_ | refine' e_pt ?_ | refine' e_ptI ?_ | refine' e_din ?_ | refine' e_dnin ?_ | refine' e_methE ?_ | refine' p_cons ?_ | refine' p_nil ?_ | refine' s_dput ?_ | refine' e_dget2 ?_ | refine' e_dpop1 ?_ | refine' i_enum0 ?_ | refine' i_rev0 ?_ | refine' g_sub ?_ | refine' s_asg ?_ | refine' i_zip0 ?_ | refine' e_revT ?_ | refine' isB_bl ?_ | refine' notB_bl ?_ | refine' o_neB ?_ | refine' i_nrr ?_ | refine' e_meth ?_ | refine' s_setf ?_ | refine' e_fld ?_ | refine' e_bm0 ?_ | refine' r_tx ?_ | refine' o_eqStr ?_ | refine' o_neStr ?_)
local macro_rules | `(tactic| walk_at "v") => `(tactic| ((with_reducible refine' e_var ?hv ?_); (case hv => exact rfl)))
local macro_rules | `(tactic| walk_at "a") => `(tactic| ((with_reducible refine' s_aug ?hv ?_); (case hv => exact rfl)))
local macro_rules | `(tactic| walk_at "m") => `(tactic| first
  | ((with_reducible refine' o_mod ?hv ?_); (case hv => first | decide | omega))
  | ((with_reducible refine' o_mulR ?hv ?_); (case hv => omega))
  | ((with_reducible refine' o_mulL ?hv ?_); (case hv => omega))
  | ((with_reducible refine' o_div ?hv ?hw ?_); (case hv => omega); (case hw => omega))
  | ((with_reducible refine' o_pow _ ?hv ?hw ?hx ?_); (case hv => exact rfl); (case hw => decide); (case hx => decide)))
local macro_rules | `(tactic| walk_at "i") => `(tactic| (first
  | ((with_reducible refine' isi_int true ?hv ?_); (case hv => exact (by decide +kernel)))
  | ((with_reducible refine' isi_int false ?hv ?_); (case hv => exact (by decide +kernel)))
  | ((with_reducible refine' isi_non true ?hv ?_); (case hv => exact (by decide +kernel)))
  | ((with_reducible refine' isi_non false ?hv ?_); (case hv => exact (by decide +kernel)))
  | ((with_reducible refine' isi_str true ?hv ?_); (case hv => exact (by decide +kernel)))
  | ((with_reducible refine' isi_str false ?hv ?_); (case hv => exact (by decide +kernel)))
  | ((with_reducible refine' isi_bl true ?hv ?_); (case hv => exact (by decide +kernel)))
  | ((with_reducible refine' isi_bl false ?hv ?_); (case hv => exact (by decide +kernel)))
  | ((with_reducible refine' isi_t true ?hw ?hv ?_); (case hw => assumption); (case hv => exact (by decide +kernel)))
  | ((with_reducible refine' isi_t false ?hw ?hv ?_); (case hw => assumption); (case hv => exact (by decide +kernel)))
  | ((with_reducible refine' isi_l true ?hw ?hv ?_); (case hw => assumption); (case hv => exact (by decide +kernel)))
  | ((with_reducible refine' isi_l false ?hw ?hv ?_); (case hw => assumption); (case hv => exact (by decide +kernel)))
  | ((with_reducible refine' isi_tup true ?hw ?hv ?_); (case hw => assumption); (case hv => exact (by decide +kernel)))
  | ((with_reducible refine' isi_tup false ?hw ?hv ?_); (case hw => assumption); (case hv => exact (by decide +kernel)))
  | ((with_reducible refine' isi_lst true ?hw ?hv ?_); (case hw => assumption); (case hv => exact (by decide +kernel)))
  | ((with_reducible refine' isi_lst false ?hw ?hv ?_); (case hw => assumption); (case hv => exact (by decide +kernel)))))
local macro_rules | `(tactic| walk_at "om") => `(tactic| first | omega | (simp only [List.length_cons, List.length_nil, List.length_map, List.length_append, List.length_range]; omega))
local macro_rules | `(tactic| walk_at "d") => `(tactic| (first
  | ((with_reducible refine' i_dt ?hv ?_); (case hv => walk_at "om"))
  | ((with_reducible refine' i_df ?hv ?_); (case hv => walk_at "om"))
  | ((with_reducible refine' i_ndt ?hv ?_); (case hv => walk_at "om"))
  | ((with_reducible refine' i_ndf ?hv ?_); (case hv => walk_at "om"))))
local macro_rules | `(tactic| walk_at "x") => `(tactic| first
  | ((with_reducible refine' o_ixA ?hv ?hw ?_); (case hv => assumption); (case hw => exact rfl))
  | ((with_reducible refine' o_ixU ?hv ?hw ?_); (case hv => assumption); (case hw => exact rfl))
  | ((with_reducible refine' o_ixL ?hv ?hw ?_); (case hv => assumption); (case hw => exact rfl))
  | ((with_reducible refine' o_ixT ?hv ?hw ?_); (case hv => assumption); (case hw => exact rfl))
  | ((with_reducible refine' set_ ?hv ?hw ?_); (case hv => assumption); (case hw => exact rfl))
  | ((with_reducible refine' e_lenM ?hv ?_); (case hv => first | assumption | exact slO (by assumption)))
  | ((with_reducible refine' e_lenN ?hv ?_); (case hv => first | assumption | exact stO (by assumption)))
  | ((with_reducible refine' e_lenL ?hv ?_); (case hv => first | assumption | exact slO (by assumption)))
  | ((with_reducible refine' e_lenT ?hv ?_); (case hv => first | assumption | exact stO (by assumption))))
local macro_rules | `(tactic| walk_at "c") => `(tactic| first
  | ((with_reducible refine' c_listL ?hv ?_); (case hv => assumption))
  | ((with_reducible refine' c_listT ?hv ?_); (case hv => assumption))
  | ((with_reducible refine' c_tupL ?hv ?_); (case hv => first | assumption | exact slO (by assumption)))
  | ((with_reducible refine' c_tupT ?hv ?_); (case hv => assumption))
  | ((with_reducible refine' t_lst ?hv ?_); (case hv => first | assumption | exact slO (by assumption)))
  | ((with_reducible refine' t_tup ?hv ?_); (case hv => assumption))
  | ((with_reducible refine' r_sl ?hv ?_); (case hv => first | assumption | exact slO (by assumption)))
  | ((with_reducible refine' o_inL ?hv ?_); (case hv => first | assumption | exact slO (by assumption)))
  | ((with_reducible refine' o_inT ?hv ?_); (case hv => first | assumption | exact stO (by assumption)))
  | ((with_reducible refine' o_niL ?hv ?_); (case hv => first | assumption | exact slO (by assumption)))
  | ((with_reducible refine' o_niT ?hv ?_); (case hv => first | assumption | exact stO (by assumption)))
  | ((with_reducible refine' ty_lst ?hv ?_); (case hv => assumption)))
local macro_rules | `(tactic| walk_at "mo") => `(tactic| repeat' (first | exact m_yes | exact m_var | exact m_c | exact m_I0 | exact m_I | exact m_ix | exact m_add | exact m_in | exact m_int1 | exact m_abs | exact m_nil | refine' m_and ?_ ?_ | refine' m_test ?_ | refine' m_tB ?_ | refine' m_op ?_ ?_ ?_ | refine' m_cons ?_ ?_ | refine' m_cb ?_ ?_))
local macro_rules | `(tactic| walk_at "go") => `(tactic| repeat' (first | walk_at "s" | walk_at "v" | walk_at "a" | walk_at "x" | walk_at "m" | walk_at "c" | walk_at "i" | walk_at "d"))

section
variable {P : Program} {w : World} {K : PySem.W.Frag} {mg : Str → Option Value} {base : Heap}
/-! ### what a force leaves -/
theorem shows_got {S : SD} {b x : Int} {c : Ct} {cs : List Ct} (h : S.Ok) (e : S.rows b = c :: cs) (x0 : 0 ≤ x) : (S.got b c cs).shows x = S.shows x := by
  have hb := h.out b (by rw [e]; simp)
  unfold SD.shows
  show (if (if x = b then cs else S.rows x) = [] then (S.lies.set b.toNat c)[x.toNat]? else (if x = b then cs else S.rows x)[(if x = b then cs else S.rows x).length - 1]?) = _
  by_cases hx : x = b
  · subst hx
    rw [if_pos rfl, e]
    cases cs with
    | nil =>
      rw [if_pos rfl, if_neg (by simp), List.getElem?_set_self (by omega)]; rfl
    | cons d ds =>
      rw [if_neg (by simp), if_neg (by simp)]
      show (d :: ds)[ds.length]? = (c :: d :: ds)[ds.length + 1]?
      rw [List.getElem?_cons_succ]
  · rw [if_neg hx]
    rw [List.getElem?_set_ne (by omega)]
structure After (S T : SD) : Prop where
  ok : T.Ok
  pw : T.pw = none
  ln : T.lies.length = S.lies.length
  sh : ∀ x, 0 ≤ x → T.shows x = S.shows x
theorem forceL_after {S : SD} {ns : List Int} (h : S.Ok) (p : S.pw = none) : After S (SD.forceL ns S).1 := by
  refine SD.forceL_ind (Pr := fun T => After S T) (fun b T c cs t e np => ?_) ns S ⟨h, p, rfl, fun _ _ => rfl⟩
  refine ⟨SD.got_ok t.ok e np, by show T.pw.map _ = none; rw [t.pw]; rfl, ?_, fun x x0 => (shows_got t.ok e x0).trans (t.sh x x0)⟩
  show (T.lies.set _ _).length = _
  rw [List.length_set]; exact t.ln
theorem fB_rows {b x : Int} : ∀ (n : Nat) (S : SD), S.pw = none → (S.rows b).length ≤ n → (SD.fB b n S).1.rows x = if x = b then [] else S.rows x
  | 0, S, _, h => by
    have e : S.rows b = [] := List.length_eq_zero_iff.mp (by omega)
    show S.rows x = _
    by_cases hx : x = b
    · rw [if_pos hx, hx, e]
    · rw [if_neg hx]
  | n + 1, S, p, h => by
    unfold SD.fB
    split
    · next e =>
      show S.rows x = _
      by_cases hx : x = b
      · rw [if_pos hx, hx, e]
      · rw [if_neg hx]
    · next c cs e =>
      rw [if_neg (by rw [p]; simp)]
      have e2 : (S.got b c cs).rows b = cs := if_pos rfl
      rw [fB_rows n (S.got b c cs) (by show S.pw.map _ = none; rw [p]; rfl) (by rw [e2]; rw [e, List.length_cons] at h; omega)]
      by_cases hx : x = b
      · rw [if_pos hx, if_pos hx]
      · rw [if_neg hx, if_neg hx]
        exact if_neg hx
theorem forceL_rows {x : Int} : ∀ (ns : List Int) (S : SD), S.pw = none → (SD.forceL ns S).1.rows x = if x ∈ ns then [] else S.rows x
  | [], S, _ => by rw [if_neg (by simp)]; rfl
  | b :: bs, S, p => by
    have h1 := SD.fB_true (b := b) (S.rows b).length S p
    have h2 : (S.forceB b).1.rows x = if x = b then [] else S.rows x := fB_rows _ S p (Nat.le_refl _)
    rw [SD.forceL_cons, if_pos (show (S.forceB b).2 = true from h1.1), forceL_rows bs (S.forceB b).1 h1.2, h2]
    by_cases hx : x = b
    · rw [if_pos hx, if_pos (show x ∈ b :: bs by rw [hx]; simp)]
      split <;> rfl
    · rw [if_neg hx]
      by_cases hm : x ∈ bs
      · rw [if_pos hm, if_pos (List.mem_cons_of_mem _ hm)]
      · rw [if_neg hm, if_neg (by simp [hx, hm])]
theorem calm_rows {S : SD} {ns : List Int} (W : Wt S ns) (p : S.pw = none) (x : Int) : (SD.forceL ns S).1.rows x = [] := by
  rw [forceL_rows ns S p]
  split
  · rfl
  · next h =>
    cases e : S.rows x with
    | nil => rfl
    | cons c cs => exact absurd ((W.mem x).mpr (by rw [e]; simp)) h
theorem shows_lies {S : SD} {x : Int} (e : S.rows x = []) : S.shows x = S.lies[x.toNat]? := if_pos e
theorem shows_wrote {S : SD} {b x : Int} {c : Ct} : (S.wrote b c).shows x = if x = b then some c else S.shows x := by
  unfold SD.shows
  show (if (if x = b then S.rows b ++ [c] else S.rows x) = [] then S.lies[x.toNat]? else (if x = b then S.rows b ++ [c] else S.rows x)[(if x = b then S.rows b ++ [c] else S.rows x).length - 1]?) = _
  by_cases hx : x = b
  · rw [if_pos hx, if_neg (by simp), if_pos hx]; simp
  · rw [if_neg hx, if_neg hx]
/-! ### a log opened -/
def LD.mores (L : LD) (rs : List Rc) : LD := rs.foldl (fun L r => L.more r.2.1 r.2.2) L
def LD.opened (M : Mst) (rs : List Rc) : LD := { (LD.mores ⟨M.e + 1, M.r, M.m, M.k, M.k, none, []⟩ rs) with fo := some (LD.mores ⟨M.e + 1, M.r, M.m, M.k, M.k, none, []⟩ rs).last }
end
end Vw

set_option Elab.async false
set_option linter.all false
set_option maxRecDepth 100000
set_option maxHeartbeats 4000000
namespace Vw
open PySem PySem.Spec PyProof.Rows L2 RT
local macro_rules | `(tactic| walk_at "s") => `(tactic| with_reducible first
  | refine' s_seq ?_ | refine' s_next ?_ | refine' s_set ?_ | refine' s_ret ?_ | refine' s_retN ?_ | refine' s_drop ?_ | refine' s_if ?_ | refine' s_ipI ?_
  | refine' e_c ?_ | refine' e_op ?_ | refine' e_un ?_ | refine' e_neg ?_ | refine' e_test ?_ | refine' e_tB ?_ | refine' e_bl ?_ | refine' e_and ?_ | refine' e_or ?_ | refine' e_not ?_
  | refine' e_andV ?_ | refine' e_orV ?_ | refine' e_notV ?_ | refine' e_kV ?_ | refine' e_ife ?_ | refine' e_nil ?_ | refine' e_cons ?_ | refine' e_cb ?_ | refine' e_call ?_ | refine' e_chain ?_
  | refine' o_addI ?_ | refine' o_eqI ?_ | refine' o_neI ?_ | refine' o_I0 ?_ | refine' o_pow16 ?_ | refine' o_pow17 ?_ | refine' o_pow18 ?_ | refine' o_pow19 ?_ | refine' o_pow30 ?_ | refine' o_pow31 ?_ | refine' o_pow1 ?_ | refine' o_pow2 ?_ | refine' o_pow3 ?_ | refine' o_pow4 ?_ | refine' o_pow5 ?_ | refine' o_pow6 ?_ | refine' o_pow9 ?_ | refine' o_pow10 ?_ | refine' o_pow12 ?_ | refine' o_pow15 ?_ | refine' o_pow20 ?_ | refine' e_lst ?_ | refine' e_tup ?_ | refine' iteT ?_ | refine' i_nt ?_ | refine' i_nf ?_ | refine' iteF ?_ | refine' c_int ?_ | refine' c_abs ?_ | refine' c_min2 ?_ | refine' c_max2 ?_ | refine' e_tru ?_ | refine' t_bl ?_ | refine' t_non ?_ | refine' t_int ?_ | refine' isN_non ?_ | refine' isN_int ?_ | refine' isN_ref ?_ | refine' isN_str ?_ | refine' isN_bl ?_ | refine' noN_non ?_ | refine' noN_int ?_ | refine' noN_ref ?_ | refine' noN_str ?_ | refine' noN_bl ?_
  | refine' s_brk ?_ | refine' s_cont ?_ | refine' s_for ?_ | refine' e_lc ?_ | refine' e_dc ?_ | refine' e_yes ?_ | refine' i_rng1 ?_ | refine' i_lst0 ?_ | refine' i_tup0 ?_ | refine' e_bm ?_ | refine' e_sl ?_ | refine' e_np ?_ | refine' e_pt ?_ | refine' e_ptI ?_ | refine' e_din ?_ | refine' e_dnin ?_ | refine' e_methE ?_ | refine' p_cons ?_ | refine' p_nil ?_ | refine' s_dput ?_ | refine' e_dget2 ?_ | refine' e_dpop1 ?_ | refine' i_enum0 ?_ | refine' i_rev0 ?_ | refine' g_sub ?_ | refine' s_asg ?_ | refine' i_zip0 ?_ | refine' e_revT ?_ | refine' isB_bl ?_ | refine' notB_bl ?_ | refine' o_neB ?_ | refine' i_nrr ?_ | refine' e_meth ?_ | refine' s_setf ?_ | refine' e_fld ?_ | refine' e_bm0 ?_ | refine' r_tx ?_ | refine' o_eqStr ?_ | refine' o_neStr ?_)
local macro_rules | `(tactic| walk_at "v") => `(tactic| ((with_reducible refine' e_var ?hv ?_); (case hv => exact rfl)))
local macro_rules | `(tactic| walk_at "a") => `(tactic| ((with_reducible refine' s_aug ?hv ?_); (case hv => exact rfl)))
local macro_rules | `(tactic| walk_at "m") => `(tactic| first
  | ((with_reducible refine' o_mod ?hv ?_); (case hv => first | decide | omega))
  | ((with_reducible refine' o_mulR ?hv ?_); (case hv => omega))
  | ((with_reducible refine' o_mulL ?hv ?_); (case hv => omega))
  | ((with_reducible refine' o_div ?hv ?hw ?_); (case hv => omega); (case hw => omega))
  | ((with_reducible refine' o_pow _ ?hv ?hw ?hx ?_); (case hv => exact rfl); (case hw => decide); (case hx => decide)))
local macro_rules | `(tactic| walk_at "i") => `(tactic| (first
  | ((with_reducible refine' isi_int true ?hv ?_); (case hv => exact (by decide +kernel)))
  | ((with_reducible refine' isi_int false ?hv ?_); (case hv => exact (by decide +kernel)))
  | ((with_reducible refine' isi_non true ?hv ?_); (case hv => exact (by decide +kernel)))
  | ((with_reducible refine' isi_non false ?hv ?_); (case hv => exact (by decide +kernel)))
  | ((with_reducible refine' isi_str true ?hv ?_); (case hv => exact (by decide +kernel)))
  | ((with_reducible refine' isi_str false ?hv ?_); (case hv => exact (by decide +kernel)))
  | ((with_reducible refine' isi_bl true ?hv ?_); (case hv => exact (by decide +kernel)))
  | ((with_reducible refine' isi_bl false ?hv ?_); (case hv => exact (by decide +kernel)))
  | ((with_reducible refine' isi_t true ?hw ?hv ?_); (case hw => assumption); (case hv => exact (by decide +kernel)))
  | ((with_reducible refine' isi_t false ?hw ?hv ?_); (case hw => assumption); (case hv => exact (by decide +kernel)))
  | ((with_reducible refine' isi_l true ?hw ?hv ?_); (case hw => assumption); (case hv => exact (by decide +kernel)))
  | ((with_reducible refine' isi_l false ?hw ?hv ?_); (case hw => assumption); (case hv => exact (by decide +kernel)))
  | ((with_reducible refine' isi_tup true ?hw ?hv ?_); (case hw => assumption); (case hv => exact (by decide +kernel)))
  | ((with_reducible refine' isi_tup false ?hw ?hv ?_); (case hw => assumption); (case hv => exact (by decide +kernel)))
  | ((with_reducible refine' isi_lst true ?hw ?hv ?_); (case hw => assumption); (case hv => exact (by decide +kernel)))
  | ((with_reducible refine' isi_lst false ?hw ?hv ?_); (case hw => assumption); (case hv => exact (by decide +kernel)))))
local macro_rules | `(tactic| walk_at "om") => `(tactic| first | omega | (simp only [List.length_cons, List.length_nil, List.length_map, List.length_append, List.length_range]; omega))
local macro_rules | `(tactic| walk_at "d") => `(tactic| (first
  | ((with_reducible refine' i_dt ?hv ?_); (case hv => walk_at "om"))
  | ((with_reducible refine' i_df ?hv ?_); (case hv => walk_at "om"))
  | ((with_reducible refine' i_ndt ?hv ?_); (case hv => walk_at "om"))
  | ((with_reducible refine' i_ndf ?hv ?_); (case hv => walk_at "om"))))
local macro_rules | `(tactic| walk_at "x") => `(tactic| first
  | ((with_reducible refine' o_ixA ?hv ?hw ?_); (case hv => assumption); (case hw => exact rfl))
  | ((with_reducible refine' o_ixU ?hv ?hw ?_); (case hv => assumption); (case hw => exact rfl))
  | ((with_reducible refine' o_ixL ?hv ?hw ?_); (case hv => assumption); (case hw => exact rfl))
  | ((with_reducible refine' o_ixT ?hv ?hw ?_); (case hv => assumption); (case hw => exact rfl))
  | ((with_reducible refine' set_ ?hv ?hw ?_); (case hv => assumption); (case hw => exact rfl))
  | ((with_reducible refine' e_lenM ?hv ?_); (case hv => first | assumption | exact slO (by assumption)))
  | ((with_reducible refine' e_lenN ?hv ?_); (case hv => first | assumption | exact stO (by assumption)))
  | ((with_reducible refine' e_lenL ?hv ?_); (case hv => first | assumption | exact slO (by assumption)))
  | ((with_reducible refine' e_lenT ?hv ?_); (case hv => first | assumption | exact stO (by assumption))))
local macro_rules | `(tactic| walk_at "c") => `(tactic| first
  | ((with_reducible refine' c_listL ?hv ?_); (case hv => assumption))
  | ((with_reducible refine' c_listT ?hv ?_); (case hv => assumption))
  | ((with_reducible refine' c_tupL ?hv ?_); (case hv => first | assumption | exact slO (by assumption)))
  | ((with_reducible refine' c_tupT ?hv ?_); (case hv => assumption))
  | ((with_reducible refine' t_lst ?hv ?_); (case hv => first | assumption | exact slO (by assumption)))
  | ((with_reducible refine' t_tup ?hv ?_); (case hv => assumption))
  | ((with_reducible refine' r_sl ?hv ?_); (case hv => first | assumption | exact slO (by assumption)))
  | ((with_reducible refine' o_inL ?hv ?_); (case hv => first | assumption | exact slO (by assumption)))
  | ((with_reducible refine' o_inT ?hv ?_); (case hv => first | assumption | exact stO (by assumption)))
  | ((with_reducible refine' o_niL ?hv ?_); (case hv => first | assumption | exact slO (by assumption)))
  | ((with_reducible refine' o_niT ?hv ?_); (case hv => first | assumption | exact stO (by assumption)))
  | ((with_reducible refine' ty_lst ?hv ?_); (case hv => assumption)))
local macro_rules | `(tactic| walk_at "mo") => `(tactic| repeat' (first | exact m_yes | exact m_var | exact m_c | exact m_I0 | exact m_I | exact m_ix | exact m_add | exact m_in | exact m_int1 | exact m_abs | exact m_nil | refine' m_and ?_ ?_ | refine' m_test ?_ | refine' m_tB ?_ | refine' m_op ?_ ?_ ?_ | refine' m_cons ?_ ?_ | refine' m_cb ?_ ?_))
local macro_rules | `(tactic| walk_at "go") => `(tactic| repeat' (first | walk_at "s" | walk_at "v" | walk_at "a" | walk_at "x" | walk_at "m" | walk_at "c" | walk_at "i" | walk_at "d"))

section
variable {P : Program} {w : World} {K : PySem.W.Frag} {mg : Str → Option Value} {base : Heap}
def Mst.up (M : Mst) : Mst := { M with e := M.e + 1 }
def recsOf (M : Mst) (g : Nat → Option Pc) : List Rc := readP (countG M.up (M.e + 1) g M.r [] M.k)
theorem ch_free {F : List Addr} {H H' : Hp} {x : Addr} (c : Ch F H H') (n : H' x = none) : x ∈ F ∨ H x = none := by
  by_cases m : x ∈ F
  · exact .inl m
  · refine .inr ?_
    cases e : H x with
    | none => rfl
    | some o => rw [c.at_ m e] at n; cases n
/-- the disk behind an opening -/
structure Opened (S T : SD) (M : Mst) : Prop where
  ok : T.Ok
  pw : T.pw = none
  ln : T.lies.length = S.lies.length
  rows : ∀ x, T.rows x = []
  sh0 : T.shows 0 = some (Mst.ct M.up)
  sh : ∀ x, 1 ≤ x → T.shows x = S.shows x
theorem s_fldO {q C dx : Addr} {H : Hp} {fs : List (Str × V)} {f : Str} {x y : V} {R : Hp → Prop} (ex : x = .ref q) (h : H q = some (.ins C dx fs)) (cl : Cls K C) (na : NoAttr K C f) (l : fs.length < 1000) (r : ∀ H', Oth q H H' → H' q = some (.ins C dx (putF f y fs)) → R H') : SetQ K f y x H R :=
  s_fld ex h cl na l (r _ (fun b o n e => by rw [upd_ne n]; exact e) upd_same)
theorem rd_all : ∀ {ps : List Pc} {st : List V × List Rc} {n : Nat}, (∀ p ∈ ps, p.xs.length ≤ 36) → st.1.length ≤ 36 * n → (∀ r ∈ st.2, r.2.1.length ≤ 36 * (n + ps.length)) → ∀ r ∈ (ps.foldl rdStep st).2, r.2.1.length ≤ 36 * (n + ps.length)
  | [], st, n, _, _, h, r, hr => h r hr
  | p :: ps, st, n, hp, h1, h2, r, hr => by
    have hl := hp p (by simp)
    have en : n + (p :: ps).length = (n + 1) + ps.length := by rw [List.length_cons]; omega
    rw [en] at h2 ⊢
    refine rd_all (ps := ps) (st := rdStep st p) (n := n + 1) (fun x hx => hp x (List.mem_cons_of_mem _ hx)) ?_ (fun r hr => ?_) r hr
    · unfold rdStep
      split
      · show 0 ≤ _
        omega
      · show (st.1 ++ p.xs).length ≤ _
        rw [List.length_append]; omega
    · unfold rdStep at hr
      split at hr
      · rcases List.mem_append.mp hr with z | z
        · exact h2 r z
        · rw [List.mem_singleton.mp z]
          show (st.1 ++ p.xs).length ≤ _
          rw [List.length_append]; omega
      · exact h2 r hr
theorem mores_snoc {L : LD} {rs : List Rc} {r : Rc} : L.mores (rs ++ [r]) = (L.mores rs).more r.2.1 r.2.2 := by unfold LD.mores; rw [List.foldl_append]; rfl
theorem mores_kept : ∀ {rs : List Rc} {L : LD}, (L.mores rs).kept.length = L.kept.length + rs.length
  | [], L => rfl
  | r :: rs, L => by
    have h := mores_kept (rs := rs) (L := L.more r.2.1 r.2.2)
    have h2 : (L.more r.2.1 r.2.2).kept.length = L.kept.length + 1 := by show (L.kept ++ [_]).length = _; rw [List.length_append]; rfl
    show ((L.more r.2.1 r.2.2).mores rs).kept.length = _
    rw [h, h2, List.length_cons]; omega
def sp_init (K : PySem.W.Frag) (CL CD : Addr) : Sp := fun vs H Q _ => ∃ (q p : Addr) (F : List Addr) (S : SD) (M : Mst) (g : Nat → Option Pc), vs = [.ref q, .ref p] ∧ InsAt CL H q [] ∧ q ∉ F ∧ DS K CD H p F S ∧ S.shows 0 = some (Mst.ct M) ∧ 4 ≤ M.r ∧ M.r + 8 ≤ S.lies.length ∧ M.k ≤ 1000000000 ∧ M.e ≤ 1000000000 ∧ M.m ≤ 1000000000 ∧ M.f ≤ 1000000000 ∧
  S.pw = none ∧ Few S ∧ Ring S M.r M.k g ∧
  ∀ T F' G H', Opened S T M → DS K CD H' p F' T → LS K CL H' q p G (LD.opened M (recsOf M g)) → (∀ x ∈ F', x ∉ G) → Ch (q :: F) H H' → (∀ x ∈ F', x ∈ F ∨ H x = none) → (∀ x ∈ G, x = q ∨ x ∈ F ∨ H x = none) → Q .non H'
theorem ok_Log_init (T : Txt K mg) : FnOk P w K mg base CX0 8 T.m_Log_init.f T.m_Log_init.fd ["self", "disk"] ((sp_init K T.C_Log T.C_Disk)) := by
  refine T.m_Log_init.F.ok sc_Log_init (fun vs H Q E h => ?_) (fun cdv A outer s H vs Q E hr h => ?_)
  · obtain ⟨q, p, F, S, M, g, rfl, _⟩ := h
    rfl
  · obtain ⟨q, p, F, S, M, g, rfl, hI, qF, hD, hM, h4, h8, b1, b2, b3, b4, hpw, hfew, hR, k⟩ := h
    refine ⟨_, (pss_cons (ps_asg (pe_call (ok_master_of T) (hr.mono (by decide)) (by rfl) T.master_of.g T.master_of.F.kp T.master_of.b .nil pass0 (pa_cons (pv 1) pa_nil)) (pgTup (K := K) (n := 6) (pg_tup (n := 6) rfl (pgs_cons (pg_name (i := 2) sc_Log_init.nd rfl (Or.inl rfl)) (pgs_cons (pg_name (i := 3) sc_Log_init.nd rfl (Or.inl rfl)) (pgs_cons (pg_name (i := 4) sc_Log_init.nd rfl (Or.inl rfl)) (pgs_cons (pg_name (i := 5) sc_Log_init.nd rfl (Or.inl rfl)) (pgs_cons (pg_name (i := 6) sc_Log_init.nd rfl (Or.inl rfl)) (pgs_cons (pg_name (i := 7) sc_Log_init.nd rfl (Or.inl rfl)) pgs_nil)))))))))
    (pss_cons (ps_expr (pe_meth0 (pv 1) T.k_Disk.cl T.m_Disk_calm.i (ok_Disk_calm T) (hr.mono (by decide)) T.m_Disk_calm.b .nil passL))
    (pss_cons (ps_expr (pe_meth (pv 1) T.k_Disk.cl T.m_Disk_write.i (ok_Disk_write T) (hr.mono (by decide)) T.m_Disk_write.b .nil pass0 (pa_cons pe_int (pa_cons (pe_tup (pa_cons (pe_glob (by rfl) T.c_MASTER.h T.c_MASTER.r) (pa_cons (pe_op oAdd (pv 3) pe_int) (pa_cons (pv 4) (pa_cons (pv 5) (pa_cons (pv 6) (pa_cons (pv 7) pa_nil))))))) pa_nil))))
    (pss_cons (ps_expr (pe_meth (pv 1) T.k_Disk.cl T.m_Disk_force.i (ok_Disk_force T) (hr.mono (by decide)) T.m_Disk_force.b .nil passL (pa_cons (pe_tup (pa_cons pe_int pa_nil)) pa_nil)))
    (pss_cons (psFld (K := K) (pv 0) (pv 1) rfl)
    (pss_cons (psFld (K := K) (pv 0) (pe_op oAdd (pv 3) pe_int) rfl)
    (pss_cons (psFld (K := K) (pv 0) (pv 4) rfl)
    (pss_cons (psFld (K := K) (pv 0) (pv 6) rfl)
    (pss_cons (psFld (K := K) (pv 0) (pe_lst pa_nil) rfl)
    (pss_cons (psFld (K := K) (pv 0) (pv 5) rfl)
    (pss_cons (psFld (K := K) (pv 0) (pv 5) rfl)
    (pss_cons (ps_for PassesOwn.never rfl (piL (K := K) (pe_call (ok_read_prefix T) (hr.mono (by decide)) (by rfl) T.read_prefix.g T.read_prefix.F.kp T.read_prefix.b .nil pass0 (pa_cons (pv 1) (pa_cons (pe_op oAdd (pv 3) pe_int) pa_nil)))) (pgTup (K := K) (n := 3) (pg_tup (n := 3) rfl (pgs_cons (pg_name (i := 2) sc_Log_init.nd rfl (Or.inl rfl)) (pgs_cons (pg_name (i := 8) sc_Log_init.nd rfl (Or.inl rfl)) (pgs_cons (pg_name (i := 9) sc_Log_init.nd rfl (Or.inl rfl)) pgs_nil)))))
      (pss_one (ps_expr (pe_meth (pv 0) T.k_Log.cl T.m_Log__keep.i (ok_Log__keep T) (hr.mono (by decide)) T.m_Log__keep.b .nil pass0 (pa_cons (pv 8) (pa_cons (pv 9) pa_nil))))))
    (pss_one (psFld (K := K) (pv 0) (pe_meth0 (pv 0) T.k_Log.cl T.m_Log_last.i (ok_Log_last T) (hr.mono (by decide)) T.m_Log_last.b .nil pass0) rfl)))))))))))))), ?_⟩
    obtain ⟨dx, hob⟩ := hI
    have h600 := hD.len
    walk_at "go"
    refine ⟨p, F, S, M, rfl, hD, hM, h4, h8, fun c H1 hc s1 => ?_⟩
    refine ⟨c, _, rfl, hc, rfl, _, _, rfl, _, _, rfl, _, _, rfl, _, _, rfl, _, _, rfl, _, _, rfl, rfl, ?_⟩
    obtain ⟨fs, hdo, no⟩ := ins_of_ds (hD.same s1)
    have okS : S.Ok := by
      obtain ⟨D, _, _, v⟩ := hD
      exact v.ok
    walk_at "go"
    refine m_call0 hdo (no _ (by decide +kernel)) ?_
    walk_at "go"
    refine ⟨p, F, S, rfl, hD.same s1, hfew, fun ns W H2 F2 d2 c2 f2 => ?_⟩
    rw [if_pos (SD.forceL_true ns S hpw).1]
    have a2 := forceL_after (ns := ns) okS hpw
    have r2 := calm_rows W hpw
    generalize (SD.forceL ns S).1 = S2 at *
    obtain ⟨fs2, hdo2, no2⟩ := ins_of_ds d2
    walk_at "go"
    refine m_call0 hdo2 (no2 _ (by decide +kernel)) ?_
    walk_at "go"
    refine n_new (le_size (by simp)) fun t3 H3 n3 s3 h3 => ?_
    walk_at "go"
    have ln2 := a2.ln
    refine w_write (xs := Mst.ct M.up) (d2.same s3) (fun x => by rw [r2]; show 0 < 1000; decide) (by omega) (by omega) (stO h3) (mst_ok ⟨by show M.e + 1 ≤ _; omega, by show M.r ≤ _; omega, by show M.k ≤ _; omega, by show M.m ≤ _; omega, by show M.f ≤ _; omega⟩) fun F4 H4 d4 c4 f4 => ?_
    obtain ⟨fs4, hdo4, no4⟩ := ins_of_ds d4
    walk_at "go"
    refine m_call0 hdo4 (no4 _ (by decide +kernel)) ?_
    walk_at "go"
    refine n_new (le_size (by simp)) fun t5 H5 n5 s5 h5 => ?_
    walk_at "go"
    refine ⟨p, F4, S2.wrote 0 (Mst.ct M.up), t5, [0], rfl, d4.same s5, stO h5, by decide, by decide +kernel, fun n hn => by rw [List.mem_singleton.mp hn]; show (0 : Int) < (S2.lies.length : Nat); omega, fun H6 F6 d6 c6 f6 => ?_⟩
    have pw4 : (S2.wrote 0 (Mst.ct M.up)).pw = none := a2.pw
    have ok4 : (S2.wrote 0 (Mst.ct M.up)).Ok := by
      obtain ⟨D, _, _, v⟩ := d4
      exact v.ok
    rw [if_pos (SD.forceL_true [0] _ pw4).1]
    have a6 := forceL_after (ns := [0]) ok4 pw4
    have r6 : ∀ x, (SD.forceL [0] (S2.wrote 0 (Mst.ct M.up))).1.rows x = [] := fun x => by
      rw [forceL_rows _ _ pw4]
      split
      · rfl
      · next h =>
        show (if x = 0 then _ else S2.rows x) = []
        rw [if_neg (by simpa using h)]; exact r2 x
    have op : Opened S (SD.forceL [0] (S2.wrote 0 (Mst.ct M.up))).1 M := ⟨a6.ok, a6.pw, a6.ln.trans a2.ln, r6, by rw [a6.sh 0 (by omega), shows_wrote, if_pos rfl], fun x hx => by rw [a6.sh x (by omega), shows_wrote, if_neg (by omega), a2.sh x (by omega)]⟩
    generalize (SD.forceL [0] (S2.wrote 0 (Mst.ct M.up))).1 = T6 at *
    walk_at "go"
    have cF : Ch F H H6 := by
      have c02 : Ch F H H2 := (Ch.of_same (F := F) s1).trans c2 fun x hx => .inl hx
      have f02 : ∀ x ∈ F2, x ∈ F ∨ H x = none := fun x hx => (f2 x hx).imp id (free_ s1)
      have c04 : Ch F H H4 := c02.trans ((Ch.of_same (F := F2) s3).trans c4 fun x hx => .inl hx) f02
      have f04 : ∀ x ∈ F4, x ∈ F ∨ H x = none := fun x hx => by
        rcases f4 x hx with z | z
        · exact f02 x z
        · exact ch_free c02 (free_ s3 z)
      exact c04.trans ((Ch.of_same (F := F4) s5).trans c6 fun x hx => .inl hx) f04
    have fF : ∀ x ∈ F6, x ∈ F ∨ H x = none := by
      have c02 : Ch F H H2 := (Ch.of_same (F := F) s1).trans c2 fun x hx => .inl hx
      have f02 : ∀ x ∈ F2, x ∈ F ∨ H x = none := fun x hx => (f2 x hx).imp id (free_ s1)
      have c04 : Ch F H H4 := c02.trans ((Ch.of_same (F := F2) s3).trans c4 fun x hx => .inl hx) f02
      have f04 : ∀ x ∈ F4, x ∈ F ∨ H x = none := fun x hx => by
        rcases f4 x hx with z | z
        · exact f02 x z
        · exact ch_free c02 (free_ s3 z)
      intro x hx
      rcases f6 x hx with z | z
      · exact f04 x z
      · exact ch_free c04 (free_ s5 z)
    have hob6 := cF.at_ qF hob
    have qF6 : q ∉ F6 := fun m => by
      rcases fF q m with z | z
      · exact qF z
      · rw [hob] at z; cases z
    clear c2 c4 c6 f2 f4 f6 d4 d2 a2 a6 s3 s5 h5 n5 n3 hdo hdo2 hdo4 ok4 pw4
    have ee : (M.e : Int) + 1 = ((M.e + 1 : Nat) : Int) := rfl
    refine s_fldO rfl hob6 T.k_Log.cl T.n_Log__disk (by show 0 < 1000; decide) fun Ha oa ha => ?_
    walk_at "go"
    rw [ee]
    refine s_fldO rfl ha T.k_Log.cl T.n_Log__epoch (by show 1 < 1000; decide) fun Hb ob hb => ?_
    walk_at "go"
    refine s_fldO rfl hb T.k_Log.cl T.n_Log__ring (by show 2 < 1000; decide) fun Hc oc hc' => ?_
    walk_at "go"
    refine s_fldO rfl hc' T.k_Log.cl T.n_Log__begin (by show 3 < 1000; decide) fun Hd od hd => ?_
    walk_at "go"
    refine n_new (le_size (by simp)) fun kl He ne se he => ?_
    walk_at "go"
    refine s_fldO rfl (se _ _ hd) T.k_Log.cl T.n_Log__kept (by show 4 < 1000; decide) fun Hf of hf => ?_
    walk_at "go"
    refine s_fldO rfl hf T.k_Log.cl T.n_Log__begin_k (by show 5 < 1000; decide) fun Hg og hg => ?_
    walk_at "go"
    refine s_fldO rfl hg T.k_Log.cl T.n_Log__next_k (by show 6 < 1000; decide) fun Hh oh hh => ?_
    walk_at "go"
    have oq : ∀ b o, b ≠ q → H6 b = some o → Hh b = some o := fun b o n e => oh _ _ n (og _ _ n (of _ _ n (se _ _ (od _ _ n (oc _ _ n (ob _ _ n (oa _ _ n e)))))))
    have cq : Ch [q] H6 Hh := fun b o e c => by
      by_cases hbq : b = q
      · rcases c with c | c
        · exact absurd (by rw [hbq]; simp) c
        · rw [hbq, hob6] at e; cases e; cases c
      · exact oq b o hbq e
    have dh := d6.ch cq fun x hx m => qF6 (by rw [← List.mem_singleton.mp m]; exact hx)
    have klq : kl ≠ q := ne_of_none' hd ne
    have hkl : Hh kl = some (.lst []) := oh _ _ klq (og _ _ klq (of _ _ klq he))
    have klH6 : H6 kl = none := by
      cases e : H6 kl with
      | none => rfl
      | some o => rw [od _ _ klq (oc _ _ klq (ob _ _ klq (oa _ _ klq e)))] at ne; cases ne
    have klF6 : kl ∉ F6 := fun m => d6.there kl m klH6
    have hL : LS K T.C_Log Hh q p [q, kl] ⟨M.e + 1, M.r, M.m, M.k, M.k, none, []⟩ := ⟨kl, [], rfl, ⟨dx, hh⟩, hkl, ⟨rfl, fun i t r a => by cases a⟩⟩
    have hR6 : Ring T6 M.up.r M.up.k g := fun j hj => ⟨by rw [op.sh _ (by omega)]; exact (hR j hj).1, (hR j hj).2⟩
    rw [ee]
    refine ⟨p, M.e + 1, F6, T6, M.up, g, rfl, dh, op.sh0, h4, by rw [op.ln]; exact h8, b1, hR6, fun D ts Hi si ni hi re => ?_⟩
    have re : RecsAt K Hi ts (recsOf M g) := re
    have hlc := countG_len (M := M.up) (lt := M.e + 1) (g := g) (n := M.r) (k := M.k) (acc := [])
    have hlx : ∀ p ∈ countG M.up (M.e + 1) g M.r [] M.k, p.xs.length ≤ 36 := countG_all (fun p h => by cases h) fun j hj p e => ((hR j hj).2 p e).2
    have rl : (recsOf M g).length ≤ 600 := by
      have := rd_len2 (ps := countG M.up (M.e + 1) g M.r [] M.k) (st := ([], []))
      rw [List.length_nil] at hlc
      show (List.foldl rdStep ([], []) (countG M.up (M.e + 1) g M.r [] M.k)).2.length ≤ 600
      have e0 : (([], []) : List V × List Rc).2.length = 0 := rfl
      omega
    have ra : ∀ r ∈ recsOf M g, r.2.1.length ≤ 30000 := fun r hr => by
      have := rd_all (ps := countG M.up (M.e + 1) g M.r [] M.k) (st := ([], [])) (n := 0) hlx (Nat.zero_le _) (fun r h => by cases h) r hr
      rw [List.length_nil] at hlc
      omega
    generalize recsOf M g = rs at *
    have lt : ts.length = rs.length := re.1
    have qk : q ∈ [q, kl] := by simp
    refine i_lst (slO hi) ?_
    have DG : D ∉ [q, kl] := fun m => by
      rcases List.mem_cons.mp m with z | z
      · rw [z, hh] at ni; cases ni
      · rw [List.mem_singleton.mp z, hkl] at ni; cases ni
    refine l_it (walk_list (xs := ts.map V.ref)) (fun i σ3 H3 => ∃ (y2 y8 y9 : Option V), σ3 = [some (.ref q), some (.ref p), y2, some (.int M.e), some (.int M.r), some (.int M.k), some (.int M.m), some (.int M.f), y8, y9] ∧ LS K T.C_Log H3 q p [q, kl] (LD.mores ⟨M.e + 1, M.r, M.m, M.k, M.k, none, []⟩ (rs.take i)) ∧ Ch [q, kl] Hi H3) ⟨_, none, none, rfl, hL.same si, Ch.refl⟩ (fun i σ3 H3 hi2 z => ?_) (fun σ3 H3 z => ?_) (fun i x σ3 H3 H3' hi2 z y => ?_)
    · obtain ⟨y2, y8, y9, _, _, c3⟩ := z
      exact slO (c3.at_ DG hi)
    · obtain ⟨y2, y8, y9, rfl, l3, c3⟩ := z
      rw [List.length_map, lt, List.take_length] at l3
      obtain ⟨kl2, ts2, eG, ⟨dx2, hob3⟩, hkl3, hka3⟩ := id l3
      have ek : kl2 = kl := by
        have e := eG
        simp only [List.cons.injEq, true_and, and_true] at e
        exact e.symm
      subst ek
      have hn : (LD.mores ⟨M.e + 1, M.r, M.m, M.k, M.k, none, []⟩ rs).kept.length ≤ 10000 := by
        rw [mores_kept]
        show 0 + _ ≤ _
        omega
      walk_at "go"
      refine m_call0 ⟨dx2, hob3⟩ (lf_no _ _ _ (by decide +kernel)) ?_
      walk_at "go"
      refine ⟨q, p, [q, kl2], _, rfl, l3, hn, ?_⟩
      walk_at "go"
      refine s_fldO rfl hob3 T.k_Log.cl T.n_Log__forced (lf_len _ _ _) fun Hz oz hz => ?_
      rw [lf_pf] at hz
      have cz : Ch [q] H3 Hz := Ch.of_oth oz (by simp) fun o e => by rw [hob3] at e; cases e; rfl
      have dj6 : ∀ x ∈ F6, x ∉ [q, kl2] := fun x hx m => by
        rcases List.mem_cons.mp m with z | z
        · exact qF6 (z ▸ hx)
        · exact klF6 (List.mem_singleton.mp z ▸ hx)
      refine k T6 F6 [q, kl2] Hz op (((dh.same si).ch c3 dj6).ch cz fun x hx m => qF6 (by rw [← List.mem_singleton.mp m]; exact hx)) ⟨kl2, ts2, rfl, ⟨dx2, hz⟩, oz _ _ klq hkl3, hka3.st fun c ys h => cz.st h⟩ dj6 (fun b o e c => ?_) fF fun x hx => ?_
      · have e6 := cF b o e (c.imp (fun z m => z (List.mem_cons_of_mem _ m)) id)
        have nbk : b ≠ kl2 := fun z => by rw [z, klH6] at e6; cases e6
        have c1 : b ∉ [q] ∨ muT o = true := c.imp (fun z m => z (by rw [List.mem_singleton.mp m]; simp)) id
        have c2' : b ∉ [q, kl2] ∨ muT o = true := c1.imp (fun z m => by
          rcases List.mem_cons.mp m with y | y
          · exact z (by rw [y]; simp)
          · exact nbk (List.mem_singleton.mp y)) id
        exact cz b o (c3 b o (si _ _ (cq b o e6 c1)) c2') c1
      · rcases List.mem_cons.mp hx with z | z
        · exact .inl z
        · rw [List.mem_singleton.mp z]
          exact .inr (ch_free cF klH6)
    · obtain ⟨y2, y8, y9, rfl, l3, c3⟩ := z
      obtain ⟨rfl, ex⟩ := y
      have hi3 : i < ts.length := by simpa using hi2
      have hi4 : i < rs.length := by omega
      have exx : x = .ref ts[i] := by
        rw [List.getElem?_map, List.getElem?_eq_getElem hi3] at ex
        exact (Option.some.inj ex).symm
      subst exx
      obtain ⟨a, ht, ha⟩ := re.2 i _ _ (List.getElem?_eq_getElem hi3) (List.getElem?_eq_getElem hi4)
      refine ⟨ts[i], _, rfl, c3.st ht, rfl, _, _, rfl, _, _, rfl, _, _, rfl, rfl, ?_⟩
      obtain ⟨kl2, ts2, eG, ⟨dx2, hob3⟩, hkl3, hka3⟩ := id l3
      walk_at "go"
      refine m_call0 ⟨dx2, hob3⟩ (lf_no _ _ _ (by decide +kernel)) ?_
      walk_at "go"
      refine ⟨q, p, [q, kl], _, a, rs[i].2.1, rs[i].2.2, rfl, l3, ?_, c3.st ha, ra _ (List.getElem_mem hi4), fun H5 l5 c5 => ?_⟩
      · rw [mores_kept, List.length_take]
        show 0 + _ ≤ _
        omega
      · walk_at "go"
        refine ⟨_, _, _, rfl, ?_, c3.trans c5 fun x hx => .inl hx⟩
        rw [List.take_add_one, List.getElem?_eq_getElem hi4]
        show LS K T.C_Log H5 q p [q, kl] (LD.mores _ (rs.take i ++ [rs[i]]))
        rw [mores_snoc]; exact l5
end
end Vw

set_option Elab.async false
set_option linter.all false
set_option maxRecDepth 100000
set_option maxHeartbeats 4000000
namespace Vw
open PySem PySem.Spec PyProof.Rows L2 RT
local macro_rules | `(tactic| walk_at "s") => `(tactic| with_reducible first
  | refine' s_seq ?_ | refine' s_next ?_ | refine' s_set ?_ | refine' s_ret ?_ | refine' s_retN ?_ | refine' s_drop ?_ | refine' s_if ?_ | refine' s_ipI ?_
  | refine' e_c ?_ | refine' e_op ?_ | refine' e_un ?_ | refine' e_neg ?_ | refine' e_test ?_ | refine' e_tB ?_ | refine' e_bl ?_ | refine' e_and ?_ | refine' e_or ?_ | refine' e_not ?_
  | refine' e_andV ?_ | refine' e_orV ?_ | refine' e_notV ?_ | refine' e_kV ?_ | refine' e_ife ?_ | refine' e_nil ?_ | refine' e_cons ?_ | refine' e_cb ?_ | refine' e_call ?_ | refine' e_chain ?_
  | refine' o_addI ?_ | refine' o_eqI ?_ | refine' o_neI ?_ | refine' o_I0 ?_ | refine' o_pow16 ?_ | refine' o_pow17 ?_ | refine' o_pow18 ?_ | refine' o_pow19 ?_ | refine' o_pow30 ?_ | refine' o_pow31 ?_ | refine' o_pow1 ?_ | refine' o_pow2 ?_ | refine' o_pow3 ?_ | refine' o_pow4 ?_ | refine' o_pow5 ?_ | refine' o_pow6 ?_ | refine' o_pow9 ?_ | refine' o_pow10 ?_ | refine' o_pow12 ?_ | refine' o_pow15 ?_ | refine' o_pow20 ?_ | refine' e_lst ?_ | refine' e_tup ?_ | refine' iteT ?_ | refine' i_nt ?_ | refine' i_nf ?_ | refine' iteF ?_ | refine' c_int ?_ | refine' c_abs ?_ | refine' c_min2 ?_ | refine' c_max2 ?_ | refine' e_tru ?_ | refine' t_bl ?_ | refine' t_non ?_ | refine' t_int ?_ | refine' isN_non ?_ | refine' isN_int ?_ | refine' isN_ref ?_ | refine' isN_str ?_ | refine' isN_bl ?_ | refine' noN_non ?_ | refine' noN_int ?_ | refine' noN_ref ?_ | refine' noN_str ?_ | refine' noN_bl ?_
  | refine' s_brk ?_ | refine' s_cont ?_ | refine' s_for ?_ | refine' e_lc ?_ | refine' e_dc ?_ | refine' e_yes ?_ | refine' i_rng1 ?_ | refine' i_lst0 ?_ | refine' i_tup0 ?_ | refine' e_bm ?_ | refine' e_sl ?_ | refine' e_np ?_ | refine' e_pt ?_ | refine' e_ptI ?_ | refine' e_din ?_ | refine' e_dnin ?_ | refine' e_methE ?_ | refine' p_cons ?_ | refine' p_nil ?_ | refine' s_dput ?_ | refine' e_dget2 ?_ | refine' e_dpop1 ?_ | refine' i_enum0 ?_ | refine' i_rev0 ?_ | refine' g_sub ?_ | refine' s_asg ?_ | refine' i_zip0 ?_ | refine' e_revT ?_ | refine' isB_bl ?_ | refine' notB_bl ?_ | refine' o_neB ?_ | refine' i_nrr ?_ | refine' e_meth ?_ | refine' s_setf ?_ | refine' e_fld ?_ | refine' e_bm0 ?_ | refine' r_tx ?_ | refine' o_eqStr ?_ | refine' o_neStr ?_)
local macro_rules | `(tactic| walk_at "v") => `(tactic| ((with_reducible refine' e_var ?hv ?_); (case hv => exact rfl)))
local macro_rules | `(tactic| walk_at "a") => `(tactic| ((with_reducible refine' s_aug ?hv ?_); (case hv => exact rfl)))
local macro_rules | `(tactic| walk_at "m") => `(tactic| first
  | ((with_reducible refine' o_mod ?hv ?_); (case hv => first | decide | omega))
  | ((with_reducible refine' o_mulR ?hv ?_); (case hv => omega))
  | ((with_reducible refine' o_mulL ?hv ?_); (case hv => omega))
  | ((with_reducible refine' o_div ?hv ?hw ?_); (case hv => omega); (case hw => omega))
  | ((with_reducible refine' o_pow _ ?hv ?hw ?hx ?_); (case hv => exact rfl); (case hw => decide); (case hx => decide)))
local macro_rules | `(tactic| walk_at "i") => `(tactic| (first
  | ((with_reducible refine' isi_int true ?hv ?_); (case hv => exact (by decide +kernel)))
  | ((with_reducible refine' isi_int false ?hv ?_); (case hv => exact (by decide +kernel)))
  | ((with_reducible refine' isi_non true ?hv ?_); (case hv => exact (by decide +kernel)))
  | ((with_reducible refine' isi_non false ?hv ?_); (case hv => exact (by decide +kernel)))
  | ((with_reducible refine' isi_str true ?hv ?_); (case hv => exact (by decide +kernel)))
  | ((with_reducible refine' isi_str false ?hv ?_); (case hv => exact (by decide +kernel)))
  | ((with_reducible refine' isi_bl true ?hv ?_); (case hv => exact (by decide +kernel)))
  | ((with_reducible refine' isi_bl false ?hv ?_); (case hv => exact (by decide +kernel)))
  | ((with_reducible refine' isi_t true ?hw ?hv ?_); (case hw => assumption); (case hv => exact (by decide +kernel)))
  | ((with_reducible refine' isi_t false ?hw ?hv ?_); (case hw => assumption); (case hv => exact (by decide +kernel)))
  | ((with_reducible refine' isi_l true ?hw ?hv ?_); (case hw => assumption); (case hv => exact (by decide +kernel)))
  | ((with_reducible refine' isi_l false ?hw ?hv ?_); (case hw => assumption); (case hv => exact (by decide +kernel)))
  | ((with_reducible refine' isi_tup true ?hw ?hv ?_); (case hw => assumption); (case hv => exact (by decide +kernel)))
  | ((with_reducible refine' isi_tup false ?hw ?hv ?_); (case hw => assumption); (case hv => exact (by decide +kernel)))
  | ((with_reducible refine' isi_lst true ?hw ?hv ?_); (case hw => assumption); (case hv => exact (by decide +kernel)))
  | ((with_reducible refine' isi_lst false ?hw ?hv ?_); (case hw => assumption); (case hv => exact (by decide +kernel)))))
local macro_rules | `(tactic| walk_at "om") => `(tactic| first | omega | (simp only [List.length_cons, List.length_nil, List.length_map, List.length_append, List.length_range]; omega))
local macro_rules | `(tactic| walk_at "d") => `(tactic| (first
  | ((with_reducible refine' i_dt ?hv ?_); (case hv => walk_at "om"))
  | ((with_reducible refine' i_df ?hv ?_); (case hv => walk_at "om"))
  | ((with_reducible refine' i_ndt ?hv ?_); (case hv => walk_at "om"))
  | ((with_reducible refine' i_ndf ?hv ?_); (case hv => walk_at "om"))))
local macro_rules | `(tactic| walk_at "x") => `(tactic| first
  | ((with_reducible refine' o_ixA ?hv ?hw ?_); (case hv => assumption); (case hw => exact rfl))
  | ((with_reducible refine' o_ixU ?hv ?hw ?_); (case hv => assumption); (case hw => exact rfl))
  | ((with_reducible refine' o_ixL ?hv ?hw ?_); (case hv => assumption); (case hw => exact rfl))
  | ((with_reducible refine' o_ixT ?hv ?hw ?_); (case hv => assumption); (case hw => exact rfl))
  | ((with_reducible refine' set_ ?hv ?hw ?_); (case hv => assumption); (case hw => exact rfl))
  | ((with_reducible refine' e_lenM ?hv ?_); (case hv => first | assumption | exact slO (by assumption)))
  | ((with_reducible refine' e_lenN ?hv ?_); (case hv => first | assumption | exact stO (by assumption)))
  | ((with_reducible refine' e_lenL ?hv ?_); (case hv => first | assumption | exact slO (by assumption)))
  | ((with_reducible refine' e_lenT ?hv ?_); (case hv => first | assumption | exact stO (by assumption))))
local macro_rules | `(tactic| walk_at "c") => `(tactic| first
  | ((with_reducible refine' c_listL ?hv ?_); (case hv => assumption))
  | ((with_reducible refine' c_listT ?hv ?_); (case hv => assumption))
  | ((with_reducible refine' c_tupL ?hv ?_); (case hv => first | assumption | exact slO (by assumption)))
  | ((with_reducible refine' c_tupT ?hv ?_); (case hv => assumption))
  | ((with_reducible refine' t_lst ?hv ?_); (case hv => first | assumption | exact slO (by assumption)))
  | ((with_reducible refine' t_tup ?hv ?_); (case hv => assumption))
  | ((with_reducible refine' r_sl ?hv ?_); (case hv => first | assumption | exact slO (by assumption)))
  | ((with_reducible refine' o_inL ?hv ?_); (case hv => first | assumption | exact slO (by assumption)))
  | ((with_reducible refine' o_inT ?hv ?_); (case hv => first | assumption | exact stO (by assumption)))
  | ((with_reducible refine' o_niL ?hv ?_); (case hv => first | assumption | exact slO (by assumption)))
  | ((with_reducible refine' o_niT ?hv ?_); (case hv => first | assumption | exact stO (by assumption)))
  | ((with_reducible refine' ty_lst ?hv ?_); (case hv => assumption)))
local macro_rules | `(tactic| walk_at "mo") => `(tactic| repeat' (first | exact m_yes | exact m_var | exact m_c | exact m_I0 | exact m_I | exact m_ix | exact m_add | exact m_in | exact m_int1 | exact m_abs | exact m_nil | refine' m_and ?_ ?_ | refine' m_test ?_ | refine' m_tB ?_ | refine' m_op ?_ ?_ ?_ | refine' m_cons ?_ ?_ | refine' m_cb ?_ ?_))
local macro_rules | `(tactic| walk_at "go") => `(tactic| repeat' (first | walk_at "s" | walk_at "v" | walk_at "a" | walk_at "x" | walk_at "m" | walk_at "c" | walk_at "i" | walk_at "d"))

section
variable {P : Program} {w : World} {K : PySem.W.Frag} {mg : Str → Option Value} {base : Heap}
/-! ### the law's own model of a log -/
def mkv (L : LD) (rl : Addr) : List (Key × V) := [(Sum.inr "ring", .int L.ring), (Sum.inr "epoch", .int L.ep), (Sum.inr "k", .int L.bk), (Sum.inr "record", .int L.bg), (Sum.inr "rows", .ref rl)]
section
variable {L : LD} {rl a : Addr} {n : Nat}
theorem mkv_ring : valV (mkv L rl) (Sum.inr "ring") = some (.int L.ring) := rfl
theorem mkv_epoch : valV (mkv L rl) (Sum.inr "epoch") = some (.int L.ep) := rfl
theorem mkv_k : valV (mkv L rl) (Sum.inr "k") = some (.int L.bk) := rfl
theorem mkv_record : valV (mkv L rl) (Sum.inr "record") = some (.int L.bg) := rfl
theorem mkv_rows : valV (mkv L rl) (Sum.inr "rows") = some (.ref rl) := rfl
theorem mkv_pe : putK (mkv L rl) (Sum.inr "epoch") (.int n) = mkv { L with ep := n } rl := rfl
theorem mkv_pr : putK (mkv L rl) (Sum.inr "rows") (.ref a) = mkv L a := rfl
end
/-- where the next record begins, as the rows tell -/
def LD.nkOf (L : LD) : Nat := match L.kept.getLast? with
  | none => L.bk
  | some r => r.2.1 + cutN r.1
def RowsTo (K : PySem.W.Frag) (H : Hp) (ts : List Addr) (ks : List Kp) : Prop := ts.length = ks.length ∧ ∀ (i : Nat) (t : Addr) (r : Kp), ts[i]? = some t → ks[i]? = some r → ∃ a, SqT K H t [.int r.2.1, .int r.2.2, .ref a] ∧ SqT K H a r.1
theorem RowsTo.st {H H' : Hp} {ts : List Addr} {rs : List Kp} (h : RowsTo K H ts rs) (k : ∀ c xs, SqT K H c xs → SqT K H' c xs) : RowsTo K H' ts rs := ⟨h.1, fun i t r a b => (h.2 i t r a b).elim fun x q => ⟨x, k _ _ q.1, k _ _ q.2⟩⟩
/-- the model's dict at m, its own places G -/
def MS (K : PySem.W.Frag) (H : Hp) (m : Addr) (G : List Addr) (L : LD) : Prop := ∃ rl ts, G = [m, rl] ∧ H m = some (.dK (mkv L rl)) ∧ H rl = some (.lst (ts.map V.ref)) ∧ RowsTo K H ts L.kept
theorem MS.ch {m : Addr} {F G : List Addr} {H H' : Hp} {L : LD} (h : MS K H m G L) (s : Ch F H H') (n : ∀ a ∈ G, a ∉ F) : MS K H' m G L := by
  obtain ⟨rl, ts, rfl, h1, h2, h3⟩ := h
  exact ⟨rl, ts, rfl, s.at_ (n _ (by simp)) h1, s.at_ (n _ (by simp)) h2, h3.st fun c xs z => s.st z⟩
theorem MS.same {m : Addr} {G : List Addr} {H H' : Hp} {L : LD} (h : MS K H m G L) (s : Same H H') : MS K H' m G L := h.ch (F := []) (Ch.of_same s) (by simp)
def sp_next_k (K : PySem.W.Frag) : Sp := fun vs H Q _ => ∃ m G L, vs = [.ref m] ∧ MS K H m G L ∧ L.kept.length ≤ 10000 ∧ (∀ r ∈ L.kept, r.1.length ≤ 30000) ∧ ∀ H', Same H H' → Q (.int L.nkOf) H'
theorem ok_law_next_k (T : Txt K mg) : FnOk P w K mg base CX0 2 T.law_next_k.f T.law_next_k.fd ["model"] (sp_next_k K) := by
  refine T.law_next_k.F.ok sc_law_next_k (fun vs H Q E h => ?_) (fun cdv A outer s H vs Q E hr h => ?_)
  · obtain ⟨m, G, L, rfl, _⟩ := h
    rfl
  · obtain ⟨m, G, L, rfl, hM, hn, hx, k⟩ := h
    refine ⟨_, (pss_cons (ps_if (pt_cmpR (oEq (K := K) hr.units) (pe_callB (cLen (K := K)) (by rfl) T.z_len PySem.boot_len (pa_cons (pe_dget (hu_of hr) (pv 0) pe_str (fun _ _ => rfl)) pa_nil)) pe_int (nomark _)) (pss_one (ps_ret (pe_dget (hu_of hr) (pv 0) pe_str (fun _ _ => rfl)))) pss_nil)
    (pss_cons (ps_asg (pe_ix (ixLT (K := K)) (pe_dget (hu_of hr) (pv 0) pe_str (fun _ _ => rfl)) (pe_un un_neg pe_int) (fun _ _ => rfl)) (pgTup (K := K) (n := 3) (pg_tup (n := 3) rfl (pgs_cons (pg_name (i := 1) sc_law_next_k.nd rfl (Or.inl rfl)) (pgs_cons (pg_name (i := 2) sc_law_next_k.nd rfl (Or.inl rfl)) (pgs_cons (pg_name (i := 3) sc_law_next_k.nd rfl (Or.inl rfl)) pgs_nil))))))
    (pss_one (ps_ret (pe_op oAdd (pv 1) (pe_callB (cLen (K := K)) (by rfl) T.z_len PySem.boot_len (pa_cons (pe_call (ok_law_cut_up T) (hr.mono (by decide)) (by rfl) T.law_cut_up.g T.law_cut_up.F.kp T.law_cut_up.b .nil pass0 (pa_cons (pv 3) pa_nil)) pa_nil))))))), ?_⟩
    obtain ⟨rl, ts, eG, hm, hr, hrows⟩ := hM
    have hsl := slO (K := K) hr
    walk_at "go"
    refine e_dget ?_
    walk_at "go"
    refine o_dget (k := Sum.inr "rows") hm mkv_rows ?_
    walk_at "go"
    unfold LD.nkOf at k
    refine i_d (fun z => ?_) (fun z => ?_)
    · have e : L.kept = [] := List.length_eq_zero_iff.mp (by rw [← hrows.1]; omega)
      rw [e] at k
      walk_at "go"
      refine e_dget ?_
      walk_at "go"
      refine o_dget (k := Sum.inr "k") hm mkv_k ?_
      exact k H (Same.refl _)
    · have pos : 0 < ts.length := by omega
      have el := hrows.1
      have hi : L.kept.length - 1 < L.kept.length := by omega
      have hi2 : L.kept.length - 1 < ts.length := by omega
      rw [List.getLast?_eq_getElem?, List.getElem?_eq_getElem hi] at k
      obtain ⟨a, ht, ha⟩ := hrows.2 (L.kept.length - 1) _ _ (List.getElem?_eq_getElem hi2) (List.getElem?_eq_getElem hi)
      have hl := hx _ (List.getElem_mem hi)
      generalize L.kept[L.kept.length - 1] = r at *
      walk_at "go"
      refine e_dget ?_
      walk_at "go"
      refine o_dget (k := Sum.inr "rows") hm mkv_rows ?_
      walk_at "go"
      refine o_ixL hsl (atI_neg (x := .ref (ts[L.kept.length - 1]'hi2)) (by simpa using pos) (by rw [List.getElem?_map, List.length_map, el, List.getElem?_eq_getElem hi2]; rfl)) ?_
      refine ⟨_, _, rfl, ht, rfl, _, _, rfl, _, _, rfl, _, _, rfl, rfl, ?_⟩
      walk_at "go"
      refine ⟨a, r.1, rfl, ha, hl, fun D cs H' s n h t => ?_⟩
      have ec : cs.length = cutN r.1 := by rw [t.1, cutUp_length]
      walk_at "go"
      have en : (r.2.1 : Int) + (cs.length : Nat) = ((r.2.1 + cutN r.1 : Nat) : Int) := by rw [ec]; omega
      rw [en]
      exact k H' s
def sp_mroom (K : PySem.W.Frag) : Sp := fun vs H Q _ => ∃ m G L, vs = [.ref m] ∧ MS K H m G L ∧ L.kept.length ≤ 10000 ∧ (∀ r ∈ L.kept, r.1.length ≤ 30000) ∧ ∀ H', Same H H' → Q (.int ((L.ring : Int) - ((L.nkOf : Int) - L.bk))) H'
theorem ok_law_room (T : Txt K mg) : FnOk P w K mg base CX0 3 T.law_room.f T.law_room.fd ["model"] (sp_mroom K) := by
  refine T.law_room.F.ok sc_law_room (fun vs H Q E h => ?_) (fun cdv A outer s H vs Q E hr h => ?_)
  · obtain ⟨m, G, L, rfl, _⟩ := h
    rfl
  · obtain ⟨m, G, L, rfl, hM, hn, hx, k⟩ := h
    refine ⟨_, (pss_one (ps_ret (pe_op op_sub (pe_dget (hu_of hr) (pv 0) pe_str (fun _ _ => rfl)) (pe_op op_sub (pe_call (ok_law_next_k T) (hr.mono (by decide)) (by rfl) T.law_next_k.g T.law_next_k.F.kp T.law_next_k.b .nil pass0 (pa_cons (pv 0) pa_nil)) (pe_dget (hu_of hr) (pv 0) pe_str (fun _ _ => rfl)))))), ?_⟩
    have hM0 := hM
    obtain ⟨rl, ts, eG, hm, hr, hrows⟩ := hM
    walk_at "go"
    refine e_dget ?_
    walk_at "go"
    refine o_dget (k := Sum.inr "ring") hm mkv_ring ?_
    walk_at "go"
    refine ⟨m, G, L, rfl, hM0, hn, hx, fun H1 s1 => ?_⟩
    walk_at "go"
    refine e_dget ?_
    walk_at "go"
    refine o_dget (k := Sum.inr "k") (s1 _ _ hm) mkv_k ?_
    walk_at "go"
    exact k H1 s1
end
end Vw

set_option Elab.async false
set_option linter.all false
set_option maxRecDepth 100000
set_option maxHeartbeats 4000000
namespace Vw
open PySem PySem.Spec PyProof.Rows L2 RT
local macro_rules | `(tactic| walk_at "s") => `(tactic| with_reducible first
  | refine' s_seq ?_ | refine' s_next ?_ | refine' s_set ?_ | refine' s_ret ?_ | refine' s_retN ?_ | refine' s_drop ?_ | refine' s_if ?_ | refine' s_ipI ?_
  | refine' e_c ?_ | refine' e_op ?_ | refine' e_un ?_ | refine' e_neg ?_ | refine' e_test ?_ | refine' e_tB ?_ | refine' e_bl ?_ | refine' e_and ?_ | refine' e_or ?_ | refine' e_not ?_
  | refine' e_andV ?_ | refine' e_orV ?_ | refine' e_notV ?_ | refine' e_kV ?_ | refine' e_ife ?_ | refine' e_nil ?_ | refine' e_cons ?_ | refine' e_cb ?_ | refine' e_call ?_ | refine' e_chain ?_
  | refine' o_addI ?_ | refine' o_eqI ?_ | refine' o_neI ?_ | refine' o_I0 ?_ | refine' o_pow16 ?_ | refine' o_pow17 ?_ | refine' o_pow18 ?_ | refine' o_pow19 ?_ | refine' o_pow30 ?_ | refine' o_pow31 ?_ | refine' o_pow1 ?_ | refine' o_pow2 ?_ | refine' o_pow3 ?_ | refine' o_pow4 ?_ | refine' o_pow5 ?_ | refine' o_pow6 ?_ | refine' o_pow9 ?_ | refine' o_pow10 ?_ | refine' o_pow12 ?_ | refine' o_pow15 ?_ | refine' o_pow20 ?_ | refine' e_lst ?_ | refine' e_tup ?_ | refine' iteT ?_ | refine' i_nt ?_ | refine' i_nf ?_ | refine' iteF ?_ | refine' c_int ?_ | refine' c_abs ?_ | refine' c_min2 ?_ | refine' c_max2 ?_ | refine' e_tru ?_ | refine' t_bl ?_ | refine' t_non ?_ | refine' t_int ?_ | refine' isN_non ?_ | refine' isN_int ?_ | refine' isN_ref ?_ | refine' isN_str ?_ | refine' isN_bl ?_ | refine' noN_non ?_ | refine' noN_int ?_ | refine' noN_ref ?_ | refine' noN_str ?_ | refine' noN_bl ?_
  | refine' s_brk ?_ | refine' s_cont ?_ | refine' s_for ?_ | refine' e_lc ?_ | refine' e_dc ?_ | refine' e_yes ?_ | refine' i_rng1 ?_ | refine' i_lst0 ?_ | refine' i_tup0 ?_ | refine' e_bm ?_ | refine' e_sl ?_ | refine' e_np ?_ | refine' e_pt ?_ | refine' e_ptI ?_ | refine' e_din ?_ | refine' e_dnin ?_ | refine' e_methE ?_ | refine' p_cons ?_ | refine' p_nil ?_ | refine' s_dput ?_ | refine' e_dget2 ?_ | refine' e_dpop1 ?_ | refine' i_enum0 ?_ | refine' i_rev0 ?_ | refine' g_sub ?_ | refine' s_asg ?_ | refine' i_zip0 ?_ | refine' e_revT ?_ | refine' isB_bl ?_ | refine' notB_bl ?_ | refine' o_neB ?_ | refine' i_nrr ?_ | refine' e_meth ?_ | refine' s_setf ?_ | refine' e_fld ?_ | refine' e_bm0 ?_ | refine' r_tx ?_ | refine' o_eqStr ?_ | refine' o_neStr ?_)
local macro_rules | `(tactic| walk_at "v") => `(tactic| ((with_reducible refine' e_var ?hv ?_); (case hv => exact rfl)))
local macro_rules | `(tactic| walk_at "a") => `(tactic| ((with_reducible refine' s_aug ?hv ?_); (case hv => exact rfl)))
local macro_rules | `(tactic| walk_at "m") => `(tactic| first
  | ((with_reducible refine' o_mod ?hv ?_); (case hv => first | decide | omega))
  | ((with_reducible refine' o_mulR ?hv ?_); (case hv => omega))
  | ((with_reducible refine' o_mulL ?hv ?_); (case hv => omega))
  | ((with_reducible refine' o_div ?hv ?hw ?_); (case hv => omega); (case hw => omega))
  | ((with_reducible refine' o_pow _ ?hv ?hw ?hx ?_); (case hv => exact rfl); (case hw => decide); (case hx => decide)))
local macro_rules | `(tactic| walk_at "i") => `(tactic| (first
  | ((with_reducible refine' isi_int true ?hv ?_); (case hv => exact (by decide +kernel)))
  | ((with_reducible refine' isi_int false ?hv ?_); (case hv => exact (by decide +kernel)))
  | ((with_reducible refine' isi_non true ?hv ?_); (case hv => exact (by decide +kernel)))
  | ((with_reducible refine' isi_non false ?hv ?_); (case hv => exact (by decide +kernel)))
  | ((with_reducible refine' isi_str true ?hv ?_); (case hv => exact (by decide +kernel)))
  | ((with_reducible refine' isi_str false ?hv ?_); (case hv => exact (by decide +kernel)))
  | ((with_reducible refine' isi_bl true ?hv ?_); (case hv => exact (by decide +kernel)))
  | ((with_reducible refine' isi_bl false ?hv ?_); (case hv => exact (by decide +kernel)))
  | ((with_reducible refine' isi_t true ?hw ?hv ?_); (case hw => assumption); (case hv => exact (by decide +kernel)))
  | ((with_reducible refine' isi_t false ?hw ?hv ?_); (case hw => assumption); (case hv => exact (by decide +kernel)))
  | ((with_reducible refine' isi_l true ?hw ?hv ?_); (case hw => assumption); (case hv => exact (by decide +kernel)))
  | ((with_reducible refine' isi_l false ?hw ?hv ?_); (case hw => assumption); (case hv => exact (by decide +kernel)))
  | ((with_reducible refine' isi_tup true ?hw ?hv ?_); (case hw => assumption); (case hv => exact (by decide +kernel)))
  | ((with_reducible refine' isi_tup false ?hw ?hv ?_); (case hw => assumption); (case hv => exact (by decide +kernel)))
  | ((with_reducible refine' isi_lst true ?hw ?hv ?_); (case hw => assumption); (case hv => exact (by decide +kernel)))
  | ((with_reducible refine' isi_lst false ?hw ?hv ?_); (case hw => assumption); (case hv => exact (by decide +kernel)))))
local macro_rules | `(tactic| walk_at "om") => `(tactic| first | omega | (simp only [List.length_cons, List.length_nil, List.length_map, List.length_append, List.length_range]; omega))
local macro_rules | `(tactic| walk_at "d") => `(tactic| (first
  | ((with_reducible refine' i_dt ?hv ?_); (case hv => walk_at "om"))
  | ((with_reducible refine' i_df ?hv ?_); (case hv => walk_at "om"))
  | ((with_reducible refine' i_ndt ?hv ?_); (case hv => walk_at "om"))
  | ((with_reducible refine' i_ndf ?hv ?_); (case hv => walk_at "om"))))
local macro_rules | `(tactic| walk_at "x") => `(tactic| first
  | ((with_reducible refine' o_ixA ?hv ?hw ?_); (case hv => assumption); (case hw => exact rfl))
  | ((with_reducible refine' o_ixU ?hv ?hw ?_); (case hv => assumption); (case hw => exact rfl))
  | ((with_reducible refine' o_ixL ?hv ?hw ?_); (case hv => assumption); (case hw => exact rfl))
  | ((with_reducible refine' o_ixT ?hv ?hw ?_); (case hv => assumption); (case hw => exact rfl))
  | ((with_reducible refine' set_ ?hv ?hw ?_); (case hv => assumption); (case hw => exact rfl))
  | ((with_reducible refine' e_lenM ?hv ?_); (case hv => first | assumption | exact slO (by assumption)))
  | ((with_reducible refine' e_lenN ?hv ?_); (case hv => first | assumption | exact stO (by assumption)))
  | ((with_reducible refine' e_lenL ?hv ?_); (case hv => first | assumption | exact slO (by assumption)))
  | ((with_reducible refine' e_lenT ?hv ?_); (case hv => first | assumption | exact stO (by assumption))))
local macro_rules | `(tactic| walk_at "c") => `(tactic| first
  | ((with_reducible refine' c_listL ?hv ?_); (case hv => assumption))
  | ((with_reducible refine' c_listT ?hv ?_); (case hv => assumption))
  | ((with_reducible refine' c_tupL ?hv ?_); (case hv => first | assumption | exact slO (by assumption)))
  | ((with_reducible refine' c_tupT ?hv ?_); (case hv => assumption))
  | ((with_reducible refine' t_lst ?hv ?_); (case hv => first | assumption | exact slO (by assumption)))
  | ((with_reducible refine' t_tup ?hv ?_); (case hv => assumption))
  | ((with_reducible refine' r_sl ?hv ?_); (case hv => first | assumption | exact slO (by assumption)))
  | ((with_reducible refine' o_inL ?hv ?_); (case hv => first | assumption | exact slO (by assumption)))
  | ((with_reducible refine' o_inT ?hv ?_); (case hv => first | assumption | exact stO (by assumption)))
  | ((with_reducible refine' o_niL ?hv ?_); (case hv => first | assumption | exact slO (by assumption)))
  | ((with_reducible refine' o_niT ?hv ?_); (case hv => first | assumption | exact stO (by assumption)))
  | ((with_reducible refine' ty_lst ?hv ?_); (case hv => assumption)))
local macro_rules | `(tactic| walk_at "mo") => `(tactic| repeat' (first | exact m_yes | exact m_var | exact m_c | exact m_I0 | exact m_I | exact m_ix | exact m_add | exact m_in | exact m_int1 | exact m_abs | exact m_nil | refine' m_and ?_ ?_ | refine' m_test ?_ | refine' m_tB ?_ | refine' m_op ?_ ?_ ?_ | refine' m_cons ?_ ?_ | refine' m_cb ?_ ?_))
local macro_rules | `(tactic| walk_at "go") => `(tactic| repeat' (first | walk_at "s" | walk_at "v" | walk_at "a" | walk_at "x" | walk_at "m" | walk_at "c" | walk_at "i" | walk_at "d"))

section
variable {P : Program} {w : World} {K : PySem.W.Frag} {mg : Str → Option Value} {base : Heap}
def sp_new (K : PySem.W.Frag) : Sp := fun vs H Q _ => ∃ r : Nat, vs = [.int r] ∧ ∀ m G H', MS K H' m G ⟨0, r, 0, 0, 0, none, []⟩ → (∀ x ∈ G, H x = none) → Same H H' → Q (.ref m) H'
theorem ok_law_new (T : Txt K mg) : FnOk P w K mg base CX0 1 T.law_new.f T.law_new.fd ["ring"] (sp_new K) := by
  refine T.law_new.F.ok sc_law_new (fun vs H Q E h => ?_) (fun cdv A outer s H vs Q E hr h => ?_)
  · obtain ⟨r, rfl, _⟩ := h
    rfl
  · obtain ⟨r, rfl, k⟩ := h
    refine ⟨_, (pss_one (ps_ret (pe_disp (pps_cons pe_str (pv 0) (pps_cons pe_str pe_int (pps_cons pe_str pe_int (pps_cons pe_str pe_int (pps_cons pe_str (pe_lst pa_nil) pps_nil))))) (by rfl) (by rfl) (fun z => by cases z) (by decide)))), ?_⟩
    walk_at "go"
    refine fun p np => ?_
    have sp : Same H (upd H p (.dK [])) := Same.new np
    have hp0 : upd H p (.dK []) p = some (.dK []) := upd_same
    generalize upd H p (.dK []) = H0 at *
    walk_at "go"
    refine n_new (le_size (by simp)) fun l H1 n1 s1 h1 => ?_
    walk_at "go"
    have hp1 := at_ s1 hp0
    refine ⟨hp1, mkv ⟨0, r, 0, 0, 0, none, []⟩ l, rfl, by show 5 ≤ 15; decide, ?_⟩
    have nl : H l = none := free_ sp n1
    have nlp : l ≠ p := ne_of_none' hp0 n1
    refine k p [p, l] _ ⟨l, [], rfl, upd_same, (upd_ne nlp).trans h1, rfl, fun i t r a => by cases a⟩ (fun x hx => ?_) (upd_free (sp.trans s1) np)
    rcases List.mem_cons.mp hx with z | z
    · rw [z]; exact np
    · rw [List.mem_singleton.mp z]; exact nl
def sp_mpairs (K : PySem.W.Frag) : Sp := fun vs H Q _ => ∃ m G L, vs = [.ref m] ∧ MS K H m G L ∧ L.kept.length ≤ 10000 ∧ ∀ D ts H', Same H H' → H D = none → H' D = some (.lst (ts.map V.ref)) → PairsTo K H' ts L.pairs → Q (.ref D) H'
theorem ok_law_pairs (T : Txt K mg) : FnOk P w K mg base CX0 1 T.law_pairs.f T.law_pairs.fd ["model"] ((sp_mpairs K)) := by
  refine T.law_pairs.F.ok sc_law_pairs (fun vs H Q E h => ?_) (fun cdv A outer s H vs Q E hr h => ?_)
  · obtain ⟨m, G, L, rfl, _⟩ := h
    rfl
  · obtain ⟨m, G, L, rfl, hM, hn, k⟩ := h
    refine ⟨_, (pss_one (ps_ret (pe_lc (own := [("at", 1), ("row", 2)]) rfl sc_law_pairs.nd (piEnumT (K := K) (by rfl) T.z_enumerate (pa_cons (pe_dget (hu_of hr) (pv 0) pe_str (fun _ _ => rfl)) pa_nil)) (blkOk_by (N := n_law_pairs) (sc := defScope s_law_pairs) (by decide +kernel)) (fun _ _ _ _ _ => (pgTup (K := K) (n := 2) (pg_tup (n := 2) rfl (pgs_cons (pg_name (i := 1) sc_law_pairs.nd rfl (Or.inl rfl)) (pgs_cons (pg_name (i := 2) sc_law_pairs.nd rfl (Or.inl rfl)) pgs_nil))))) (fun _ _ _ _ _ => pts_nil) (fun _ _ _ _ _ => (pe_tup (pa_cons (pe_op oAdd (pe_dget (hu_of hr) (pv 0) pe_str (fun _ _ => rfl)) (pv 1)) (pa_cons (pe_ix (ixLT (K := K)) (pv 2) pe_int (fun _ _ => rfl)) pa_nil))))))), ?_⟩
    obtain ⟨rl, ts, eG, hm, hkl, hka⟩ := hM
    walk_at "go"
    refine e_dget ?_
    walk_at "go"
    refine o_dget (k := Sum.inr "rows") hm mkv_rows ?_
    walk_at "go"
    refine i_enumX (.inl (slO hkl)) (Same.refl _) fun J G hG hW => ?_
    refine c_it hW (fun i acc H2 => Same H H2 ∧ ∃ us, acc = us.map V.ref ∧ PairsTo K H2 us (L.pairs.take i)) (fun D hD => ⟨upd_free (Same.refl _) hD, [], rfl, rfl, fun i t r a => by cases a⟩) (fun i acc H2 hi p => hG _ p.1) (fun acc D H2 hD hp p => ?_) (fun i x acc H2 H3 D hi hD hp p y => ?_)
    · obtain ⟨s2, us, rfl, pt⟩ := p
      have el : (ts.map V.ref).length = L.pairs.length := by
        unfold LD.pairs
        rw [List.length_map, List.length_map, List.length_range, hka.1]
      rw [el, List.take_length] at pt
      exact k D us H2 s2 hD hp pt
    · obtain ⟨s2, us, rfl, pt⟩ := p
      obtain ⟨Tp, x1, x2, rfl, nT, rfl, e1, e2⟩ := y
      have hi' : i < ts.length := by simpa using hi
      have hi2 : i < L.kept.length := by rw [← hka.1]; exact hi'
      have ex1 : x1 = .int (i : Nat) := (Option.some.inj e1).symm
      have e2 : (ts.map V.ref)[i]? = some x2 := e2
      have ex2 : x2 = .ref ts[i] := by
        rw [List.getElem?_map, List.getElem?_eq_getElem hi'] at e2
        exact (Option.some.inj e2).symm
      subst ex1 ex2
      obtain ⟨a, ht, ha⟩ := hka.2 i _ _ (List.getElem?_eq_getElem hi') (List.getElem?_eq_getElem hi2)
      have s23 : Same H2 (upd H2 Tp (.tup [.int (i : Nat), .ref ts[i]])) := Same.new nT
      refine g_pair upd_same ⟨rfl, ?_⟩
      generalize upd H2 Tp (.tup [.int (i : Nat), .ref ts[i]]) = H3 at s23
      have s3 := s2.trans s23
      have ht3 := st_ s3 ht
      have ha3 := st_ s3 ha
      walk_at "go"
      refine e_dget ?_
      walk_at "go"
      refine o_dget (k := Sum.inr "record") (s3 _ _ hm) mkv_record ?_
      walk_at "go"
      refine n_new (le_size (by simp)) fun t4 H4 n4 s4 h4 => ?_
      have hp4 := s4 _ _ (s23 _ _ hp)
      have ll : us.length = i := by
        rw [pt.1, List.length_take]
        unfold LD.pairs
        rw [List.length_map, List.length_range]; omega
      have c5 : Ch [D] H4 (upd H4 D (.lst (us.map V.ref ++ [V.ref t4]))) := Ch.upd1 (by simp) fun o e => by rw [hp4] at e; cases e; rfl
      refine ⟨_, hp4, lt_size (by rw [List.length_map]; omega), _, upd_same, upd_free (s3.trans s4) hD, us ++ [t4], by rw [List.map_append]; rfl, ?_⟩
      have ep : L.pairs[i]? = some ((L.bg : Int) + (i : Nat), (L.kept[i]).1) := by
        unfold LD.pairs
        rw [List.getElem?_map, List.getElem?_range hi2]
        show some ((L.bg : Int) + (i : Nat), (L.kept.getD i ([], 0, 0)).1) = _
        rw [List.getD_eq_getElem?_getD, List.getElem?_eq_getElem hi2]; rfl
      rw [List.take_add_one, ep]
      refine pairsTo_snoc (PairsTo.st pt fun c ys h => c5.st (st_ (s23.trans s4) h)) (a := a) (c5.st (stO h4)) (c5.st (st_ s4 ha3))
end
end Vw

set_option Elab.async false
set_option linter.all false
set_option maxRecDepth 100000
set_option maxHeartbeats 4000000
namespace Vw
open PySem PySem.Spec PyProof.Rows L2 RT
local macro_rules | `(tactic| walk_at "s") => `(tactic| with_reducible first
  | refine' s_seq ?_ | refine' s_next ?_ | refine' s_set ?_ | refine' s_ret ?_ | refine' s_retN ?_ | refine' s_drop ?_ | refine' s_if ?_ | refine' s_ipI ?_
  | refine' e_c ?_ | refine' e_op ?_ | refine' e_un ?_ | refine' e_neg ?_ | refine' e_test ?_ | refine' e_tB ?_ | refine' e_bl ?_ | refine' e_and ?_ | refine' e_or ?_ | refine' e_not ?_
  | refine' e_andV ?_ | refine' e_orV ?_ | refine' e_notV ?_ | refine' e_kV ?_ | refine' e_ife ?_ | refine' e_nil ?_ | refine' e_cons ?_ | refine' e_cb ?_ | refine' e_call ?_ | refine' e_chain ?_
  | refine' o_addI ?_ | refine' o_eqI ?_ | refine' o_neI ?_ | refine' o_I0 ?_ | refine' o_pow16 ?_ | refine' o_pow17 ?_ | refine' o_pow18 ?_ | refine' o_pow19 ?_ | refine' o_pow30 ?_ | refine' o_pow31 ?_ | refine' o_pow1 ?_ | refine' o_pow2 ?_ | refine' o_pow3 ?_ | refine' o_pow4 ?_ | refine' o_pow5 ?_ | refine' o_pow6 ?_ | refine' o_pow9 ?_ | refine' o_pow10 ?_ | refine' o_pow12 ?_ | refine' o_pow15 ?_ | refine' o_pow20 ?_ | refine' e_lst ?_ | refine' e_tup ?_ | refine' iteT ?_ | refine' i_nt ?_ | refine' i_nf ?_ | refine' iteF ?_ | refine' c_int ?_ | refine' c_abs ?_ | refine' c_min2 ?_ | refine' c_max2 ?_ | refine' e_tru ?_ | refine' t_bl ?_ | refine' t_non ?_ | refine' t_int ?_ | refine' isN_non ?_ | refine' isN_int ?_ | refine' isN_ref ?_ | refine' isN_str ?_ | refine' isN_bl ?_ | refine' noN_non ?_ | refine' noN_int ?_ | refine' noN_ref ?_ | refine' noN_str ?_ | refine' noN_bl ?_
  | refine' s_brk ?_ | refine' s_cont ?_ | refine' s_for ?_ | refine' e_lc ?_ | refine' e_dc ?_ | refine' e_yes ?_ | refine' i_rng1 ?_ | refine' i_lst0 ?_ | refine' i_tup0 ?_ | refine' e_bm ?_ | refine' e_sl ?_ | refine' e_np ?_ | refine' e_pt ?_ | refine' e_ptI ?_ | refine' e_din ?_ | refine' e_dnin ?_ | refine' e_methE ?_ | refine' p_cons ?_ | refine' p_nil ?_ | refine' s_dput ?_ | refine' e_dget2 ?_ | refine' e_dpop1 ?_ | refine' i_enum0 ?_ | refine' i_rev0 ?_ | refine' g_sub ?_ | refine' s_asg ?_ | refine' i_zip0 ?_ | refine' e_revT ?_ | refine' isB_bl ?_ | refine' notB_bl ?_ | refine' o_neB ?_ | refine' i_nrr ?_ | refine' e_meth ?_ | refine' s_setf ?_ | refine' e_fld ?_ | refine' e_bm0 ?_ | refine' r_tx ?_ | refine' o_eqStr ?_ | refine' o_neStr ?_)
local macro_rules | `(tactic| walk_at "v") => `(tactic| ((with_reducible refine' e_var ?hv ?_); (case hv => exact rfl)))
local macro_rules | `(tactic| walk_at "a") => `(tactic| ((with_reducible refine' s_aug ?hv ?_); (case hv => exact rfl)))
local macro_rules | `(tactic| walk_at "m") => `(tactic| first
  | ((with_reducible refine' o_mod ?hv ?_); (case hv => first | decide | omega))
  | ((with_reducible refine' o_mulR ?hv ?_); (case hv => omega))
  | ((with_reducible refine' o_mulL ?hv ?_); (case hv => omega))
  | ((with_reducible refine' o_div ?hv ?hw ?_); (case hv => omega); (case hw => omega))
  | ((with_reducible refine' o_pow _ ?hv ?hw ?hx ?_); (case hv => exact rfl); (case hw => decide); (case hx => decide)))
local macro_rules | `(tactic| walk_at "i") => `(tactic| (first
  | ((with_reducible refine' isi_int true ?hv ?_); (case hv => exact (by decide +kernel)))
  | ((with_reducible refine' isi_int false ?hv ?_); (case hv => exact (by decide +kernel)))
  | ((with_reducible refine' isi_non true ?hv ?_); (case hv => exact (by decide +kernel)))
  | ((with_reducible refine' isi_non false ?hv ?_); (case hv => exact (by decide +kernel)))
  | ((with_reducible refine' isi_str true ?hv ?_); (case hv => exact (by decide +kernel)))
  | ((with_reducible refine' isi_str false ?hv ?_); (case hv => exact (by decide +kernel)))
  | ((with_reducible refine' isi_bl true ?hv ?_); (case hv => exact (by decide +kernel)))
  | ((with_reducible refine' isi_bl false ?hv ?_); (case hv => exact (by decide +kernel)))
  | ((with_reducible refine' isi_t true ?hw ?hv ?_); (case hw => assumption); (case hv => exact (by decide +kernel)))
  | ((with_reducible refine' isi_t false ?hw ?hv ?_); (case hw => assumption); (case hv => exact (by decide +kernel)))
  | ((with_reducible refine' isi_l true ?hw ?hv ?_); (case hw => assumption); (case hv => exact (by decide +kernel)))
  | ((with_reducible refine' isi_l false ?hw ?hv ?_); (case hw => assumption); (case hv => exact (by decide +kernel)))
  | ((with_reducible refine' isi_tup true ?hw ?hv ?_); (case hw => assumption); (case hv => exact (by decide +kernel)))
  | ((with_reducible refine' isi_tup false ?hw ?hv ?_); (case hw => assumption); (case hv => exact (by decide +kernel)))
  | ((with_reducible refine' isi_lst true ?hw ?hv ?_); (case hw => assumption); (case hv => exact (by decide +kernel)))
  | ((with_reducible refine' isi_lst false ?hw ?hv ?_); (case hw => assumption); (case hv => exact (by decide +kernel)))))
local macro_rules | `(tactic| walk_at "om") => `(tactic| first | omega | (simp only [List.length_cons, List.length_nil, List.length_map, List.length_append, List.length_range]; omega))
local macro_rules | `(tactic| walk_at "d") => `(tactic| (first
  | ((with_reducible refine' i_dt ?hv ?_); (case hv => walk_at "om"))
  | ((with_reducible refine' i_df ?hv ?_); (case hv => walk_at "om"))
  | ((with_reducible refine' i_ndt ?hv ?_); (case hv => walk_at "om"))
  | ((with_reducible refine' i_ndf ?hv ?_); (case hv => walk_at "om"))))
local macro_rules | `(tactic| walk_at "x") => `(tactic| first
  | ((with_reducible refine' o_ixA ?hv ?hw ?_); (case hv => assumption); (case hw => exact rfl))
  | ((with_reducible refine' o_ixU ?hv ?hw ?_); (case hv => assumption); (case hw => exact rfl))
  | ((with_reducible refine' o_ixL ?hv ?hw ?_); (case hv => assumption); (case hw => exact rfl))
  | ((with_reducible refine' o_ixT ?hv ?hw ?_); (case hv => assumption); (case hw => exact rfl))
  | ((with_reducible refine' set_ ?hv ?hw ?_); (case hv => assumption); (case hw => exact rfl))
  | ((with_reducible refine' e_lenM ?hv ?_); (case hv => first | assumption | exact slO (by assumption)))
  | ((with_reducible refine' e_lenN ?hv ?_); (case hv => first | assumption | exact stO (by assumption)))
  | ((with_reducible refine' e_lenL ?hv ?_); (case hv => first | assumption | exact slO (by assumption)))
  | ((with_reducible refine' e_lenT ?hv ?_); (case hv => first | assumption | exact stO (by assumption))))
local macro_rules | `(tactic| walk_at "c") => `(tactic| first
  | ((with_reducible refine' c_listL ?hv ?_); (case hv => assumption))
  | ((with_reducible refine' c_listT ?hv ?_); (case hv => assumption))
  | ((with_reducible refine' c_tupL ?hv ?_); (case hv => first | assumption | exact slO (by assumption)))
  | ((with_reducible refine' c_tupT ?hv ?_); (case hv => assumption))
  | ((with_reducible refine' t_lst ?hv ?_); (case hv => first | assumption | exact slO (by assumption)))
  | ((with_reducible refine' t_tup ?hv ?_); (case hv => assumption))
  | ((with_reducible refine' r_sl ?hv ?_); (case hv => first | assumption | exact slO (by assumption)))
  | ((with_reducible refine' o_inL ?hv ?_); (case hv => first | assumption | exact slO (by assumption)))
  | ((with_reducible refine' o_inT ?hv ?_); (case hv => first | assumption | exact stO (by assumption)))
  | ((with_reducible refine' o_niL ?hv ?_); (case hv => first | assumption | exact slO (by assumption)))
  | ((with_reducible refine' o_niT ?hv ?_); (case hv => first | assumption | exact stO (by assumption)))
  | ((with_reducible refine' ty_lst ?hv ?_); (case hv => assumption)))
local macro_rules | `(tactic| walk_at "mo") => `(tactic| repeat' (first | exact m_yes | exact m_var | exact m_c | exact m_I0 | exact m_I | exact m_ix | exact m_add | exact m_in | exact m_int1 | exact m_abs | exact m_nil | refine' m_and ?_ ?_ | refine' m_test ?_ | refine' m_tB ?_ | refine' m_op ?_ ?_ ?_ | refine' m_cons ?_ ?_ | refine' m_cb ?_ ?_))
local macro_rules | `(tactic| walk_at "go") => `(tactic| repeat' (first | walk_at "s" | walk_at "v" | walk_at "a" | walk_at "x" | walk_at "m" | walk_at "c" | walk_at "i" | walk_at "d"))

section
variable {P : Program} {w : World} {K : PySem.W.Frag} {mg : Str → Option Value} {base : Heap}
theorem RowsTo.snoc {H : Hp} {ts : List Addr} {rs : List Kp} {t a : Addr} {r : Kp} (h : RowsTo K H ts rs) (h1 : SqT K H t [.int r.2.1, .int r.2.2, .ref a]) (h2 : SqT K H a r.1) : RowsTo K H (ts ++ [t]) (rs ++ [r]) := by
  refine ⟨by rw [List.length_append, List.length_append, h.1]; rfl, fun i d ys x y => ?_⟩
  have l := h.1
  by_cases hi : i < ts.length
  · rw [List.getElem?_append_left hi] at x
    rw [List.getElem?_append_left (by omega)] at y
    exact h.2 i d ys x y
  · rw [List.getElem?_append_right (by omega)] at x
    rw [List.getElem?_append_right (by omega)] at y
    rw [l] at x
    cases e : i - rs.length with
    | zero =>
      rw [e] at x y
      cases x; cases y; exact ⟨a, h1, h2⟩
    | succ n => rw [e] at x; cases x
def sp_added (K : PySem.W.Frag) : Sp := fun vs H Q _ => ∃ m G L a xs, vs = [.ref m, .ref a] ∧ MS K H m G L ∧ SqT K H a xs ∧ L.kept.length ≤ 10000 ∧ (∀ r ∈ L.kept, r.1.length ≤ 30000) ∧ L.nk = L.nkOf ∧ ∀ l2 H', MS K H' m [m, l2] (L.more xs L.ep) → Ch [m] H H' → H l2 = none → Q (.int L.no) H'
theorem ok_law_added (T : Txt K mg) : FnOk P w K mg base CX0 3 T.law_added.f T.law_added.fd ["model", "items"] (sp_added K) := by
  refine T.law_added.F.ok sc_law_added (fun vs H Q E h => ?_) (fun cdv A outer s H vs Q E hr h => ?_)
  · obtain ⟨m, G, L, a, xs, rfl, _⟩ := h
    rfl
  · obtain ⟨m, G, L, a, xs, rfl, hM, ha, hn, hx, hk, k⟩ := h
    refine ⟨_, (pss_cons (ps_dput (hu_of hr) (pv 0) pe_str (pe_op oAdd (pe_dget (hu_of hr) (pv 0) pe_str (fun _ _ => rfl)) (pe_lst (pa_cons (pe_tup (pa_cons (pe_call (ok_law_next_k T) (hr.mono (by decide)) (by rfl) T.law_next_k.g T.law_next_k.F.kp T.law_next_k.b .nil pass0 (pa_cons (pv 0) pa_nil)) (pa_cons (pe_dget (hu_of hr) (pv 0) pe_str (fun _ _ => rfl)) (pa_cons (pv 1) pa_nil)))) pa_nil))) rfl)
    (pss_one (ps_ret (pe_op op_sub (pe_op oAdd (pe_dget (hu_of hr) (pv 0) pe_str (fun _ _ => rfl)) (pe_callB (cLen (K := K)) (by rfl) T.z_len PySem.boot_len (pa_cons (pe_dget (hu_of hr) (pv 0) pe_str (fun _ _ => rfl)) pa_nil))) pe_int)))), ?_⟩
    have hM0 := hM
    obtain ⟨rl, ts, eG, hm, hr, hrows⟩ := hM
    walk_at "go"
    refine e_dget ?_
    walk_at "go"
    refine o_dget (k := Sum.inr "rows") hm mkv_rows ?_
    walk_at "go"
    refine ⟨m, G, L, rfl, hM0, hn, hx, fun H1 s1 => ?_⟩
    walk_at "go"
    refine e_dget ?_
    walk_at "go"
    refine o_dget (k := Sum.inr "epoch") (s1 _ _ hm) mkv_epoch ?_
    walk_at "go"
    refine n_new (le_size (by simp)) fun t H2 n2 s2 h2 => ?_
    walk_at "go"
    refine n_new (le_size (by simp)) fun l3 H3 n3 s3 h3 => ?_
    have s23 := s2.trans s3
    have s03 := s1.trans s23
    walk_at "go"
    refine o_cat (s03 _ _ hr) h3 (by rw [List.length_map, hrows.1]; simp only [List.length_cons, List.length_nil]; omega) ?_
    refine n_new0 fun l2 H4 n4 s4 h4 => ?_
    have s04 := s03.trans s4
    have hm4 := s04 _ _ hm
    walk_at "go"
    refine o_dput (k := Sum.inr "rows") hm4 (by show 5 < 100000; decide) ?_
    rw [mkv_pr]
    have nl2 : H l2 = none := free_ s03 n4
    have nlm : l2 ≠ m := ne_of_none' hm nl2
    have c5 : Ch [m] H4 (upd H4 m (.dK (mkv L l2))) := Ch.upd1 (by simp) fun o e => by rw [hm4] at e; cases e; rfl
    have h5m : upd H4 m (.dK (mkv L l2)) m = some (.dK (mkv L l2)) := upd_same
    have h5l : upd H4 m (.dK (mkv L l2)) l2 = some (.lst (ts.map V.ref ++ [.ref t])) := (upd_ne nlm).trans h4
    generalize upd H4 m (.dK (mkv L l2)) = H5 at *
    walk_at "go"
    refine e_dget ?_
    walk_at "go"
    refine o_dget (k := Sum.inr "record") h5m mkv_record ?_
    walk_at "go"
    refine e_dget ?_
    walk_at "go"
    refine o_dget (k := Sum.inr "rows") h5m mkv_rows ?_
    have h5l' : H5 l2 = some (.lst ((ts ++ [t]).map V.ref)) := by rw [h5l, List.map_append]; rfl
    walk_at "go"
    have en : (L.bg : Int) + ((ts ++ [t]).length : Nat) - 1 = (L.no : Int) := by
      unfold LD.no
      rw [List.length_append, List.length_singleton, hrows.1]; omega
    rw [en]
    refine k l2 H5 ⟨l2, ts ++ [t], rfl, h5m, h5l', ?_⟩ (fun b o e c => c5 b o (s04 _ _ e) c) nl2
    exact (hrows.st fun c xs h => c5.st (st_ s04 h)).snoc (a := a) (r := (xs, L.nk, L.ep)) (c5.st (st_ (s3.trans s4) (by rw [hk]; exact stO h2))) (c5.st (st_ s04 ha))
end
end Vw

set_option Elab.async false
set_option linter.all false
set_option maxRecDepth 100000
set_option maxHeartbeats 4000000
namespace Vw
open PySem PySem.Spec PyProof.Rows L2 RT
local macro_rules | `(tactic| walk_at "s") => `(tactic| with_reducible first
  | refine' s_seq ?_ | refine' s_next ?_ | refine' s_set ?_ | refine' s_ret ?_ | refine' s_retN ?_ | refine' s_drop ?_ | refine' s_if ?_ | refine' s_ipI ?_
  | refine' e_c ?_ | refine' e_op ?_ | refine' e_un ?_ | refine' e_neg ?_ | refine' e_test ?_ | refine' e_tB ?_ | refine' e_bl ?_ | refine' e_and ?_ | refine' e_or ?_ | refine' e_not ?_
  | refine' e_andV ?_ | refine' e_orV ?_ | refine' e_notV ?_ | refine' e_kV ?_ | refine' e_ife ?_ | refine' e_nil ?_ | refine' e_cons ?_ | refine' e_cb ?_ | refine' e_call ?_ | refine' e_chain ?_
  | refine' o_addI ?_ | refine' o_eqI ?_ | refine' o_neI ?_ | refine' o_I0 ?_ | refine' o_pow16 ?_ | refine' o_pow17 ?_ | refine' o_pow18 ?_ | refine' o_pow19 ?_ | refine' o_pow30 ?_ | refine' o_pow31 ?_ | refine' o_pow1 ?_ | refine' o_pow2 ?_ | refine' o_pow3 ?_ | refine' o_pow4 ?_ | refine' o_pow5 ?_ | refine' o_pow6 ?_ | refine' o_pow9 ?_ | refine' o_pow10 ?_ | refine' o_pow12 ?_ | refine' o_pow15 ?_ | refine' o_pow20 ?_ | refine' e_lst ?_ | refine' e_tup ?_ | refine' iteT ?_ | refine' i_nt ?_ | refine' i_nf ?_ | refine' iteF ?_ | refine' c_int ?_ | refine' c_abs ?_ | refine' c_min2 ?_ | refine' c_max2 ?_ | refine' e_tru ?_ | refine' t_bl ?_ | refine' t_non ?_ | refine' t_int ?_ | refine' isN_non ?_ | refine' isN_int ?_ | refine' isN_ref ?_ | refine' isN_str ?_ | refine' isN_bl ?_ | refine' noN_non ?_ | refine' noN_int ?_ | refine' noN_ref ?_ | refine' noN_str ?_ | refine' noN_bl ?_
  | refine' s_brk ?_ | refine' s_cont ?_ | refine' s_for ?_ | refine' e_lc ?_ | refine' e_dc ?_ | refine' e_yes ?_ | refine' i_rng1 ?_ | refine' i_lst0 ?_ | refine' i_tup0 ?_ | refine' e_bm ?_ | refine' e_sl ?_ | refine' e_np ?_ | refine' e_pt ?_ | refine' e_ptI ?_ | refine' e_din ?_ | refine' e_dnin ?_ | refine' e_methE ?_ | refine' p_cons ?_ | refine' p_nil ?_ | refine' s_dput ?_ | refine' e_dget2 ?_ | refine' e_dpop1 ?_ | refine' i_enum0 ?_ | refine' i_rev0 ?_ | refine' g_sub ?_ | refine' s_asg ?_ | refine' i_zip0 ?_ | refine' e_revT ?_ | refine' isB_bl ?_ | refine' notB_bl ?_ | refine' o_neB ?_ | refine' i_nrr ?_ | refine' e_meth ?_ | refine' s_setf ?_ | refine' e_fld ?_ | refine' e_bm0 ?_ | refine' r_tx ?_ | refine' o_eqStr ?_ | refine' o_neStr ?_)
local macro_rules | `(tactic| walk_at "v") => `(tactic| ((with_reducible refine' e_var ?hv ?_); (case hv => exact rfl)))
local macro_rules | `(tactic| walk_at "a") => `(tactic| ((with_reducible refine' s_aug ?hv ?_); (case hv => exact rfl)))
local macro_rules | `(tactic| walk_at "m") => `(tactic| first
  | ((with_reducible refine' o_mod ?hv ?_); (case hv => first | decide | omega))
  | ((with_reducible refine' o_mulR ?hv ?_); (case hv => omega))
  | ((with_reducible refine' o_mulL ?hv ?_); (case hv => omega))
  | ((with_reducible refine' o_div ?hv ?hw ?_); (case hv => omega); (case hw => omega))
  | ((with_reducible refine' o_pow _ ?hv ?hw ?hx ?_); (case hv => exact rfl); (case hw => decide); (case hx => decide)))
local macro_rules | `(tactic| walk_at "i") => `(tactic| (first
  | ((with_reducible refine' isi_int true ?hv ?_); (case hv => exact (by decide +kernel)))
  | ((with_reducible refine' isi_int false ?hv ?_); (case hv => exact (by decide +kernel)))
  | ((with_reducible refine' isi_non true ?hv ?_); (case hv => exact (by decide +kernel)))
  | ((with_reducible refine' isi_non false ?hv ?_); (case hv => exact (by decide +kernel)))
  | ((with_reducible refine' isi_str true ?hv ?_); (case hv => exact (by decide +kernel)))
  | ((with_reducible refine' isi_str false ?hv ?_); (case hv => exact (by decide +kernel)))
  | ((with_reducible refine' isi_bl true ?hv ?_); (case hv => exact (by decide +kernel)))
  | ((with_reducible refine' isi_bl false ?hv ?_); (case hv => exact (by decide +kernel)))
  | ((with_reducible refine' isi_t true ?hw ?hv ?_); (case hw => assumption); (case hv => exact (by decide +kernel)))
  | ((with_reducible refine' isi_t false ?hw ?hv ?_); (case hw => assumption); (case hv => exact (by decide +kernel)))
  | ((with_reducible refine' isi_l true ?hw ?hv ?_); (case hw => assumption); (case hv => exact (by decide +kernel)))
  | ((with_reducible refine' isi_l false ?hw ?hv ?_); (case hw => assumption); (case hv => exact (by decide +kernel)))
  | ((with_reducible refine' isi_tup true ?hw ?hv ?_); (case hw => assumption); (case hv => exact (by decide +kernel)))
  | ((with_reducible refine' isi_tup false ?hw ?hv ?_); (case hw => assumption); (case hv => exact (by decide +kernel)))
  | ((with_reducible refine' isi_lst true ?hw ?hv ?_); (case hw => assumption); (case hv => exact (by decide +kernel)))
  | ((with_reducible refine' isi_lst false ?hw ?hv ?_); (case hw => assumption); (case hv => exact (by decide +kernel)))))
local macro_rules | `(tactic| walk_at "om") => `(tactic| first | omega | (simp only [List.length_cons, List.length_nil, List.length_map, List.length_append, List.length_range]; omega))
local macro_rules | `(tactic| walk_at "d") => `(tactic| (first
  | ((with_reducible refine' i_dt ?hv ?_); (case hv => walk_at "om"))
  | ((with_reducible refine' i_df ?hv ?_); (case hv => walk_at "om"))
  | ((with_reducible refine' i_ndt ?hv ?_); (case hv => walk_at "om"))
  | ((with_reducible refine' i_ndf ?hv ?_); (case hv => walk_at "om"))))
local macro_rules | `(tactic| walk_at "x") => `(tactic| first
  | ((with_reducible refine' o_ixA ?hv ?hw ?_); (case hv => assumption); (case hw => exact rfl))
  | ((with_reducible refine' o_ixU ?hv ?hw ?_); (case hv => assumption); (case hw => exact rfl))
  | ((with_reducible refine' o_ixL ?hv ?hw ?_); (case hv => assumption); (case hw => exact rfl))
  | ((with_reducible refine' o_ixT ?hv ?hw ?_); (case hv => assumption); (case hw => exact rfl))
  | ((with_reducible refine' set_ ?hv ?hw ?_); (case hv => assumption); (case hw => exact rfl))
  | ((with_reducible refine' e_lenM ?hv ?_); (case hv => first | assumption | exact slO (by assumption)))
  | ((with_reducible refine' e_lenN ?hv ?_); (case hv => first | assumption | exact stO (by assumption)))
  | ((with_reducible refine' e_lenL ?hv ?_); (case hv => first | assumption | exact slO (by assumption)))
  | ((with_reducible refine' e_lenT ?hv ?_); (case hv => first | assumption | exact stO (by assumption))))
local macro_rules | `(tactic| walk_at "c") => `(tactic| first
  | ((with_reducible refine' c_listL ?hv ?_); (case hv => assumption))
  | ((with_reducible refine' c_listT ?hv ?_); (case hv => assumption))
  | ((with_reducible refine' c_tupL ?hv ?_); (case hv => first | assumption | exact slO (by assumption)))
  | ((with_reducible refine' c_tupT ?hv ?_); (case hv => assumption))
  | ((with_reducible refine' t_lst ?hv ?_); (case hv => first | assumption | exact slO (by assumption)))
  | ((with_reducible refine' t_tup ?hv ?_); (case hv => assumption))
  | ((with_reducible refine' r_sl ?hv ?_); (case hv => first | assumption | exact slO (by assumption)))
  | ((with_reducible refine' o_inL ?hv ?_); (case hv => first | assumption | exact slO (by assumption)))
  | ((with_reducible refine' o_inT ?hv ?_); (case hv => first | assumption | exact stO (by assumption)))
  | ((with_reducible refine' o_niL ?hv ?_); (case hv => first | assumption | exact slO (by assumption)))
  | ((with_reducible refine' o_niT ?hv ?_); (case hv => first | assumption | exact stO (by assumption)))
  | ((with_reducible refine' ty_lst ?hv ?_); (case hv => assumption)))
local macro_rules | `(tactic| walk_at "mo") => `(tactic| repeat' (first | exact m_yes | exact m_var | exact m_c | exact m_I0 | exact m_I | exact m_ix | exact m_add | exact m_in | exact m_int1 | exact m_abs | exact m_nil | refine' m_and ?_ ?_ | refine' m_test ?_ | refine' m_tB ?_ | refine' m_op ?_ ?_ ?_ | refine' m_cons ?_ ?_ | refine' m_cb ?_ ?_))
local macro_rules | `(tactic| walk_at "go") => `(tactic| repeat' (first | walk_at "s" | walk_at "v" | walk_at "a" | walk_at "x" | walk_at "m" | walk_at "c" | walk_at "i" | walk_at "d"))

section
variable {P : Program} {w : World} {K : PySem.W.Frag} {mg : Str → Option Value} {base : Heap}
/-! ### contents as data -/
def datX : V → PyData
  | .int i => .int i
  | .str z => .str z
  | .bl b => .bool b
  | _ => .none
theorem word_ok {z : Str} (h : wordB z = true) : PyData.strOk z = true := by
  unfold wordB at h
  rw [Bool.and_eq_true, Bool.or_eq_true] at h
  rcases h.2 with q | q
  · rw [of_decide_eq_true q]; decide +kernel
  · rw [Bool.and_eq_true] at q
    have := q.1
    unfold Txt.isascii at this
    unfold PyData.strOk
    rw [Array.all_eq_true'] at this ⊢
    intro x hx
    have := of_decide_eq_true (this x hx)
    exact decide_eq_true (by omega)
theorem datX_dp {H : Hp} {x : V} (h : itemB x = true) : Dp K H x (datX x) ∧ PyData.canLay0 (datX x) = true ∧ PyData.depth (datX x) ≤ 1 := by
  cases x with
  | int i => exact ⟨.int i, rfl, by simp [datX, PyData.depth]⟩
  | str z =>
    refine ⟨.str z, ?_, by simp [datX, PyData.depth]⟩
    have hw : wordB z = true := by
      unfold itemB at h
      simpa [within, isI] using h
    exact word_ok hw
  | _ => exfalso; unfold itemB at h; simp [within, isI] at h
theorem ct_all {H : Hp} : ∀ {xs : List V}, (∀ x ∈ xs, itemB x = true) → DpAll K H xs (xs.map datX) ∧ PyData.canLayAll0 (xs.map datX) = true ∧ PyData.depthAll (xs.map datX) ≤ 1
  | [], _ => ⟨.nil, rfl, by simp [PyData.depthAll]⟩
  | x :: xs, h => by
    obtain ⟨a, b, c⟩ := ct_all (H := H) (xs := xs) fun y hy => h y (List.mem_cons_of_mem _ hy)
    obtain ⟨a1, b1, c1⟩ := datX_dp (K := K) (H := H) (h x (by simp))
    refine ⟨.cons a1 a, by rw [List.map_cons]; simp [PyData.canLayAll0, b1, b], ?_⟩
    rw [List.map_cons]
    simp only [PyData.depthAll]
    exact Nat.max_le.mpr ⟨c1, c⟩
theorem ct_items {xs : Ct} (h : CtOk xs) : ∀ x ∈ xs, itemB x = true := by
  have := h.2.2
  unfold itemsB at this
  rw [Bool.and_eq_true, Bool.and_eq_true] at this
  exact List.all_eq_true.mp this.2.2
theorem tup_dp {H : Hp} {a : Addr} {xs : List V} (h1 : SqT K H a xs) (ok : ∀ x ∈ xs, itemB x = true) : Dp K H (.ref a) (.tuple (xs.map datX)) ∧ PyData.canLay0 (.tuple (xs.map datX)) = true ∧ PyData.depth (.tuple (xs.map datX)) ≤ 2 := by
  obtain ⟨d, l, p⟩ := ct_all (K := K) (H := H) ok
  exact ⟨.tup h1 d, by simpa [PyData.canLay0] using l, by simp only [PyData.depth]; omega⟩
theorem shaped_of {d : PyData} (l : PyData.canLay0 d = true) (n : PyData.depth d ≤ 64) : SeqAt.shaped d = true := by
  unfold SeqAt.shaped
  rw [Bool.and_eq_true_iff]
  exact ⟨l, decide_eq_true n⟩
theorem o_neA {H : Hp} {Q : VK} {r : R2} {a b : Addr} {xs ys : Ct} (h1 : SqT K H a xs) (h2 : SqT K H b ys) (ok : CtOk xs) (ok2 : CtOk ys) (q : ∀ z : Bool, (xs = ys → z = false) → Q (.bl z) H) : rOr r (rNeD K) (.ref a) (.ref b) H Q := by
  obtain ⟨d, l, p⟩ := tup_dp h1 (ct_items ok)
  obtain ⟨d2, l2, p2⟩ := tup_dp h2 (ct_items ok2)
  refine .inr ⟨_, _, d, d2, shaped_of l (by omega), shaped_of l2 (by omega), q _ fun e => ?_⟩
  subst e
  rw [SeqAt.eqv_refl _ l]; rfl
/-! ### the pairs of a log as data -/
def pairX (r : Int × List V) : PyData := .tuple [.int r.1, .tuple (r.2.map datX)]
theorem pairs_all {H : Hp} : ∀ {rs : List (Int × List V)} {ts : List Addr}, PairsTo K H ts rs → (∀ r ∈ rs, ∀ x ∈ r.2, itemB x = true) → DpAll K H (ts.map V.ref) (rs.map pairX) ∧ PyData.canLayAll0 (rs.map pairX) = true ∧ PyData.depthAll (rs.map pairX) ≤ 3
  | [], ts, h, _ => by
    have : ts = [] := List.length_eq_zero_iff.mp h.1
    subst this
    exact ⟨.nil, rfl, by simp [PyData.depthAll]⟩
  | r :: rs, [], h, _ => by have := h.1; cases this
  | r :: rs, t :: ts, h, ok => by
    obtain ⟨a, ht, ha⟩ := h.2 0 t r rfl rfl
    obtain ⟨d, l, p⟩ := tup_dp ha (ok r (by simp))
    obtain ⟨e1, e2, e3⟩ := pairs_all (rs := rs) (ts := ts) ⟨by have := h.1; simpa using this, fun i t r a b => h.2 (i + 1) t r a b⟩ fun r hr => ok r (List.mem_cons_of_mem _ hr)
    refine ⟨.cons (.tup ht (.cons (.int _) (.cons d .nil))) e1, ?_, ?_⟩
    · rw [List.map_cons]
      simp only [PyData.canLayAll0, pairX, PyData.canLay0, e2, Bool.and_true] at l ⊢
      exact l
    · rw [List.map_cons]
      simp only [PyData.depthAll, pairX, PyData.depth] at p ⊢
      omega
theorem o_neP {H : Hp} {Q : VK} {r : R2} {a b : Addr} {ts us : List Addr} {rs : List (Int × List V)} (h1 : H a = some (.lst (ts.map V.ref))) (h2 : H b = some (.lst (us.map V.ref))) (p1 : PairsTo K H ts rs) (p2 : PairsTo K H us rs) (ok : ∀ r ∈ rs, ∀ x ∈ r.2, itemB x = true) (q : Q (.bl false) H) : rOr r (rNeD K) (.ref a) (.ref b) H Q := by
  obtain ⟨d1, l, p⟩ := pairs_all p1 ok
  obtain ⟨d2, _, _⟩ := pairs_all p2 ok
  have cl : PyData.canLay0 (.list (rs.map pairX)) = true := by simpa [PyData.canLay0] using l
  have sh : SeqAt.shaped (.list (rs.map pairX)) = true := shaped_of cl (by simp only [PyData.depth]; omega)
  exact .inr ⟨_, _, .lst (slO h1) d1, .lst (slO h2) d2, sh, sh, by rw [SeqAt.eqv_refl _ cl]; exact q⟩
theorem o_eqP {H : Hp} {Q : VK} {r : R2} {a b : Addr} {ts us : List Addr} {rs : List (Int × List V)} (h1 : H a = some (.lst (ts.map V.ref))) (h2 : H b = some (.lst (us.map V.ref))) (p1 : PairsTo K H ts rs) (p2 : PairsTo K H us rs) (ok : ∀ r ∈ rs, ∀ x ∈ r.2, itemB x = true) (q : Q (.bl true) H) : rOr r (rEqD K) (.ref a) (.ref b) H Q := by
  obtain ⟨d1, l, p⟩ := pairs_all p1 ok
  obtain ⟨d2, _, _⟩ := pairs_all p2 ok
  have cl : PyData.canLay0 (.list (rs.map pairX)) = true := by simpa [PyData.canLay0] using l
  have sh : SeqAt.shaped (.list (rs.map pairX)) = true := shaped_of cl (by simp only [PyData.depth]; omega)
  exact .inr ⟨_, _, .lst (slO h1) d1, .lst (slO h2) d2, sh, sh, by rw [SeqAt.eqv_refl _ cl]; exact q⟩
/-! ### what a record's blocks hold -/
def rp (ring k e no : Nat) (xs : List V) : List (Int × Ct) := (List.range (cutN xs)).map fun j : Nat => (1 + ((k + j) % ring : Nat), (Pc.mk (k + j) e no (cutN xs - 1 - j) (cutAt xs j)).ct)
theorem puts_rp {L : LD} {xs : List V} : L.puts xs = rp L.ring L.nk L.ep L.no xs := rfl
theorem rp_len {ring k e no : Nat} {xs : List V} : (rp ring k e no xs).length = cutN xs := by unfold rp; rw [List.length_map, List.length_range]
def LD.rp (L : LD) (i : Nat) : List (Int × Ct) := match L.kept[i]? with
  | some r => Vw.rp L.ring r.2.1 r.2.2 (L.bg + i) r.1
  | none => []
def sp_contents (K : PySem.W.Frag) : Sp := fun vs H Q _ => ∃ m G L, ∃ i : Nat, vs = [.ref m, .int i] ∧ MS K H m G L ∧ i < L.kept.length ∧ (∀ r ∈ L.kept, r.1.length ≤ 6000) ∧ L.kept.length ≤ 10000 ∧ 0 < L.ring ∧ ∀ D ts H', Same H H' → H D = none → H' D = some (.lst (ts.map V.ref)) → PairsTo K H' ts (L.rp i) → Q (.ref D) H'
theorem ok_law_contents (T : Txt K mg) : FnOk P w K mg base CX0 2 T.law_contents.f T.law_contents.fd ["model", "at"] ((sp_contents K)) := by
  refine T.law_contents.F.ok sc_law_contents (fun vs H Q E h => ?_) (fun cdv A outer s H vs Q E hr h => ?_)
  · obtain ⟨m, G, L, i, rfl, _⟩ := h
    rfl
  · obtain ⟨m, G, L, i, rfl, hM, hi, hx, hn, hr0, k⟩ := h
    refine ⟨_, (pss_cons (ps_asg (pe_ix (ixLT (K := K)) (pe_dget (hu_of hr) (pv 0) pe_str (fun _ _ => rfl)) (pv 1) (fun _ _ => rfl)) (pgTup (K := K) (n := 3) (pg_tup (n := 3) rfl (pgs_cons (pg_name (i := 2) sc_law_contents.nd rfl (Or.inl rfl)) (pgs_cons (pg_name (i := 3) sc_law_contents.nd rfl (Or.inl rfl)) (pgs_cons (pg_name (i := 4) sc_law_contents.nd rfl (Or.inl rfl)) pgs_nil))))))
    (pss_cons (ps_set (i := 5) sc_law_contents.nd rfl (Or.inl rfl) (pe_call (ok_law_cut_up T) (hr.mono (by decide)) (by rfl) T.law_cut_up.g T.law_cut_up.F.kp T.law_cut_up.b .nil pass0 (pa_cons (pv 4) pa_nil)))
    (pss_cons (ps_set (i := 6) sc_law_contents.nd rfl (Or.inl rfl) (pe_lst pa_nil))
    (pss_cons (ps_for PassesOwn.never rfl (piEnumT (K := K) (by rfl) T.z_enumerate (pa_cons (pv 5) pa_nil)) (pgTup (K := K) (n := 2) (pg_tup (n := 2) rfl (pgs_cons (pg_name (i := 7) sc_law_contents.nd rfl (Or.inl rfl)) (pgs_cons (pg_name (i := 8) sc_law_contents.nd rfl (Or.inl rfl)) pgs_nil))))
      (pss_cons (ps_set (i := 9) sc_law_contents.nd rfl (Or.inl rfl) (pe_op (oAddT (K := K)) (pe_tup (pa_cons (pe_op (oAddT (K := K)) (pv 2) (pv 7)) (pa_cons (pv 3) (pa_cons (pe_op (oAddT (K := K)) (pe_dget (hu_of hr) (pv 0) pe_str (fun _ _ => rfl)) (pv 1)) (pa_cons (pe_op op_sub (pe_op op_sub (pe_callB (cLen (K := K)) (by rfl) T.z_len PySem.boot_len (pa_cons (pv 5) pa_nil)) pe_int) (pv 7)) pa_nil))))) (pv 8)))
    (pss_one (ps_expr (peApp (K := K) (pe_bm PySem.F.plainAttrs_list PySem.F.slot_list_append PySem.F.type_list_append mt_append (pv 6) (pa_cons (pe_tup (pa_cons (pe_op (oAddT (K := K)) pe_int (pe_op op_mod (pe_callTy cInt (by rfl) T.z_int (by decide +kernel) (pa_cons (pe_op (oAddT (K := K)) (pv 2) (pv 7)) pa_nil)) (pe_dget (hu_of hr) (pv 0) pe_str (fun _ _ => rfl)))) (pa_cons (pv 9) pa_nil))) pa_nil)))))))
    (pss_one (ps_ret (pv 6))))))), ?_⟩
    obtain ⟨rl, ts, eG, hm, hr, hrows⟩ := hM
    have hi2 : i < ts.length := by rw [hrows.1]; exact hi
    obtain ⟨a, ht, ha⟩ := hrows.2 i _ _ (List.getElem?_eq_getElem hi2) (List.getElem?_eq_getElem hi)
    have hl := hx _ (List.getElem_mem hi)
    have erp : L.rp i = rp L.ring L.kept[i].2.1 L.kept[i].2.2 (L.bg + i) L.kept[i].1 := by unfold LD.rp; rw [List.getElem?_eq_getElem hi]
    rw [erp] at k
    generalize L.kept[i] = r at *
    have hsl := slO (K := K) hr
    walk_at "go"
    refine e_dget ?_
    walk_at "go"
    refine o_dget (k := Sum.inr "rows") hm mkv_rows ?_
    walk_at "go"
    refine o_ixL hsl (atI_in (j := i) rfl (by rw [List.getElem?_map, List.getElem?_eq_getElem hi2]; rfl)) ?_
    refine ⟨_, _, rfl, ht, rfl, _, _, rfl, _, _, rfl, _, _, rfl, rfl, ?_⟩
    walk_at "go"
    refine ⟨a, r.1, rfl, ha, by omega, fun D cs H1 s1 n1 h1 t1 => ?_⟩
    have lc : cs.length = cutN r.1 := by rw [t1.1, cutUp_length]
    have hc167 : cutN r.1 ≤ 167 := by unfold cutN; omega
    walk_at "go"
    refine n_new (le_size (by simp)) fun f H2 n2 s2 h2 => ?_
    walk_at "go"
    refine ⟨D, cs.map V.ref, rfl, .inl ⟨slO (s2 _ _ h1), ?_⟩⟩
    refine l_it (walk_enum (xs := cs.map V.ref)) (fun j σ3 H3 => ∃ (y7 y8 y9 : Option V) (us : List Addr), σ3 = [some (.ref m), some (.int i), some (.int r.2.1), some (.int r.2.2), some (.ref a), some (.ref D), some (.ref f), y7, y8, y9] ∧ Same H1 H3 ∧ H3 f = some (.lst (us.map V.ref)) ∧ PairsTo K H3 us ((rp L.ring r.2.1 r.2.2 (L.bg + i) r.1).take j)) ⟨none, none, none, [], rfl, s2, h2, rfl, fun i t r a => by cases a⟩ (fun j σ3 H3 hj z => ?_) (fun σ3 H3 z => ?_) (fun j x σ3 H3 H4 hj z y => ?_)
    · obtain ⟨y7, y8, y9, us, _, s3, _, _⟩ := z
      exact slO (s3 _ _ h1)
    · obtain ⟨y7, y8, y9, us, rfl, s3, h3, p3⟩ := z
      rw [List.length_map, lc, List.take_of_length_le (by rw [rp_len]; exact Nat.le_refl _)] at p3
      walk_at "go"
      exact k f us H3 (s1.trans s3) (free_ s1 n2) h3 p3
    · obtain ⟨y7, y8, y9, us, rfl, s3, h3, p3⟩ := z
      obtain ⟨Tp, x1, x2, rfl, nT, rfl, e1, e2⟩ := y
      have hj' : j < cs.length := by simpa using hj
      have hj2 : j < cutN r.1 := by omega
      have ex1 : x1 = .int (j : Nat) := (Option.some.inj e1).symm
      have e2 : (cs.map V.ref)[j]? = some x2 := e2
      have ex2 : x2 = .ref cs[j] := by
        rw [List.getElem?_map, List.getElem?_eq_getElem hj'] at e2
        exact (Option.some.inj e2).symm
      subst ex1 ex2
      have s34 : Same H3 (upd H3 Tp (.tup [.int (j : Nat), .ref cs[j]])) := Same.new nT
      refine g_pair upd_same ?_
      generalize upd H3 Tp (.tup [.int (j : Nat), .ref cs[j]]) = H4 at s34
      have s4 := s3.trans s34
      have s04 := s1.trans s4
      have hm4 := s04 _ _ hm
      have hD4 := s4 _ _ h1
      have hpc : SqT K H4 cs[j] (cutAt r.1 j) := st_ s4 (t1.2 j _ _ (List.getElem?_eq_getElem hj') (by unfold cutUp; rw [List.getElem?_map, List.getElem?_range hj2]; rfl))
      have en : (r.2.1 : Int) + (j : Nat) = ((r.2.1 + j : Nat) : Int) := by omega
      walk_at "go"
      refine e_dget ?_
      walk_at "go"
      refine o_dget (k := Sum.inr "record") hm4 mkv_record ?_
      walk_at "go"
      have el : (cs.length : Int) - 1 - (j : Nat) = ((cutN r.1 - 1 - j : Nat) : Int) := by omega
      have er : (L.bg : Int) + (i : Nat) = ((L.bg + i : Nat) : Int) := by omega
      rw [el, er, en]
      refine n_new (le_size (by simp)) fun t5 H5 n5 s5 h5 => ?_
      walk_at "go"
      refine o_catA (stO h5) (st_ s5 hpc) (by have := cutAt_len (xs := r.1) (i := j); simp only [List.length_cons, List.length_nil]; omega) fun t6 H6 s6 h6 => ?_
      walk_at "go"
      have s46 := s5.trans s6
      have h36 := s46 _ _ (s34 _ _ h3)
      walk_at "go"
      rw [en]
      refine e_dget ?_
      walk_at "go"
      refine o_dget (k := Sum.inr "ring") (s46 _ _ hm4) mkv_ring ?_
      walk_at "go"
      have eb : ((r.2.1 + j : Nat) : Int) % (L.ring : Int) = (((r.2.1 + j) % L.ring : Nat) : Int) := by rw [Int.natCast_emod]
      rw [eb]
      refine n_new (le_size (by simp)) fun t7 H7 n7 s7 h7 => ?_
      have h37 := s7 _ _ h36
      walk_at "go"
      have s37 := s34.trans (s46.trans s7)
      have lu : us.length = j := by rw [p3.1, List.length_take, rp_len]; omega
      refine r_app h37 (by rw [List.length_map]; omega) fun H8 o8 h8 => ?_
      have c8 : Ch [f] H7 H8 := Ch.of_oth o8 (by simp) fun o e => by rw [h37] at e; cases e; rfl
      have ew : (rp L.ring r.2.1 r.2.2 (L.bg + i) r.1)[j]? = some (1 + (((r.2.1 + j) % L.ring : Nat) : Int), (Pc.mk (r.2.1 + j) r.2.2 (L.bg + i) (cutN r.1 - 1 - j) (cutAt r.1 j)).ct) := by
        unfold rp
        rw [List.getElem?_map, List.getElem?_range hj2]; rfl
      walk_at "go"
      refine ⟨_, _, _, us ++ [t7], rfl, ?_, by rw [h8, List.map_append]; rfl, ?_⟩
      · exact fun b o e => o8 b o (fun z => by rw [z, n2] at e; cases e) (s37 _ _ (s3 _ _ e))
      · rw [List.take_add_one, ew]
        exact pairsTo_snoc (PairsTo.st p3 fun c ys h => c8.st (st_ s37 h)) (a := t6) (c8.st (stO h7)) (c8.st (st_ s7 h6))
end
end Vw

set_option Elab.async false
set_option linter.all false
set_option maxRecDepth 100000
set_option maxHeartbeats 4000000
namespace Vw
open PySem PySem.Spec PyProof.Rows L2 RT
local macro_rules | `(tactic| walk_at "s") => `(tactic| with_reducible first
  | refine' s_seq ?_ | refine' s_next ?_ | refine' s_set ?_ | refine' s_ret ?_ | refine' s_retN ?_ | refine' s_drop ?_ | refine' s_if ?_ | refine' s_ipI ?_
  | refine' e_c ?_ | refine' e_op ?_ | refine' e_un ?_ | refine' e_neg ?_ | refine' e_test ?_ | refine' e_tB ?_ | refine' e_bl ?_ | refine' e_and ?_ | refine' e_or ?_ | refine' e_not ?_
  | refine' e_andV ?_ | refine' e_orV ?_ | refine' e_notV ?_ | refine' e_kV ?_ | refine' e_ife ?_ | refine' e_nil ?_ | refine' e_cons ?_ | refine' e_cb ?_ | refine' e_call ?_ | refine' e_chain ?_
  | refine' o_addI ?_ | refine' o_eqI ?_ | refine' o_neI ?_ | refine' o_I0 ?_ | refine' o_pow16 ?_ | refine' o_pow17 ?_ | refine' o_pow18 ?_ | refine' o_pow19 ?_ | refine' o_pow30 ?_ | refine' o_pow31 ?_ | refine' o_pow1 ?_ | refine' o_pow2 ?_ | refine' o_pow3 ?_ | refine' o_pow4 ?_ | refine' o_pow5 ?_ | refine' o_pow6 ?_ | refine' o_pow9 ?_ | refine' o_pow10 ?_ | refine' o_pow12 ?_ | refine' o_pow15 ?_ | refine' o_pow20 ?_ | refine' e_lst ?_ | refine' e_tup ?_ | refine' iteT ?_ | refine' i_nt ?_ | refine' i_nf ?_ | refine' iteF ?_ | refine' c_int ?_ | refine' c_abs ?_ | refine' c_min2 ?_ | refine' c_max2 ?_ | refine' e_tru ?_ | refine' t_bl ?_ | refine' t_non ?_ | refine' t_int ?_ | refine' isN_non ?_ | refine' isN_int ?_ | refine' isN_ref ?_ | refine' isN_str ?_ | refine' isN_bl ?_ | refine' noN_non ?_ | refine' noN_int ?_ | refine' noN_ref ?_ | refine' noN_str ?_ | refine' noN_bl ?_
  | refine' s_brk ?_ | refine' s_cont ?_ | refine' s_for ?_ | refine' e_lc ?_ | refine' e_dc ?_ | refine' e_yes ?_ | refine' i_rng1 ?_ | refine' i_lst0 ?_ | refine' i_tup0 ?_ | refine' e_bm ?_ | refine' e_sl ?_ | refine' e_np ?_ | refine' e_pt ?_ | refine' e_ptI ?_ | refine' e_din ?_ | refine' e_dnin ?_ | refine' e_methE ?_ | refine' p_cons ?_ | refine' p_nil ?_ | refine' s_dput ?_ | refine' e_dget2 ?_ | refine' e_dpop1 ?_ | refine' i_enum0 ?_ | refine' i_rev0 ?_ | refine' g_sub ?_ | refine' s_asg ?_ | refine' i_zip0 ?_ | refine' e_revT ?_ | refine' isB_bl ?_ | refine' notB_bl ?_ | refine' o_neB ?_ | refine' i_nrr ?_ | refine' e_meth ?_ | refine' s_setf ?_ | refine' e_fld ?_ | refine' e_bm0 ?_ | refine' r_tx ?_ | refine' o_eqStr ?_ | refine' o_neStr ?_)
local macro_rules | `(tactic| walk_at "v") => `(tactic| ((with_reducible refine' e_var ?hv ?_); (case hv => exact rfl)))
local macro_rules | `(tactic| walk_at "a") => `(tactic| ((with_reducible refine' s_aug ?hv ?_); (case hv => exact rfl)))
local macro_rules | `(tactic| walk_at "m") => `(tactic| first
  | ((with_reducible refine' o_mod ?hv ?_); (case hv => first | decide | omega))
  | ((with_reducible refine' o_mulR ?hv ?_); (case hv => omega))
  | ((with_reducible refine' o_mulL ?hv ?_); (case hv => omega))
  | ((with_reducible refine' o_div ?hv ?hw ?_); (case hv => omega); (case hw => omega))
  | ((with_reducible refine' o_pow _ ?hv ?hw ?hx ?_); (case hv => exact rfl); (case hw => decide); (case hx => decide)))
local macro_rules | `(tactic| walk_at "i") => `(tactic| (first
  | ((with_reducible refine' isi_int true ?hv ?_); (case hv => exact (by decide +kernel)))
  | ((with_reducible refine' isi_int false ?hv ?_); (case hv => exact (by decide +kernel)))
  | ((with_reducible refine' isi_non true ?hv ?_); (case hv => exact (by decide +kernel)))
  | ((with_reducible refine' isi_non false ?hv ?_); (case hv => exact (by decide +kernel)))
  | ((with_reducible refine' isi_str true ?hv ?_); (case hv => exact (by decide +kernel)))
  | ((with_reducible refine' isi_str false ?hv ?_); (case hv => exact (by decide +kernel)))
  | ((with_reducible refine' isi_bl true ?hv ?_); (case hv => exact (by decide +kernel)))
  | ((with_reducible refine' isi_bl false ?hv ?_); (case hv => exact (by decide +kernel)))
  | ((with_reducible refine' isi_t true ?hw ?hv ?_); (case hw => assumption); (case hv => exact (by decide +kernel)))
  | ((with_reducible refine' isi_t false ?hw ?hv ?_); (case hw => assumption); (case hv => exact (by decide +kernel)))
  | ((with_reducible refine' isi_l true ?hw ?hv ?_); (case hw => assumption); (case hv => exact (by decide +kernel)))
  | ((with_reducible refine' isi_l false ?hw ?hv ?_); (case hw => assumption); (case hv => exact (by decide +kernel)))
  | ((with_reducible refine' isi_tup true ?hw ?hv ?_); (case hw => assumption); (case hv => exact (by decide +kernel)))
  | ((with_reducible refine' isi_tup false ?hw ?hv ?_); (case hw => assumption); (case hv => exact (by decide +kernel)))
  | ((with_reducible refine' isi_lst true ?hw ?hv ?_); (case hw => assumption); (case hv => exact (by decide +kernel)))
  | ((with_reducible refine' isi_lst false ?hw ?hv ?_); (case hw => assumption); (case hv => exact (by decide +kernel)))))
local macro_rules | `(tactic| walk_at "om") => `(tactic| first | omega | (simp only [List.length_cons, List.length_nil, List.length_map, List.length_append, List.length_range]; omega))
local macro_rules | `(tactic| walk_at "d") => `(tactic| (first
  | ((with_reducible refine' i_dt ?hv ?_); (case hv => walk_at "om"))
  | ((with_reducible refine' i_df ?hv ?_); (case hv => walk_at "om"))
  | ((with_reducible refine' i_ndt ?hv ?_); (case hv => walk_at "om"))
  | ((with_reducible refine' i_ndf ?hv ?_); (case hv => walk_at "om"))))
local macro_rules | `(tactic| walk_at "x") => `(tactic| first
  | ((with_reducible refine' o_ixA ?hv ?hw ?_); (case hv => assumption); (case hw => exact rfl))
  | ((with_reducible refine' o_ixU ?hv ?hw ?_); (case hv => assumption); (case hw => exact rfl))
  | ((with_reducible refine' o_ixL ?hv ?hw ?_); (case hv => assumption); (case hw => exact rfl))
  | ((with_reducible refine' o_ixT ?hv ?hw ?_); (case hv => assumption); (case hw => exact rfl))
  | ((with_reducible refine' set_ ?hv ?hw ?_); (case hv => assumption); (case hw => exact rfl))
  | ((with_reducible refine' e_lenM ?hv ?_); (case hv => first | assumption | exact slO (by assumption)))
  | ((with_reducible refine' e_lenN ?hv ?_); (case hv => first | assumption | exact stO (by assumption)))
  | ((with_reducible refine' e_lenL ?hv ?_); (case hv => first | assumption | exact slO (by assumption)))
  | ((with_reducible refine' e_lenT ?hv ?_); (case hv => first | assumption | exact stO (by assumption))))
local macro_rules | `(tactic| walk_at "c") => `(tactic| first
  | ((with_reducible refine' c_listL ?hv ?_); (case hv => assumption))
  | ((with_reducible refine' c_listT ?hv ?_); (case hv => assumption))
  | ((with_reducible refine' c_tupL ?hv ?_); (case hv => first | assumption | exact slO (by assumption)))
  | ((with_reducible refine' c_tupT ?hv ?_); (case hv => assumption))
  | ((with_reducible refine' t_lst ?hv ?_); (case hv => first | assumption | exact slO (by assumption)))
  | ((with_reducible refine' t_tup ?hv ?_); (case hv => assumption))
  | ((with_reducible refine' r_sl ?hv ?_); (case hv => first | assumption | exact slO (by assumption)))
  | ((with_reducible refine' o_inL ?hv ?_); (case hv => first | assumption | exact slO (by assumption)))
  | ((with_reducible refine' o_inT ?hv ?_); (case hv => first | assumption | exact stO (by assumption)))
  | ((with_reducible refine' o_niL ?hv ?_); (case hv => first | assumption | exact slO (by assumption)))
  | ((with_reducible refine' o_niT ?hv ?_); (case hv => first | assumption | exact stO (by assumption)))
  | ((with_reducible refine' ty_lst ?hv ?_); (case hv => assumption)))
local macro_rules | `(tactic| walk_at "mo") => `(tactic| repeat' (first | exact m_yes | exact m_var | exact m_c | exact m_I0 | exact m_I | exact m_ix | exact m_add | exact m_in | exact m_int1 | exact m_abs | exact m_nil | refine' m_and ?_ ?_ | refine' m_test ?_ | refine' m_tB ?_ | refine' m_op ?_ ?_ ?_ | refine' m_cons ?_ ?_ | refine' m_cb ?_ ?_))
local macro_rules | `(tactic| walk_at "go") => `(tactic| repeat' (first | walk_at "s" | walk_at "v" | walk_at "a" | walk_at "x" | walk_at "m" | walk_at "c" | walk_at "i" | walk_at "d"))

section
variable {P : Program} {w : World} {K : PySem.W.Frag} {mg : Str → Option Value} {base : Heap}
theorem rp_mem {ring k e no : Nat} {xs : List V} (h : 0 < ring) {w : Int × Ct} (hw : w ∈ rp ring k e no xs) : 1 ≤ w.1 ∧ w.1 ≤ ring := by
  obtain ⟨j, _, e⟩ := List.mem_map.mp hw
  have := Nat.mod_lt (k + j) h
  rw [← e]
  show 1 ≤ (1 : Int) + ((k + j) % ring : Nat) ∧ (1 : Int) + ((k + j) % ring : Nat) ≤ ring
  omega
theorem LD.rp_mem {L : LD} {i : Nat} (h : 0 < L.ring) {w : Int × Ct} (hw : w ∈ L.rp i) : 1 ≤ w.1 ∧ w.1 ≤ L.ring := by
  unfold LD.rp at hw
  split at hw
  · exact Vw.rp_mem h hw
  · cases hw
theorem LD.rp_len {L : LD} {i : Nat} (h : ∀ r ∈ L.kept, r.1.length ≤ 6000) : (L.rp i).length ≤ 167 := by
  unfold LD.rp
  split
  · next r e =>
    have := h r (List.mem_of_getElem? e)
    rw [Vw.rp_len]
    unfold cutN; omega
  · exact Nat.zero_le _
theorem eqv_item {x y : V} (hx : itemB x = true) (hy : itemB y = true) : PyData.eqv (datX x) (datX y) = decide (x = y) := by
  have nx : ∀ z : V, itemB z = true → (∃ i, z = .int i) ∨ ∃ s, z = .str s := fun z hz => by
    cases z with
    | int i => exact .inl ⟨i, rfl⟩
    | str s => exact .inr ⟨s, rfl⟩
    | _ => exfalso; unfold itemB at hz; simp [within, isI] at hz
  rcases nx x hx with ⟨i, rfl⟩ | ⟨s, rfl⟩ <;> rcases nx y hy with ⟨j, rfl⟩ | ⟨u, rfl⟩
  · show PyData.eqv (.int i) (.int j) = _
    simp only [PyData.eqv, V.int.injEq]
    by_cases h : i = j
    · subst h; simp
    · simp [h]
  · show PyData.eqv (.int i) (.str u) = _
    simp [PyData.eqv]
  · show PyData.eqv (.str s) (.int j) = _
    simp [PyData.eqv]
  · show PyData.eqv (.str s) (.str u) = _
    simp only [PyData.eqv, V.str.injEq]
    by_cases h : s = u
    · subst h; simp
    · simp [h]
theorem eqv_items : ∀ {xs ys : List V}, (∀ x ∈ xs, itemB x = true) → (∀ x ∈ ys, itemB x = true) → PyData.eqvAll (xs.map datX) (ys.map datX) = decide (xs = ys)
  | [], [], _, _ => by simp only [List.map_nil, PyData.eqvAll, decide_true]
  | [], _ :: _, _, _ => by simp [PyData.eqvAll]
  | _ :: _, [], _, _ => by simp [PyData.eqvAll]
  | x :: xs, y :: ys, hx, hy => by
    rw [List.map_cons, List.map_cons, PyData.eqvAll, eqv_item (hx x (by simp)) (hy y (by simp)), eqv_items (fun z h => hx z (List.mem_cons_of_mem _ h)) (fun z h => hy z (List.mem_cons_of_mem _ h)), ← Bool.decide_and]
    exact decide_eq_decide.mpr (by rw [List.cons.injEq])
theorem o_neE {H : Hp} {Q : VK} {r : R2} {a b : Addr} {xs ys : Ct} (h1 : SqT K H a xs) (h2 : SqT K H b ys) (ok : CtOk xs) (ok2 : CtOk ys) (q : Q (.bl (!decide (xs = ys))) H) : rOr r (rNeD K) (.ref a) (.ref b) H Q := by
  obtain ⟨d, l, p⟩ := tup_dp h1 (ct_items ok)
  obtain ⟨d2, l2, p2⟩ := tup_dp h2 (ct_items ok2)
  refine .inr ⟨_, _, d, d2, shaped_of l (by omega), shaped_of l2 (by omega), ?_⟩
  have e : PyData.eqv (.tuple (xs.map datX)) (.tuple (ys.map datX)) = decide (xs = ys) := by
    simp only [PyData.eqv]
    exact eqv_items (ct_items ok) (ct_items ok2)
  rw [e]; exact q
/-- so many of the first records lie there whole -/
structure LyC (S : SD) (L : LD) (n : Nat) : Prop where
  le : n ≤ L.kept.length
  all : ∀ i, i < n → ∀ w ∈ L.rp i, S.lies[w.1.toNat]? = some w.2
  no : n < L.kept.length → ∃ w ∈ L.rp n, S.lies[w.1.toNat]? ≠ some w.2
def lyB (S : SD) (w : Int × Ct) : Bool := !decide (S.lies[w.1.toNat]? = some w.2)
def sp_lying (K : PySem.W.Frag) (C : Addr) : Sp := fun vs H Q _ => ∃ p F S m G L, vs = [.ref p, .ref m] ∧ DS K C H p F S ∧ MS K H m G L ∧ (∀ r ∈ L.kept, r.1.length ≤ 6000) ∧ L.kept.length ≤ 10000 ∧ 0 < L.ring ∧ L.ring < S.lies.length ∧ (∀ i, i < L.kept.length → ∀ w ∈ L.rp i, CtOk w.2) ∧
  ∀ (n : Nat) H', LyC S L n → Same H H' → Q (.int n) H'
theorem ok_law_lying (T : Txt K mg) : FnOk P w K mg base CX0 5 T.law_lying.f T.law_lying.fd ["disk", "model"] ((sp_lying K T.C_Disk)) := by
  refine T.law_lying.F.ok sc_law_lying (fun vs H Q E h => ?_) (fun cdv A outer s H vs Q E hr h => ?_)
  · obtain ⟨p, F, S, m, G, L, rfl, _⟩ := h
    rfl
  · obtain ⟨p, F, S, m, G, L, rfl, hD, hM, hx, hn, hr0, hrl, hok, k⟩ := h
    refine ⟨_, (pss_cons (ps_set (i := 2) sc_law_lying.nd rfl (Or.inl rfl) pe_int)
    (pss_cons (ps_for PassesOwn.never rfl (pi_range1 (by rfl) T.z_range (pa_cons (pe_callB (cLen (K := K)) (by rfl) T.z_len PySem.boot_len (pa_cons (pe_dget (hu_of hr) (pv 1) pe_str (fun _ _ => rfl)) pa_nil)) pa_nil)) (pg_name (i := 3) sc_law_lying.nd rfl (Or.inl rfl))
      (pss_cons (ps_if (ptTruth (K := K) (pe_callB (cAny (K := K) rfl) (by rfl) T.z_any (by decide +kernel) (pa_cons (pe_lc (own := [("block", 4), ("content", 5)]) rfl sc_law_lying.nd (piL (K := K) (pe_call (ok_law_contents T) (hr.mono (by decide)) (by rfl) T.law_contents.g T.law_contents.F.kp T.law_contents.b .nil pass0 (pa_cons (pv 1) (pa_cons (pv 3) pa_nil)))) (blkOk_by (N := n_law_lying) (sc := defScope s_law_lying) (by decide +kernel)) (fun _ _ _ _ _ => (pgTup (K := K) (n := 2) (pg_tup (n := 2) rfl (pgs_cons (pg_name (i := 4) sc_law_lying.nd rfl (Or.inl rfl)) (pgs_cons (pg_name (i := 5) sc_law_lying.nd rfl (Or.inl rfl)) pgs_nil))))) (fun _ _ _ _ _ => pts_nil) (fun _ _ _ _ _ => (pe_cmpR (oNe (K := K) hr.units) (pe_meth (pv 0) T.k_Disk.cl T.m_Disk_lying.i (ok_Disk_lying T) (hr.mono (by decide)) T.m_Disk_lying.b .nil pass0 (pa_cons (pv 4) pa_nil)) (pv 5) (nomark _)))) pa_nil)) (by intro _; rfl)) (pss_one (ps_ret (pv 2))) pss_nil)
    (pss_one (ps_set (i := 2) sc_law_lying.nd rfl (Or.inl rfl) (pe_op oAdd (pv 2) pe_int)))))
    (pss_one (ps_ret (pv 2))))), ?_⟩
    have hM0 := hM
    have okS : S.Ok := by
      obtain ⟨D, _, _, v⟩ := hD
      exact v.ok
    obtain ⟨rl, ts, eG, hm, hr, hrows⟩ := hM
    obtain ⟨fs, hob, no⟩ := ins_of_ds hD
    walk_at "go"
    refine e_dget ?_
    walk_at "go"
    refine o_dget (k := Sum.inr "rows") hm mkv_rows ?_
    walk_at "go"
    rw [hrows.1]
    refine i_rng L.kept.length (by omega) (by omega) (by omega) ?_
    refine l_rng (fun i σ3 H3 => ∃ (y3 y4 y5 : Option V), σ3 = [some (.ref p), some (.ref m), some (.int (i : Nat)), y3, y4, y5] ∧ Same H H3 ∧ ∀ i', i' < i → ∀ w ∈ L.rp i', S.lies[w.1.toNat]? = some w.2) ⟨none, none, none, rfl, Same.refl _, fun i' h => absurd h (Nat.not_lt_zero _)⟩ (fun σ3 H3 z => ?_) (fun i σ3 H3 hi z => ?_)
    · obtain ⟨y3, y4, y5, rfl, s3, al⟩ := z
      walk_at "go"
      exact k _ H3 ⟨Nat.le_refl _, al, fun h => absurd h (Nat.lt_irrefl _)⟩ s3
    · obtain ⟨y3, y4, y5, rfl, s3, al⟩ := z
      walk_at "go"
      refine ⟨m, G, L, i, rfl, hM0.same s3, hi, hx, hn, hr0, fun D us H5 s5 n5 h5 p5 => ?_⟩
      have s05 := s3.trans s5
      refine i_lst (slO h5) ?_
      refine c_it (walk_list (xs := us.map V.ref)) (fun j acc H6 => Same H5 H6 ∧ acc = (((L.rp i).take j).map (lyB S)).map V.bl) (fun D2 hD2 => ⟨upd_free (Same.refl _) hD2, rfl⟩) (fun j acc H6 hj z => slO (z.1 _ _ h5)) (fun acc D2 H6 nD2 hD2 z => ?_) (fun j x acc H6 H7 D2 hj nD2 hD2 z y => ?_)
      · obtain ⟨s6, rfl⟩ := z
        rw [List.length_map, p5.1, List.take_length] at hD2
        refine ⟨D2, (L.rp i).map (lyB S), rfl, slO hD2, ?_⟩
        walk_at "go"
        cases eb : ((L.rp i).map (lyB S)).any id with
        | true =>
          walk_at "go"
          refine k i H6 ⟨by omega, al, fun _ => ?_⟩ (s05.trans s6)
          obtain ⟨b, hb1, hb2⟩ := List.any_eq_true.mp eb
          obtain ⟨ww, hw, e⟩ := List.mem_map.mp hb1
          refine ⟨ww, hw, fun z => ?_⟩
          rw [← e] at hb2
          unfold lyB at hb2
          rw [decide_eq_true z] at hb2
          cases hb2
        | false =>
          walk_at "go"
          refine ⟨_, _, _, rfl, s05.trans s6, fun i' hi' ww hw => ?_⟩
          by_cases e : i' = i
          · subst e
            have := List.any_eq_false.mp eb _ (List.mem_map.mpr ⟨ww, hw, rfl⟩)
            unfold lyB at this
            simpa using this
          · exact al i' (by omega) ww hw
      · obtain ⟨s6, rfl⟩ := z
        obtain ⟨rfl, ex⟩ := y
        have hj' : j < us.length := by simpa using hj
        have ex2 : x = .ref us[j] := by
          rw [List.getElem?_map, List.getElem?_eq_getElem hj'] at ex
          exact (Option.some.inj ex).symm
        subst ex2
        have hj2 : j < (L.rp i).length := by rw [← p5.1]; exact hj'
        obtain ⟨a, ht, ha⟩ := p5.2 j _ _ (List.getElem?_eq_getElem hj') (List.getElem?_eq_getElem hj2)
        have hwm := List.getElem_mem hj2
        have hrl2 := LD.rp_len (i := i) hx
        have hwr := LD.rp_mem hr0 hwm
        have hwo := hok i hi _ hwm
        have etk : (L.rp i).take (j + 1) = (L.rp i).take j ++ [(L.rp i)[j]] := by rw [List.take_add_one, List.getElem?_eq_getElem hj2]; rfl
        rw [etk]
        have ltk : ((L.rp i).take j).length = j := by rw [List.length_take]; omega
        generalize (L.rp i)[j] = wv at *
        refine g_pairS (st_ s6 ht) ⟨rfl, ?_⟩
        have s06 := s05.trans s6
        walk_at "go"
        refine m_call0 (ins_same s06 hob) (no _ (by decide +kernel)) ?_
        walk_at "go"
        have hl : wv.1.toNat < S.lies.length := by omega
        refine w_lying (hD.same s06) (by omega) (List.getElem?_eq_getElem hl) fun c hc => ?_
        walk_at "go"
        refine o_neE hc (st_ s6 ha) (okS.cl _ (List.getElem_mem hl)) hwo ?_
        have eb : (!decide (S.lies[wv.1.toNat] = wv.2)) = lyB S wv := by
          unfold lyB
          rw [List.getElem?_eq_getElem hl]
          by_cases e : S.lies[wv.1.toNat] = wv.2
          · rw [decide_eq_true e, decide_eq_true (by rw [e])]
          · rw [decide_eq_false e, decide_eq_false (fun z => e (Option.some.inj z))]
        rw [eb]
        refine ⟨_, hD2, lt_size (by rw [List.length_map, List.length_map, ltk]; omega), _, upd_same, upd_free s6 nD2, ?_⟩
        rw [List.map_append, List.map_append]; rfl
end
end Vw

set_option Elab.async false
set_option linter.all false
set_option maxRecDepth 100000
set_option maxHeartbeats 4000000
namespace Vw
open PySem PySem.Spec PyProof.Rows L2 RT
local macro_rules | `(tactic| walk_at "s") => `(tactic| with_reducible first
  | refine' s_seq ?_ | refine' s_next ?_ | refine' s_set ?_ | refine' s_ret ?_ | refine' s_retN ?_ | refine' s_drop ?_ | refine' s_if ?_ | refine' s_ipI ?_
  | refine' e_c ?_ | refine' e_op ?_ | refine' e_un ?_ | refine' e_neg ?_ | refine' e_test ?_ | refine' e_tB ?_ | refine' e_bl ?_ | refine' e_and ?_ | refine' e_or ?_ | refine' e_not ?_
  | refine' e_andV ?_ | refine' e_orV ?_ | refine' e_notV ?_ | refine' e_kV ?_ | refine' e_ife ?_ | refine' e_nil ?_ | refine' e_cons ?_ | refine' e_cb ?_ | refine' e_call ?_ | refine' e_chain ?_
  | refine' o_addI ?_ | refine' o_eqI ?_ | refine' o_neI ?_ | refine' o_I0 ?_ | refine' o_pow16 ?_ | refine' o_pow17 ?_ | refine' o_pow18 ?_ | refine' o_pow19 ?_ | refine' o_pow30 ?_ | refine' o_pow31 ?_ | refine' o_pow1 ?_ | refine' o_pow2 ?_ | refine' o_pow3 ?_ | refine' o_pow4 ?_ | refine' o_pow5 ?_ | refine' o_pow6 ?_ | refine' o_pow9 ?_ | refine' o_pow10 ?_ | refine' o_pow12 ?_ | refine' o_pow15 ?_ | refine' o_pow20 ?_ | refine' e_lst ?_ | refine' e_tup ?_ | refine' iteT ?_ | refine' i_nt ?_ | refine' i_nf ?_ | refine' iteF ?_ | refine' c_int ?_ | refine' c_abs ?_ | refine' c_min2 ?_ | refine' c_max2 ?_ | refine' e_tru ?_ | refine' t_bl ?_ | refine' t_non ?_ | refine' t_int ?_ | refine' isN_non ?_ | refine' isN_int ?_ | refine' isN_ref ?_ | refine' isN_str ?_ | refine' isN_bl ?_ | refine' noN_non ?_ | refine' noN_int ?_ | refine' noN_ref ?_ | refine' noN_str ?_ | refine' noN_bl ?_
  | refine' s_brk ?_ | refine' s_cont ?_ | refine' s_for ?_ | refine' e_lc ?_ | refine' e_dc ?_ | refine' e_yes ?_ | refine' i_rng1 ?_ | refine' i_lst0 ?_ | refine' i_tup0 ?_ | refine' e_bm ?_ | refine' e_sl ?_ | refine' e_np ?_ | refine' e_pt ?_ | refine' e_ptI ?_ | refine' e_din ?_ | refine' e_dnin ?_ | refine' e_methE ?_ | refine' p_cons ?_ | refine' p_nil ?_ | refine' s_dput ?_ | refine' e_dget2 ?_ | refine' e_dpop1 ?_ | refine' i_enum0 ?_ | refine' i_rev0 ?_ | refine' g_sub ?_ | refine' s_asg ?_ | refine' i_zip0 ?_ | refine' e_revT ?_ | refine' isB_bl ?_ | refine' notB_bl ?_ | refine' o_neB ?_ | refine' i_nrr ?_ | refine' e_meth ?_ | refine' s_setf ?_ | refine' e_fld ?_ | refine' e_bm0 ?_ | refine' r_tx ?_ | refine' o_eqStr ?_ | refine' o_neStr ?_)
local macro_rules | `(tactic| walk_at "v") => `(tactic| ((with_reducible refine' e_var ?hv ?_); (case hv => exact rfl)))
local macro_rules | `(tactic| walk_at "a") => `(tactic| ((with_reducible refine' s_aug ?hv ?_); (case hv => exact rfl)))
local macro_rules | `(tactic| walk_at "m") => `(tactic| first
  | ((with_reducible refine' o_mod ?hv ?_); (case hv => first | decide | omega))
  | ((with_reducible refine' o_mulR ?hv ?_); (case hv => omega))
  | ((with_reducible refine' o_mulL ?hv ?_); (case hv => omega))
  | ((with_reducible refine' o_div ?hv ?hw ?_); (case hv => omega); (case hw => omega))
  | ((with_reducible refine' o_pow _ ?hv ?hw ?hx ?_); (case hv => exact rfl); (case hw => decide); (case hx => decide)))
local macro_rules | `(tactic| walk_at "i") => `(tactic| (first
  | ((with_reducible refine' isi_int true ?hv ?_); (case hv => exact (by decide +kernel)))
  | ((with_reducible refine' isi_int false ?hv ?_); (case hv => exact (by decide +kernel)))
  | ((with_reducible refine' isi_non true ?hv ?_); (case hv => exact (by decide +kernel)))
  | ((with_reducible refine' isi_non false ?hv ?_); (case hv => exact (by decide +kernel)))
  | ((with_reducible refine' isi_str true ?hv ?_); (case hv => exact (by decide +kernel)))
  | ((with_reducible refine' isi_str false ?hv ?_); (case hv => exact (by decide +kernel)))
  | ((with_reducible refine' isi_bl true ?hv ?_); (case hv => exact (by decide +kernel)))
  | ((with_reducible refine' isi_bl false ?hv ?_); (case hv => exact (by decide +kernel)))
  | ((with_reducible refine' isi_t true ?hw ?hv ?_); (case hw => assumption); (case hv => exact (by decide +kernel)))
  | ((with_reducible refine' isi_t false ?hw ?hv ?_); (case hw => assumption); (case hv => exact (by decide +kernel)))
  | ((with_reducible refine' isi_l true ?hw ?hv ?_); (case hw => assumption); (case hv => exact (by decide +kernel)))
  | ((with_reducible refine' isi_l false ?hw ?hv ?_); (case hw => assumption); (case hv => exact (by decide +kernel)))
  | ((with_reducible refine' isi_tup true ?hw ?hv ?_); (case hw => assumption); (case hv => exact (by decide +kernel)))
  | ((with_reducible refine' isi_tup false ?hw ?hv ?_); (case hw => assumption); (case hv => exact (by decide +kernel)))
  | ((with_reducible refine' isi_lst true ?hw ?hv ?_); (case hw => assumption); (case hv => exact (by decide +kernel)))
  | ((with_reducible refine' isi_lst false ?hw ?hv ?_); (case hw => assumption); (case hv => exact (by decide +kernel)))))
local macro_rules | `(tactic| walk_at "om") => `(tactic| first | omega | (simp only [List.length_cons, List.length_nil, List.length_map, List.length_append, List.length_range]; omega))
local macro_rules | `(tactic| walk_at "d") => `(tactic| (first
  | ((with_reducible refine' i_dt ?hv ?_); (case hv => walk_at "om"))
  | ((with_reducible refine' i_df ?hv ?_); (case hv => walk_at "om"))
  | ((with_reducible refine' i_ndt ?hv ?_); (case hv => walk_at "om"))
  | ((with_reducible refine' i_ndf ?hv ?_); (case hv => walk_at "om"))))
local macro_rules | `(tactic| walk_at "x") => `(tactic| first
  | ((with_reducible refine' o_ixA ?hv ?hw ?_); (case hv => assumption); (case hw => exact rfl))
  | ((with_reducible refine' o_ixU ?hv ?hw ?_); (case hv => assumption); (case hw => exact rfl))
  | ((with_reducible refine' o_ixL ?hv ?hw ?_); (case hv => assumption); (case hw => exact rfl))
  | ((with_reducible refine' o_ixT ?hv ?hw ?_); (case hv => assumption); (case hw => exact rfl))
  | ((with_reducible refine' set_ ?hv ?hw ?_); (case hv => assumption); (case hw => exact rfl))
  | ((with_reducible refine' e_lenM ?hv ?_); (case hv => first | assumption | exact slO (by assumption)))
  | ((with_reducible refine' e_lenN ?hv ?_); (case hv => first | assumption | exact stO (by assumption)))
  | ((with_reducible refine' e_lenL ?hv ?_); (case hv => first | assumption | exact slO (by assumption)))
  | ((with_reducible refine' e_lenT ?hv ?_); (case hv => first | assumption | exact stO (by assumption))))
local macro_rules | `(tactic| walk_at "c") => `(tactic| first
  | ((with_reducible refine' c_listL ?hv ?_); (case hv => assumption))
  | ((with_reducible refine' c_listT ?hv ?_); (case hv => assumption))
  | ((with_reducible refine' c_tupL ?hv ?_); (case hv => first | assumption | exact slO (by assumption)))
  | ((with_reducible refine' c_tupT ?hv ?_); (case hv => assumption))
  | ((with_reducible refine' t_lst ?hv ?_); (case hv => first | assumption | exact slO (by assumption)))
  | ((with_reducible refine' t_tup ?hv ?_); (case hv => assumption))
  | ((with_reducible refine' r_sl ?hv ?_); (case hv => first | assumption | exact slO (by assumption)))
  | ((with_reducible refine' o_inL ?hv ?_); (case hv => first | assumption | exact slO (by assumption)))
  | ((with_reducible refine' o_inT ?hv ?_); (case hv => first | assumption | exact stO (by assumption)))
  | ((with_reducible refine' o_niL ?hv ?_); (case hv => first | assumption | exact slO (by assumption)))
  | ((with_reducible refine' o_niT ?hv ?_); (case hv => first | assumption | exact stO (by assumption)))
  | ((with_reducible refine' ty_lst ?hv ?_); (case hv => assumption)))
local macro_rules | `(tactic| walk_at "mo") => `(tactic| repeat' (first | exact m_yes | exact m_var | exact m_c | exact m_I0 | exact m_I | exact m_ix | exact m_add | exact m_in | exact m_int1 | exact m_abs | exact m_nil | refine' m_and ?_ ?_ | refine' m_test ?_ | refine' m_tB ?_ | refine' m_op ?_ ?_ ?_ | refine' m_cons ?_ ?_ | refine' m_cb ?_ ?_))
local macro_rules | `(tactic| walk_at "go") => `(tactic| repeat' (first | walk_at "s" | walk_at "v" | walk_at "a" | walk_at "x" | walk_at "m" | walk_at "c" | walk_at "i" | walk_at "d"))

section
variable {P : Program} {w : World} {K : PySem.W.Frag} {mg : Str → Option Value} {base : Heap}
/-! ### the mathematics of a log whose start stays -/
def pcF (k e no : Nat) (xs : List V) (j : Nat) : Pc := ⟨k + j, e, no, cutN xs - 1 - j, cutAt xs j⟩
def pcsR (k e no : Nat) (xs : List V) : List Pc := (List.range' 0 (cutN xs)).map (pcF k e no xs)
def pcsL : Nat → List Kp → List Pc
  | _, [] => []
  | no, r :: rs => pcsR r.2.1 r.2.2 no r.1 ++ pcsL (no + 1) rs
/-- records one behind the other, from block k on to z, epochs from e on, none above E -/
def Chn (E : Nat) : Nat → Nat → List Kp → Nat → Prop
  | k, _, [], z => k = z
  | k, e, r :: rs, z => r.2.1 = k ∧ e ≤ r.2.2 ∧ r.2.2 ≤ E ∧ RecOk r.1 ∧ Chn E (k + cutN r.1) r.2.2 rs z
theorem cutN_pos {xs : List V} (h : RecOk xs) : 0 < cutN xs := by have := h.l0; unfold cutN; omega
theorem pcsR_len {k e no : Nat} {xs : List V} : (pcsR k e no xs).length = cutN xs := by unfold pcsR; rw [List.length_map, List.length_range']
theorem Chn.len {E : Nat} : ∀ {ks : List Kp} {k e no z : Nat}, Chn E k e ks z → z = k + (pcsL no ks).length
  | [], k, e, no, z, h => by
    have h : k = z := h
    rw [h]; rfl
  | r :: rs, k, e, no, z, ⟨_, _, _, _, h⟩ => by
    have := h.len (no := no + 1)
    show z = k + (pcsR _ _ _ _ ++ _).length
    rw [List.length_append, pcsR_len]; omega
theorem Chn.many {E : Nat} : ∀ {ks : List Kp} {k e z : Nat}, Chn E k e ks z → k + ks.length ≤ z
  | [], k, e, z, h => by
    have h : k = z := h
    rw [h]; exact Nat.le_refl _
  | r :: rs, k, e, z, ⟨_, _, _, h4, h⟩ => by
    have := h.many
    have := cutN_pos h4
    rw [List.length_cons]; omega
theorem Chn.up {E F : Nat} (hF : E ≤ F) : ∀ {ks : List Kp} {k e z : Nat}, Chn E k e ks z → Chn F k e ks z
  | [], _, _, _, h => h
  | r :: rs, k, e, z, ⟨h1, h2, h3, h4, h⟩ => ⟨h1, h2, Nat.le_trans h3 hF, h4, h.up hF⟩
theorem Chn.snoc {E : Nat} {xs : List V} (ok : RecOk xs) : ∀ {ks : List Kp} {k e z : Nat}, e ≤ E → Chn E k e ks z → Chn E k e (ks ++ [(xs, z, E)]) (z + cutN xs)
  | [], k, e, z, he, h => by
    have h : k = z := h
    subst h
    exact ⟨rfl, he, Nat.le_refl _, ok, rfl⟩
  | r :: rs, k, e, z, he, ⟨h1, h2, h3, h4, h⟩ => ⟨h1, h2, h3, h4, h.snoc ok h3⟩
theorem Chn.all {E : Nat} : ∀ {ks : List Kp} {k e z : Nat}, Chn E k e ks z → ∀ r ∈ ks, RecOk r.1 ∧ r.2.2 ≤ E
  | [], _, _, _, _, r, hr => by cases hr
  | r :: rs, k, e, z, ⟨h1, h2, h3, h4, h⟩, q, hq => by
    rcases List.mem_cons.mp hq with y | y
    · rw [y]; exact ⟨h4, h3⟩
    · exact h.all q y
theorem Chn.last {E : Nat} : ∀ {ks : List Kp} {k e z : Nat}, Chn E k e ks z → (match ks.getLast? with | none => k | some r => r.2.1 + cutN r.1) = z
  | [], _, _, _, h => h
  | [r], k, e, z, ⟨h1, _, _, _, h⟩ => by
    have h : k + cutN r.1 = z := h
    show r.2.1 + cutN r.1 = z
    rw [h1]; exact h
  | r :: s :: rs, k, e, z, ⟨h1, _, _, _, h⟩ => by
    have := Chn.last h
    rw [List.getLast?_cons_cons]
    rw [List.getLast?_cons] at this ⊢
    exact this
/-- where the i-th record begins -/
def fkL (ks : List Kp) (z i : Nat) : Nat := match ks[i]? with
  | some r => r.2.1
  | none => z
theorem fkL_fk {L : LD} {i : Nat} : L.fk i = fkL L.kept L.nk i := rfl
theorem Chn.fk0 {E : Nat} {ks : List Kp} {k e z : Nat} (h : Chn E k e ks z) : fkL ks z 0 = k := by
  cases ks with
  | nil => exact h.symm
  | cons r rs => exact h.1
theorem Chn.step {E : Nat} : ∀ {ks : List Kp} {k e z i : Nat} {r : Kp}, Chn E k e ks z → ks[i]? = some r → fkL ks z (i + 1) = r.2.1 + cutN r.1
  | [], k, e, z, i, r, _, hi => by cases hi
  | q :: rs, k, e, z, 0, r, ⟨h1, _, _, _, h⟩, hi => by
    cases hi
    have := h.fk0
    show fkL rs z 0 = _
    rw [this, h1]
  | q :: rs, k, e, z, i + 1, r, ⟨_, _, _, _, h⟩, hi => h.step (i := i) hi
theorem Chn.mono {E : Nat} {ks : List Kp} {k e z : Nat} (h : Chn E k e ks z) : ∀ {j i : Nat}, i ≤ j → j ≤ ks.length → fkL ks z i ≤ fkL ks z j
  | 0, i, hij, _ => by rw [show i = 0 by omega]; exact Nat.le_refl _
  | j + 1, i, hij, hj => by
    by_cases e : i = j + 1
    · rw [e]; exact Nat.le_refl _
    · refine Nat.le_trans (h.mono (j := j) (by omega) (by omega)) ?_
      have hl : j < ks.length := by omega
      have hg := List.getElem?_eq_getElem hl
      rw [h.step hg]
      have : fkL ks z j = (ks[j]).2.1 := by unfold fkL; rw [hg]
      omega
theorem fkL_end {ks : List Kp} {z : Nat} : fkL ks z ks.length = z := by unfold fkL; rw [List.getElem?_eq_none (Nat.le_refl _)]
theorem fkL_at {ks : List Kp} {z i : Nat} {r : Kp} (h : ks[i]? = some r) : fkL ks z i = r.2.1 := by unfold fkL; rw [h]
theorem Chn.get {E : Nat} : ∀ {ks : List Kp} {k e no z i j n : Nat} {r : Kp}, Chn E k e ks z → ks[i]? = some r → j < cutN r.1 → r.2.1 + j = k + n → (pcsL no ks)[n]? = some (pcF r.2.1 r.2.2 (no + i) r.1 j)
  | [], k, e, no, z, i, j, n, r, _, hi, _, _ => by cases hi
  | q :: rs, k, e, no, z, 0, j, n, r, ⟨h1, _, _, _, h⟩, hi, hj, hn => by
    cases hi
    have : n = j := by omega
    subst this
    show (pcsR _ _ _ _ ++ _)[n]? = _
    rw [List.getElem?_append_left (by rw [pcsR_len]; exact hj)]
    unfold pcsR
    rw [List.getElem?_map, List.getElem?_range' hj]
    simp
  | q :: rs, k, e, no, z, i + 1, j, n, r, ⟨h1, _, _, h4, h⟩, hi, hj, hn => by
    have hi : rs[i]? = some r := hi
    have hm := h.mono (i := 0) (j := i) (Nat.zero_le _) (Nat.le_of_lt (List.getElem?_eq_some_iff.mp hi).1)
    rw [h.fk0, fkL_at hi] at hm
    have g := h.get (no := no + 1) (n := n - cutN q.1) hi hj (by omega)
    show (pcsR _ _ _ _ ++ _)[n]? = _
    rw [List.getElem?_append_right (by rw [pcsR_len]; omega), pcsR_len, g, show no + 1 + i = no + (i + 1) by omega]
/-! what counts -/
def firstB (M : Mst) (q : Option Pc) (p : Pc) : Bool := match q with
  | some q => goesB q p
  | none => beginsB M p
def Good (M : Mst) (lt : Nat) : Option Pc → Nat → List Pc → Prop
  | _, _, [] => True
  | q, k, p :: ps => p.k = k ∧ p.e ≤ lt ∧ firstB M q p = true ∧ Good M lt (some p) (k + 1) ps
theorem count_good {M : Mst} {lt : Nat} {g : Nat → Option Pc} : ∀ (ps : List Pc) (n k : Nat) (acc : List Pc), Good M lt acc.getLast? k ps → (∀ j p, ps[j]? = some p → g (k + j) = some p) → ps.length ≤ n → (ps.length < n → g (k + ps.length) = none) → countG M lt g n acc k = acc ++ ps
  | [], 0, k, acc, _, _, _, _ => by rw [List.append_nil]; rfl
  | [], n + 1, k, acc, _, _, _, he => by
    have := he (Nat.succ_pos n)
    rw [countG_none (show g k = none from this), List.append_nil]
  | p :: ps, 0, k, acc, _, _, hl, _ => absurd hl (by rw [List.length_cons]; omega)
  | p :: ps, n + 1, k, acc, ⟨g1, g2, g3, g4⟩, hp, hl, he => by
    rw [List.length_cons] at hl he
    rw [countG_some (show g k = some p from hp 0 p rfl)]
    have es : stepB M lt acc k p = true := by
      unfold stepB
      rw [decide_eq_true g1, decide_eq_true g2]
      exact g3
    rw [if_pos es, count_good ps n (k + 1) (acc ++ [p]) (by rw [List.getLast?_concat]; exact g4) (fun j q e => ?_) (by omega) (fun z => ?_)]
    · rw [List.append_assoc]; rfl
    · rw [show k + 1 + j = k + (j + 1) by omega]; exact hp (j + 1) q e
    · rw [show k + 1 + ps.length = k + (ps.length + 1) by omega]; exact he (by omega)
theorem good_rec {M : Mst} {lt k e no : Nat} {xs : List V} {rest : List Pc} (he : e ≤ lt) (hn : 0 < cutN xs) (hr : Good M lt (some (pcF k e no xs (cutN xs - 1))) (k + cutN xs) rest) : ∀ (m s : Nat) (q : Option Pc), s + m = cutN xs → (s = 0 → firstB M q (pcF k e no xs 0) = true) → (0 < s → q = some (pcF k e no xs (s - 1))) → Good M lt q (k + s) ((List.range' s m).map (pcF k e no xs) ++ rest)
  | 0, s, q, h, _, h2 => by
    have : s = cutN xs := by omega
    subst this
    rw [h2 hn]
    exact hr
  | m + 1, s, q, h, h1, h2 => by
    rw [List.range'_succ, List.map_cons, List.cons_append]
    refine ⟨rfl, he, ?_, good_rec he hn hr m (s + 1) _ (by omega) (fun z => by omega) (fun _ => rfl)⟩
    by_cases hs : s = 0
    · subst hs; exact h1 rfl
    · rw [h2 (by omega)]
      show goesB (pcF k e no xs (s - 1)) (pcF k e no xs s) = true
      have e1 : (pcF k e no xs (s - 1)).l = cutN xs - 1 - (s - 1) := rfl
      have e2 : (pcF k e no xs s).l = cutN xs - 1 - s := rfl
      unfold goesB
      rw [if_neg (by rw [e1]; omega), e1, e2, decide_eq_true (show (pcF k e no xs s).r = (pcF k e no xs (s - 1)).r from rfl), decide_eq_true (show (pcF k e no xs s).e = (pcF k e no xs (s - 1)).e from rfl), decide_eq_true (show cutN xs - 1 - s + 1 = cutN xs - 1 - (s - 1) by omega)]; rfl
def Fst (M : Mst) (no e : Nat) : Option Pc → Prop
  | none => no = M.m ∧ M.f ≤ e
  | some p => p.l = 0 ∧ no = p.r + 1 ∧ p.e ≤ e
theorem Chn.good {M : Mst} {lt E : Nat} (hE : E ≤ lt) : ∀ {ks : List Kp} {k e no z : Nat} {q : Option Pc}, Chn E k e ks z → Fst M no e q → Good M lt q k (pcsL no ks)
  | [], k, e, no, z, q, _, _ => trivial
  | r :: rs, k, e, no, z, q, ⟨h1, h2, h3, h4, h⟩, hf => by
    subst h1
    refine good_rec (Nat.le_trans h3 hE) (cutN_pos h4) (h.good hE (q := some (pcF r.2.1 r.2.2 no r.1 (cutN r.1 - 1))) ⟨?_, rfl, Nat.le_refl _⟩) (cutN r.1) 0 q (by omega) (fun _ => ?_) (by omega)
    · show cutN r.1 - 1 - (cutN r.1 - 1) = 0
      omega
    · cases q with
      | none =>
        show (decide (no = M.m) && decide (M.f ≤ r.2.2)) = true
        rw [decide_eq_true hf.1, decide_eq_true (Nat.le_trans hf.2 h2)]; rfl
      | some p =>
        show goesB p (pcF r.2.1 r.2.2 no r.1 0) = true
        unfold goesB
        rw [if_pos hf.1, decide_eq_true (show (pcF r.2.1 r.2.2 no r.1 0).r = p.r + 1 from hf.2.1), decide_eq_true (show p.e ≤ (pcF r.2.1 r.2.2 no r.1 0).e from Nat.le_trans hf.2.2 h2)]; rfl
/-! what is read -/
def recsL : Nat → List Kp → List Rc
  | _, [] => []
  | no, r :: rs => (no, r.1, r.2.2) :: recsL (no + 1) rs
theorem read_rec {k e no : Nat} {xs : List V} : ∀ (m s : Nat) (rs : List Rc), s + m = cutN xs → 0 < m → ((List.range' s m).map (pcF k e no xs)).foldl rdStep (xs.take (36 * s), rs) = ([], rs ++ [(no, xs, e)])
  | 0, s, rs, _, h => absurd h (by omega)
  | m + 1, s, rs, h, _ => by
    rw [List.range'_succ, List.map_cons, List.foldl_cons]
    have ej : xs.take (36 * s) ++ (pcF k e no xs s).xs = xs.take (36 * (s + 1)) := by
      show xs.take (36 * s) ++ (xs.drop (36 * s)).take 36 = _
      rw [← List.take_add]; rfl
    have el : (pcF k e no xs s).l = cutN xs - 1 - s := rfl
    cases m with
    | zero =>
      have e1 : rdStep (xs.take (36 * s), rs) (pcF k e no xs s) = ([], rs ++ [(no, xs, e)]) := by
        unfold rdStep
        rw [if_pos (by rw [el]; omega)]
        show (([] : List V), rs ++ [(no, xs.take (36 * s) ++ (pcF k e no xs s).xs, e)]) = _
        rw [ej, List.take_of_length_le (by unfold cutN at h; omega)]
      rw [e1]; rfl
    | succ m =>
      have e1 : rdStep (xs.take (36 * s), rs) (pcF k e no xs s) = (xs.take (36 * (s + 1)), rs) := by
        unfold rdStep
        rw [if_neg (by rw [el]; omega)]
        show (xs.take (36 * s) ++ (pcF k e no xs s).xs, rs) = _
        rw [ej]
      rw [e1]
      exact read_rec (m + 1) (s + 1) rs (by omega) (by omega)
theorem Chn.read {E : Nat} : ∀ {ks : List Kp} {k e no z : Nat} {rs : List Rc}, Chn E k e ks z → (pcsL no ks).foldl rdStep ([], rs) = ([], rs ++ recsL no ks)
  | [], k, e, no, z, rs, _ => by
    show (([] : List V), rs) = ([], rs ++ [])
    rw [List.append_nil]
  | r :: ks, k, e, no, z, rs, ⟨h1, h2, h3, h4, h⟩ => by
    show List.foldl rdStep ([], rs) (pcsR _ _ _ _ ++ _) = _
    rw [List.foldl_append]
    have := read_rec (k := r.2.1) (e := r.2.2) (no := no) (xs := r.1) (cutN r.1) 0 rs (by omega) (cutN_pos h4)
    rw [show r.1.take (36 * 0) = [] from rfl] at this
    unfold pcsR
    rw [this, h.read, List.append_assoc]; rfl
theorem Chn.mores {E : Nat} : ∀ {ks : List Kp} {L : LD} {e no z : Nat}, Chn E L.nk e ks z → L.mores (recsL no ks) = { L with nk := z, kept := L.kept ++ ks }
  | [], L, e, no, z, h => by
    have h : L.nk = z := h
    subst h
    show L = _
    rw [List.append_nil]
  | r :: ks, L, e, no, z, ⟨h1, h2, h3, h4, h⟩ => by
    show (L.more r.1 r.2.2).mores (recsL (no + 1) ks) = _
    have := Chn.mores (L := L.more r.1 r.2.2) (no := no + 1) h
    rw [this]
    show ({ L with nk := z, kept := (L.kept ++ [(r.1, L.nk, r.2.2)]) ++ ks } : LD) = _
    rw [List.append_assoc, ← h1]; rfl
end
end Vw

set_option Elab.async false
set_option linter.all false
set_option maxRecDepth 100000
set_option maxHeartbeats 4000000
namespace Vw
open PySem PySem.Spec PyProof.Rows L2 RT
local macro_rules | `(tactic| walk_at "s") => `(tactic| with_reducible first
  | refine' s_seq ?_ | refine' s_next ?_ | refine' s_set ?_ | refine' s_ret ?_ | refine' s_retN ?_ | refine' s_drop ?_ | refine' s_if ?_ | refine' s_ipI ?_
  | refine' e_c ?_ | refine' e_op ?_ | refine' e_un ?_ | refine' e_neg ?_ | refine' e_test ?_ | refine' e_tB ?_ | refine' e_bl ?_ | refine' e_and ?_ | refine' e_or ?_ | refine' e_not ?_
  | refine' e_andV ?_ | refine' e_orV ?_ | refine' e_notV ?_ | refine' e_kV ?_ | refine' e_ife ?_ | refine' e_nil ?_ | refine' e_cons ?_ | refine' e_cb ?_ | refine' e_call ?_ | refine' e_chain ?_
  | refine' o_addI ?_ | refine' o_eqI ?_ | refine' o_neI ?_ | refine' o_I0 ?_ | refine' o_pow16 ?_ | refine' o_pow17 ?_ | refine' o_pow18 ?_ | refine' o_pow19 ?_ | refine' o_pow30 ?_ | refine' o_pow31 ?_ | refine' o_pow1 ?_ | refine' o_pow2 ?_ | refine' o_pow3 ?_ | refine' o_pow4 ?_ | refine' o_pow5 ?_ | refine' o_pow6 ?_ | refine' o_pow9 ?_ | refine' o_pow10 ?_ | refine' o_pow12 ?_ | refine' o_pow15 ?_ | refine' o_pow20 ?_ | refine' e_lst ?_ | refine' e_tup ?_ | refine' iteT ?_ | refine' i_nt ?_ | refine' i_nf ?_ | refine' iteF ?_ | refine' c_int ?_ | refine' c_abs ?_ | refine' c_min2 ?_ | refine' c_max2 ?_ | refine' e_tru ?_ | refine' t_bl ?_ | refine' t_non ?_ | refine' t_int ?_ | refine' isN_non ?_ | refine' isN_int ?_ | refine' isN_ref ?_ | refine' isN_str ?_ | refine' isN_bl ?_ | refine' noN_non ?_ | refine' noN_int ?_ | refine' noN_ref ?_ | refine' noN_str ?_ | refine' noN_bl ?_
  | refine' s_brk ?_ | refine' s_cont ?_ | refine' s_for ?_ | refine' e_lc ?_ | refine' e_dc ?_ | refine' e_yes ?_ | refine' i_rng1 ?_ | refine' i_lst0 ?_ | refine' i_tup0 ?_ | refine' e_bm ?_ | refine' e_sl ?_ | refine' e_np ?_ | refine' e_pt ?_ | refine' e_ptI ?_ | refine' e_din ?_ | refine' e_dnin ?_ | refine' e_methE ?_ | refine' p_cons ?_ | refine' p_nil ?_ | refine' s_dput ?_ | refine' e_dget2 ?_ | refine' e_dpop1 ?_ | refine' i_enum0 ?_ | refine' i_rev0 ?_ | refine' g_sub ?_ | refine' s_asg ?_ | refine' i_zip0 ?_ | refine' e_revT ?_ | refine' isB_bl ?_ | refine' notB_bl ?_ | refine' o_neB ?_ | refine' i_nrr ?_ | refine' e_meth ?_ | refine' s_setf ?_ | refine' e_fld ?_ | refine' e_bm0 ?_ | refine' r_tx ?_ | refine' o_eqStr ?_ | refine' o_neStr ?_)
local macro_rules | `(tactic| walk_at "v") => `(tactic| ((with_reducible refine' e_var ?hv ?_); (case hv => exact rfl)))
local macro_rules | `(tactic| walk_at "a") => `(tactic| ((with_reducible refine' s_aug ?hv ?_); (case hv => exact rfl)))
local macro_rules | `(tactic| walk_at "m") => `(tactic| first
  | ((with_reducible refine' o_mod ?hv ?_); (case hv => first | decide | omega))
  | ((with_reducible refine' o_mulR ?hv ?_); (case hv => omega))
  | ((with_reducible refine' o_mulL ?hv ?_); (case hv => omega))
  | ((with_reducible refine' o_div ?hv ?hw ?_); (case hv => omega); (case hw => omega))
  | ((with_reducible refine' o_pow _ ?hv ?hw ?hx ?_); (case hv => exact rfl); (case hw => decide); (case hx => decide)))
local macro_rules | `(tactic| walk_at "i") => `(tactic| (first
  | ((with_reducible refine' isi_int true ?hv ?_); (case hv => exact (by decide +kernel)))
  | ((with_reducible refine' isi_int false ?hv ?_); (case hv => exact (by decide +kernel)))
  | ((with_reducible refine' isi_non true ?hv ?_); (case hv => exact (by decide +kernel)))
  | ((with_reducible refine' isi_non false ?hv ?_); (case hv => exact (by decide +kernel)))
  | ((with_reducible refine' isi_str true ?hv ?_); (case hv => exact (by decide +kernel)))
  | ((with_reducible refine' isi_str false ?hv ?_); (case hv => exact (by decide +kernel)))
  | ((with_reducible refine' isi_bl true ?hv ?_); (case hv => exact (by decide +kernel)))
  | ((with_reducible refine' isi_bl false ?hv ?_); (case hv => exact (by decide +kernel)))
  | ((with_reducible refine' isi_t true ?hw ?hv ?_); (case hw => assumption); (case hv => exact (by decide +kernel)))
  | ((with_reducible refine' isi_t false ?hw ?hv ?_); (case hw => assumption); (case hv => exact (by decide +kernel)))
  | ((with_reducible refine' isi_l true ?hw ?hv ?_); (case hw => assumption); (case hv => exact (by decide +kernel)))
  | ((with_reducible refine' isi_l false ?hw ?hv ?_); (case hw => assumption); (case hv => exact (by decide +kernel)))
  | ((with_reducible refine' isi_tup true ?hw ?hv ?_); (case hw => assumption); (case hv => exact (by decide +kernel)))
  | ((with_reducible refine' isi_tup false ?hw ?hv ?_); (case hw => assumption); (case hv => exact (by decide +kernel)))
  | ((with_reducible refine' isi_lst true ?hw ?hv ?_); (case hw => assumption); (case hv => exact (by decide +kernel)))
  | ((with_reducible refine' isi_lst false ?hw ?hv ?_); (case hw => assumption); (case hv => exact (by decide +kernel)))))
local macro_rules | `(tactic| walk_at "om") => `(tactic| first | omega | (simp only [List.length_cons, List.length_nil, List.length_map, List.length_append, List.length_range]; omega))
local macro_rules | `(tactic| walk_at "d") => `(tactic| (first
  | ((with_reducible refine' i_dt ?hv ?_); (case hv => walk_at "om"))
  | ((with_reducible refine' i_df ?hv ?_); (case hv => walk_at "om"))
  | ((with_reducible refine' i_ndt ?hv ?_); (case hv => walk_at "om"))
  | ((with_reducible refine' i_ndf ?hv ?_); (case hv => walk_at "om"))))
local macro_rules | `(tactic| walk_at "x") => `(tactic| first
  | ((with_reducible refine' o_ixA ?hv ?hw ?_); (case hv => assumption); (case hw => exact rfl))
  | ((with_reducible refine' o_ixU ?hv ?hw ?_); (case hv => assumption); (case hw => exact rfl))
  | ((with_reducible refine' o_ixL ?hv ?hw ?_); (case hv => assumption); (case hw => exact rfl))
  | ((with_reducible refine' o_ixT ?hv ?hw ?_); (case hv => assumption); (case hw => exact rfl))
  | ((with_reducible refine' set_ ?hv ?hw ?_); (case hv => assumption); (case hw => exact rfl))
  | ((with_reducible refine' e_lenM ?hv ?_); (case hv => first | assumption | exact slO (by assumption)))
  | ((with_reducible refine' e_lenN ?hv ?_); (case hv => first | assumption | exact stO (by assumption)))
  | ((with_reducible refine' e_lenL ?hv ?_); (case hv => first | assumption | exact slO (by assumption)))
  | ((with_reducible refine' e_lenT ?hv ?_); (case hv => first | assumption | exact stO (by assumption))))
local macro_rules | `(tactic| walk_at "c") => `(tactic| first
  | ((with_reducible refine' c_listL ?hv ?_); (case hv => assumption))
  | ((with_reducible refine' c_listT ?hv ?_); (case hv => assumption))
  | ((with_reducible refine' c_tupL ?hv ?_); (case hv => first | assumption | exact slO (by assumption)))
  | ((with_reducible refine' c_tupT ?hv ?_); (case hv => assumption))
  | ((with_reducible refine' t_lst ?hv ?_); (case hv => first | assumption | exact slO (by assumption)))
  | ((with_reducible refine' t_tup ?hv ?_); (case hv => assumption))
  | ((with_reducible refine' r_sl ?hv ?_); (case hv => first | assumption | exact slO (by assumption)))
  | ((with_reducible refine' o_inL ?hv ?_); (case hv => first | assumption | exact slO (by assumption)))
  | ((with_reducible refine' o_inT ?hv ?_); (case hv => first | assumption | exact stO (by assumption)))
  | ((with_reducible refine' o_niL ?hv ?_); (case hv => first | assumption | exact slO (by assumption)))
  | ((with_reducible refine' o_niT ?hv ?_); (case hv => first | assumption | exact stO (by assumption)))
  | ((with_reducible refine' ty_lst ?hv ?_); (case hv => assumption)))
local macro_rules | `(tactic| walk_at "mo") => `(tactic| repeat' (first | exact m_yes | exact m_var | exact m_c | exact m_I0 | exact m_I | exact m_ix | exact m_add | exact m_in | exact m_int1 | exact m_abs | exact m_nil | refine' m_and ?_ ?_ | refine' m_test ?_ | refine' m_tB ?_ | refine' m_op ?_ ?_ ?_ | refine' m_cons ?_ ?_ | refine' m_cb ?_ ?_))
local macro_rules | `(tactic| walk_at "go") => `(tactic| repeat' (first | walk_at "s" | walk_at "v" | walk_at "a" | walk_at "x" | walk_at "m" | walk_at "c" | walk_at "i" | walk_at "d"))

section
variable {P : Program} {w : World} {K : PySem.W.Frag} {mg : Str → Option Value} {base : Heap}
/-! ### leftovers -/
def filt (k : Nat) : Option Pc → Option Pc
  | none => none
  | some p => if p.k = k then some p else none
theorem filt_some {k : Nat} {x : Option Pc} {p : Pc} (h : filt k x = some p) : x = some p ∧ p.k = k := by
  cases x with
  | none => cases h
  | some q =>
    have h : (if q.k = k then some q else none) = some p := h
    split at h
    · next e => cases h; exact ⟨rfl, e⟩
    · cases h
theorem filt_ne {k : Nat} {p : Pc} (h : p.k ≠ k) : filt k (some p) = none := if_neg h
theorem filt_eq {k : Nat} {p : Pc} (h : p.k = k) : filt k (some p) = some p := if_pos h
theorem goes_same {p q : Pc} (h : goesB p q = true) (l : p.l ≠ 0) : q.e = p.e := by
  unfold goesB at h
  rw [if_neg l, Bool.and_eq_true, Bool.and_eq_true] at h
  exact of_decide_eq_true h.2.2
theorem goes_next {p q : Pc} (h : goesB p q = true) (l : p.l = 0) : p.e ≤ q.e := by
  unfold goesB at h
  rw [if_pos l, Bool.and_eq_true] at h
  exact of_decide_eq_true h.2
/-- counted from k on behind q, no record is ever whole -/
def Dead (M : Mst) (o : Nat → Option Pc) : Nat → Option Pc → Nat → Prop
  | 0, _, _ => True
  | n + 1, q, k => ∀ p, o k = some p → firstB M q p = true → p.l ≠ 0 ∧ Dead M o n (some p) (k + 1)
theorem dead_M {M M' : Mst} {o : Nat → Option Pc} : ∀ {n k : Nat} {p : Pc}, Dead M o n (some p) k → Dead M' o n (some p) k
  | 0, _, _, _ => trivial
  | n + 1, k, p, h => fun q e f => ⟨(h q e f).1, dead_M (h q e f).2⟩
theorem dead_stop {M : Mst} {o : Nat → Option Pc} {q : Option Pc} {k : Nat} (h : ∀ p, o k = some p → firstB M q p = false) : ∀ n, Dead M o n q k
  | 0 => trivial
  | n + 1 => fun p e f => by rw [h p e] at f; cases f
theorem dead_congr {M : Mst} {o o' : Nat → Option Pc} : ∀ {n k : Nat} {q : Option Pc}, (∀ j, k ≤ j → o' j = o j) → Dead M o n q k → Dead M o' n q k
  | 0, _, _, _, _ => trivial
  | n + 1, k, q, e, h => fun p x f => by
    rw [e k (Nat.le_refl _)] at x
    exact ⟨(h p x f).1, dead_congr (fun j hj => e j (by omega)) (h p x f).2⟩
theorem dead_mix {M : Mst} {o o' : Nat → Option Pc} {E : Nat} : ∀ {n k : Nat} {q : Option Pc}, Dead M o n q k → o' k = o k → (∀ j p, o j = some p → p.e < E) → (∀ j, k < j → o' j = o j ∨ ∃ p, o' j = some p ∧ p.e = E) → Dead M o' n q k
  | 0, _, _, _, _, _, _ => trivial
  | n + 1, k, q, h, e, lo, mx => fun p x f => by
    rw [e] at x
    obtain ⟨l, d⟩ := h p x f
    refine ⟨l, ?_⟩
    rcases mx (k + 1) (by omega) with y | ⟨p2, y1, y2⟩
    · exact dead_mix d y lo fun j hj => mx j (by omega)
    · refine dead_stop (fun p3 z => ?_) n
      rw [y1] at z
      obtain rfl := Option.some.inj z
      cases g : firstB M (some p) p2 with
      | false => rfl
      | true =>
        have := goes_same (show goesB p p2 = true from g) l
        have := lo k p x
        omega
theorem count_dead {M : Mst} {lt : Nat} {g o : Nat → Option Pc} : ∀ (n k : Nat) (acc : List Pc), (∀ j, j < n → filt (k + j) (g (k + j)) = o (k + j)) → Dead M o n acc.getLast? k → ∃ tl, countG M lt g n acc k = acc ++ tl ∧ ∀ p ∈ tl, p.l ≠ 0
  | 0, k, acc, _, _ => ⟨[], by rw [List.append_nil]; rfl, by simp⟩
  | n + 1, k, acc, hf, hd => by
    cases e : g k with
    | none => exact ⟨[], by rw [countG_none e, List.append_nil], by simp⟩
    | some p =>
      rw [countG_some e]
      by_cases es : stepB M lt acc k p = true
      · rw [if_pos es]
        have es2 := es
        unfold stepB at es2
        rw [Bool.and_eq_true, Bool.and_eq_true] at es2
        have hk := of_decide_eq_true es2.1
        have hfb : firstB M acc.getLast? p = true := es2.2.2
        have ho := hf 0 (Nat.succ_pos n)
        rw [Nat.add_zero, e, filt_eq hk] at ho
        obtain ⟨l, d⟩ := hd p ho.symm hfb
        obtain ⟨tl, h1, h2⟩ := count_dead n (k + 1) (acc ++ [p]) (fun j hj => by have := hf (j + 1) (by omega); rw [show k + 1 + j = k + (j + 1) by omega]; exact this) (by rw [List.getLast?_concat]; exact d)
        refine ⟨p :: tl, by rw [h1, List.append_assoc]; rfl, fun q hq => ?_⟩
        rcases List.mem_cons.mp hq with z | z
        · rw [z]; exact l
        · exact h2 q z
      · rw [if_neg es]
        exact ⟨[], by rw [List.append_nil], by simp⟩
theorem count_pre {M : Mst} {lt : Nat} {g : Nat → Option Pc} : ∀ (ps : List Pc) (n k : Nat) (acc : List Pc), Good M lt acc.getLast? k ps → (∀ j p, ps[j]? = some p → g (k + j) = some p) → ps.length ≤ n → countG M lt g n acc k = countG M lt g (n - ps.length) (acc ++ ps) (k + ps.length)
  | [], n, k, acc, _, _, _ => by rw [List.append_nil]; rfl
  | p :: ps, 0, k, acc, _, _, hl => absurd hl (by rw [List.length_cons]; omega)
  | p :: ps, n + 1, k, acc, ⟨g1, g2, g3, g4⟩, hp, hl => by
    rw [List.length_cons] at hl
    rw [countG_some (show g k = some p from hp 0 p rfl)]
    have es : stepB M lt acc k p = true := by
      unfold stepB
      rw [decide_eq_true g1, decide_eq_true g2]
      exact g3
    rw [if_pos es, count_pre ps n (k + 1) (acc ++ [p]) (by rw [List.getLast?_concat]; exact g4) (fun j q e => ?_) (by omega)]
    · rw [List.append_assoc, List.length_cons, show n + 1 - (ps.length + 1) = n - ps.length by omega, show k + 1 + ps.length = k + (ps.length + 1) by omega]; rfl
    · rw [show k + 1 + j = k + (j + 1) by omega]; exact hp (j + 1) q e
theorem read_tail : ∀ {tl : List Pc} {st : List V × List Rc}, (∀ p ∈ tl, p.l ≠ 0) → (tl.foldl rdStep st).2 = st.2
  | [], _, _ => rfl
  | p :: tl, st, h => by
    rw [List.foldl_cons, read_tail fun q hq => h q (List.mem_cons_of_mem _ hq)]
    unfold rdStep
    rw [if_neg (h p (by simp))]
/-! ### rows of records, cut and joined -/
theorem pcsL_app : ∀ {as bs : List Kp} {no : Nat}, pcsL no (as ++ bs) = pcsL no as ++ pcsL (no + as.length) bs
  | [], bs, no => rfl
  | r :: as, bs, no => by
    show pcsR _ _ _ _ ++ pcsL (no + 1) (as ++ bs) = (pcsR _ _ _ _ ++ _) ++ _
    rw [pcsL_app, List.append_assoc, List.length_cons, show no + 1 + as.length = no + (as.length + 1) by omega]
theorem Chn.low {E e' : Nat} : ∀ {ks : List Kp} {k e z : Nat}, e' ≤ e → Chn E k e ks z → Chn E k e' ks z
  | [], _, _, _, _, h => h
  | r :: rs, k, e, z, he, ⟨h1, h2, h3, h4, h⟩ => ⟨h1, Nat.le_trans he h2, h3, h4, h⟩
theorem Chn.app {E K : Nat} {bs : List Kp} {z : Nat} (hb : Chn E K E bs z) : ∀ {as : List Kp} {k e : Nat}, e ≤ E → Chn E k e as K → Chn E k e (as ++ bs) z
  | [], k, e, he, h => by
    have h : k = K := h
    subst h
    exact hb.low he
  | r :: rs, k, e, he, ⟨h1, h2, h3, h4, h⟩ => ⟨h1, h2, h3, h4, hb.app h3 h⟩
theorem Chn.take {E : Nat} : ∀ {ks : List Kp} {k e z m : Nat}, Chn E k e ks z → m ≤ ks.length → Chn E k e (ks.take m) (fkL ks z m)
  | [], k, e, z, m, h, hm => by
    have : m = 0 := by simpa using hm
    subst this
    exact h
  | r :: rs, k, e, z, 0, h, _ => h.1.symm
  | r :: rs, k, e, z, m + 1, ⟨h1, h2, h3, h4, h⟩, hm => ⟨h1, h2, h3, h4, h.take (by simpa using hm)⟩
def epAt (E : Nat) (ks : List Kp) (i : Nat) : Nat := match ks[i]? with
  | some r => r.2.2
  | none => E
theorem Chn.drop {E : Nat} : ∀ {ks : List Kp} {k e z i : Nat}, Chn E k e ks z → i ≤ ks.length → Chn E (fkL ks z i) (epAt E ks i) (ks.drop i) z
  | [], k, e, z, i, h, hi => by
    have : i = 0 := by simpa using hi
    subst this
    rfl
  | r :: rs, k, e, z, 0, ⟨h1, h2, h3, h4, h⟩, _ => ⟨rfl, Nat.le_refl _, h3, h4, by
    show Chn E (r.2.1 + cutN r.1) r.2.2 rs z
    rw [h1]; exact h⟩
  | r :: rs, k, e, z, i + 1, ⟨h1, h2, h3, h4, h⟩, hi => h.drop (i := i) (by simpa using hi)
theorem Chn.find {E : Nat} : ∀ {ks : List Kp} {k e no z n : Nat}, Chn E k e ks z → k + n < z → ∃ i j r, ks[i]? = some r ∧ j < cutN r.1 ∧ r.2.1 + j = k + n ∧ (pcsL no ks)[n]? = some (pcF r.2.1 r.2.2 (no + i) r.1 j)
  | [], k, e, no, z, n, h, hn => by
    have h : k = z := h
    omega
  | r :: rs, k, e, no, z, n, ⟨h1, h2, h3, h4, h⟩, hn => by
    by_cases c : n < cutN r.1
    · exact ⟨0, n, r, rfl, c, by rw [h1], Chn.get (ks := r :: rs) (no := no) (i := 0) ⟨h1, h2, h3, h4, h⟩ rfl c (by rw [h1])⟩
    · obtain ⟨i, j, q, e1, e2, e3, e4⟩ := h.find (no := no + 1) (n := n - cutN r.1) (by omega)
      refine ⟨i + 1, j, q, e1, e2, by omega, ?_⟩
      show (pcsR _ _ _ _ ++ _)[n]? = _
      rw [List.getElem?_append_right (by rw [pcsR_len]; omega), pcsR_len, e4, show no + 1 + i = no + (i + 1) by omega]
theorem Chn.same {E : Nat} : ∀ {ks : List Kp} {k z : Nat}, Chn E k E ks z → ∀ r ∈ ks, r.2.2 = E
  | [], _, _, _, r, hr => by cases hr
  | q :: rs, k, z, ⟨h1, h2, h3, h4, h⟩, r, hr => by
    have e : q.2.2 = E := by omega
    rcases List.mem_cons.mp hr with y | y
    · rw [y]; exact e
    · rw [e] at h; exact h.same r y
theorem Chn.ge {E : Nat} {ks : List Kp} {k e z : Nat} (h : Chn E k e ks z) : k ≤ z := by have := h.many; omega
theorem win {r i : Nat} (b : Nat) (hi : i < r) : ∃ k, b ≤ k ∧ k < b + r ∧ k % r = i := by
  have h := Nat.div_add_mod b r
  have hm := Nat.mod_lt b (show 0 < r by omega)
  by_cases c : b % r ≤ i
  · refine ⟨r * (b / r) + i, ?_, ?_, ?_⟩
    · omega
    · omega
    · rw [Nat.mul_add_mod, Nat.mod_eq_of_lt hi]
  · refine ⟨r * (b / r + 1) + i, ?_, ?_, ?_⟩
    · rw [Nat.mul_add]; omega
    · rw [Nat.mul_add]; omega
    · rw [Nat.mul_add_mod, Nat.mod_eq_of_lt hi]
theorem win_inj {r b k j : Nat} (h : k % r = j % r) (h1 : b ≤ k) (h2 : k < b + r) (h3 : b ≤ j) (h4 : j < b + r) : k = j := by
  have := mod_inj (r := r) (a := b) (i := k - b) (j := j - b) (by rw [show b + (k - b) = k by omega, show b + (j - b) = j by omega]; exact h) (by omega) (by omega)
  omega
end
end Vw

set_option Elab.async false
set_option linter.all false
set_option maxRecDepth 100000
set_option maxHeartbeats 4000000
namespace Vw
open PySem PySem.Spec PyProof.Rows L2 RT
local macro_rules | `(tactic| walk_at "s") => `(tactic| with_reducible first
  | refine' s_seq ?_ | refine' s_next ?_ | refine' s_set ?_ | refine' s_ret ?_ | refine' s_retN ?_ | refine' s_drop ?_ | refine' s_if ?_ | refine' s_ipI ?_
  | refine' e_c ?_ | refine' e_op ?_ | refine' e_un ?_ | refine' e_neg ?_ | refine' e_test ?_ | refine' e_tB ?_ | refine' e_bl ?_ | refine' e_and ?_ | refine' e_or ?_ | refine' e_not ?_
  | refine' e_andV ?_ | refine' e_orV ?_ | refine' e_notV ?_ | refine' e_kV ?_ | refine' e_ife ?_ | refine' e_nil ?_ | refine' e_cons ?_ | refine' e_cb ?_ | refine' e_call ?_ | refine' e_chain ?_
  | refine' o_addI ?_ | refine' o_eqI ?_ | refine' o_neI ?_ | refine' o_I0 ?_ | refine' o_pow16 ?_ | refine' o_pow17 ?_ | refine' o_pow18 ?_ | refine' o_pow19 ?_ | refine' o_pow30 ?_ | refine' o_pow31 ?_ | refine' o_pow1 ?_ | refine' o_pow2 ?_ | refine' o_pow3 ?_ | refine' o_pow4 ?_ | refine' o_pow5 ?_ | refine' o_pow6 ?_ | refine' o_pow9 ?_ | refine' o_pow10 ?_ | refine' o_pow12 ?_ | refine' o_pow15 ?_ | refine' o_pow20 ?_ | refine' e_lst ?_ | refine' e_tup ?_ | refine' iteT ?_ | refine' i_nt ?_ | refine' i_nf ?_ | refine' iteF ?_ | refine' c_int ?_ | refine' c_abs ?_ | refine' c_min2 ?_ | refine' c_max2 ?_ | refine' e_tru ?_ | refine' t_bl ?_ | refine' t_non ?_ | refine' t_int ?_ | refine' isN_non ?_ | refine' isN_int ?_ | refine' isN_ref ?_ | refine' isN_str ?_ | refine' isN_bl ?_ | refine' noN_non ?_ | refine' noN_int ?_ | refine' noN_ref ?_ | refine' noN_str ?_ | refine' noN_bl ?_
  | refine' s_brk ?_ | refine' s_cont ?_ | refine' s_for ?_ | refine' e_lc ?_ | refine' e_dc ?_ | refine' e_yes ?_ | refine' i_rng1 ?_ | refine' i_lst0 ?_ | refine' i_tup0 ?_ | refine' e_bm ?_ | refine' e_sl ?_ | refine' e_np ?_ | refine' e_pt ?_ | refine' e_ptI ?_ | refine' e_din ?_ | refine' e_dnin ?_ | refine' e_methE ?_ | refine' p_cons ?_ | refine' p_nil ?_ | refine' s_dput ?_ | refine' e_dget2 ?_ | refine' e_dpop1 ?_ | refine' i_enum0 ?_ | refine' i_rev0 ?_ | refine' g_sub ?_ | refine' s_asg ?_ | refine' i_zip0 ?_ | refine' e_revT ?_ | refine' isB_bl ?_ | refine' notB_bl ?_ | refine' o_neB ?_ | refine' i_nrr ?_ | refine' e_meth ?_ | refine' s_setf ?_ | refine' e_fld ?_ | refine' e_bm0 ?_ | refine' r_tx ?_ | refine' o_eqStr ?_ | refine' o_neStr ?_)
local macro_rules | `(tactic| walk_at "v") => `(tactic| ((with_reducible refine' e_var ?hv ?_); (case hv => exact rfl)))
local macro_rules | `(tactic| walk_at "a") => `(tactic| ((with_reducible refine' s_aug ?hv ?_); (case hv => exact rfl)))
local macro_rules | `(tactic| walk_at "m") => `(tactic| first
  | ((with_reducible refine' o_mod ?hv ?_); (case hv => first | decide | omega))
  | ((with_reducible refine' o_mulR ?hv ?_); (case hv => omega))
  | ((with_reducible refine' o_mulL ?hv ?_); (case hv => omega))
  | ((with_reducible refine' o_div ?hv ?hw ?_); (case hv => omega); (case hw => omega))
  | ((with_reducible refine' o_pow _ ?hv ?hw ?hx ?_); (case hv => exact rfl); (case hw => decide); (case hx => decide)))
local macro_rules | `(tactic| walk_at "i") => `(tactic| (first
  | ((with_reducible refine' isi_int true ?hv ?_); (case hv => exact (by decide +kernel)))
  | ((with_reducible refine' isi_int false ?hv ?_); (case hv => exact (by decide +kernel)))
  | ((with_reducible refine' isi_non true ?hv ?_); (case hv => exact (by decide +kernel)))
  | ((with_reducible refine' isi_non false ?hv ?_); (case hv => exact (by decide +kernel)))
  | ((with_reducible refine' isi_str true ?hv ?_); (case hv => exact (by decide +kernel)))
  | ((with_reducible refine' isi_str false ?hv ?_); (case hv => exact (by decide +kernel)))
  | ((with_reducible refine' isi_bl true ?hv ?_); (case hv => exact (by decide +kernel)))
  | ((with_reducible refine' isi_bl false ?hv ?_); (case hv => exact (by decide +kernel)))
  | ((with_reducible refine' isi_t true ?hw ?hv ?_); (case hw => assumption); (case hv => exact (by decide +kernel)))
  | ((with_reducible refine' isi_t false ?hw ?hv ?_); (case hw => assumption); (case hv => exact (by decide +kernel)))
  | ((with_reducible refine' isi_l true ?hw ?hv ?_); (case hw => assumption); (case hv => exact (by decide +kernel)))
  | ((with_reducible refine' isi_l false ?hw ?hv ?_); (case hw => assumption); (case hv => exact (by decide +kernel)))
  | ((with_reducible refine' isi_tup true ?hw ?hv ?_); (case hw => assumption); (case hv => exact (by decide +kernel)))
  | ((with_reducible refine' isi_tup false ?hw ?hv ?_); (case hw => assumption); (case hv => exact (by decide +kernel)))
  | ((with_reducible refine' isi_lst true ?hw ?hv ?_); (case hw => assumption); (case hv => exact (by decide +kernel)))
  | ((with_reducible refine' isi_lst false ?hw ?hv ?_); (case hw => assumption); (case hv => exact (by decide +kernel)))))
local macro_rules | `(tactic| walk_at "om") => `(tactic| first | omega | (simp only [List.length_cons, List.length_nil, List.length_map, List.length_append, List.length_range]; omega))
local macro_rules | `(tactic| walk_at "d") => `(tactic| (first
  | ((with_reducible refine' i_dt ?hv ?_); (case hv => walk_at "om"))
  | ((with_reducible refine' i_df ?hv ?_); (case hv => walk_at "om"))
  | ((with_reducible refine' i_ndt ?hv ?_); (case hv => walk_at "om"))
  | ((with_reducible refine' i_ndf ?hv ?_); (case hv => walk_at "om"))))
local macro_rules | `(tactic| walk_at "x") => `(tactic| first
  | ((with_reducible refine' o_ixA ?hv ?hw ?_); (case hv => assumption); (case hw => exact rfl))
  | ((with_reducible refine' o_ixU ?hv ?hw ?_); (case hv => assumption); (case hw => exact rfl))
  | ((with_reducible refine' o_ixL ?hv ?hw ?_); (case hv => assumption); (case hw => exact rfl))
  | ((with_reducible refine' o_ixT ?hv ?hw ?_); (case hv => assumption); (case hw => exact rfl))
  | ((with_reducible refine' set_ ?hv ?hw ?_); (case hv => assumption); (case hw => exact rfl))
  | ((with_reducible refine' e_lenM ?hv ?_); (case hv => first | assumption | exact slO (by assumption)))
  | ((with_reducible refine' e_lenN ?hv ?_); (case hv => first | assumption | exact stO (by assumption)))
  | ((with_reducible refine' e_lenL ?hv ?_); (case hv => first | assumption | exact slO (by assumption)))
  | ((with_reducible refine' e_lenT ?hv ?_); (case hv => first | assumption | exact stO (by assumption))))
local macro_rules | `(tactic| walk_at "c") => `(tactic| first
  | ((with_reducible refine' c_listL ?hv ?_); (case hv => assumption))
  | ((with_reducible refine' c_listT ?hv ?_); (case hv => assumption))
  | ((with_reducible refine' c_tupL ?hv ?_); (case hv => first | assumption | exact slO (by assumption)))
  | ((with_reducible refine' c_tupT ?hv ?_); (case hv => assumption))
  | ((with_reducible refine' t_lst ?hv ?_); (case hv => first | assumption | exact slO (by assumption)))
  | ((with_reducible refine' t_tup ?hv ?_); (case hv => assumption))
  | ((with_reducible refine' r_sl ?hv ?_); (case hv => first | assumption | exact slO (by assumption)))
  | ((with_reducible refine' o_inL ?hv ?_); (case hv => first | assumption | exact slO (by assumption)))
  | ((with_reducible refine' o_inT ?hv ?_); (case hv => first | assumption | exact stO (by assumption)))
  | ((with_reducible refine' o_niL ?hv ?_); (case hv => first | assumption | exact slO (by assumption)))
  | ((with_reducible refine' o_niT ?hv ?_); (case hv => first | assumption | exact stO (by assumption)))
  | ((with_reducible refine' ty_lst ?hv ?_); (case hv => assumption)))
local macro_rules | `(tactic| walk_at "mo") => `(tactic| repeat' (first | exact m_yes | exact m_var | exact m_c | exact m_I0 | exact m_I | exact m_ix | exact m_add | exact m_in | exact m_int1 | exact m_abs | exact m_nil | refine' m_and ?_ ?_ | refine' m_test ?_ | refine' m_tB ?_ | refine' m_op ?_ ?_ ?_ | refine' m_cons ?_ ?_ | refine' m_cb ?_ ?_))
local macro_rules | `(tactic| walk_at "go") => `(tactic| repeat' (first | walk_at "s" | walk_at "v" | walk_at "a" | walk_at "x" | walk_at "m" | walk_at "c" | walk_at "i" | walk_at "d"))

section
variable {P : Program} {w : World} {K : PySem.W.Frag} {mg : Str → Option Value} {base : Heap}
/-! ### a disk that a log is led on, with what was left behind -/
def blk (r k : Nat) : Int := 1 + ((k % r : Nat) : Int)
def tp (L : LD) (k : Nat) : Option Pc := (pcsL L.bg L.kept)[k - L.bk]?
def mAt (L : LD) (fi : Nat) : Mst := ⟨L.ep, L.ring, L.bk, L.bg, fi⟩
theorem blk_nat {r k : Nat} : (blk r k).toNat = 1 + k % r := by unfold blk; omega
theorem blk_in {r k : Nat} (h : 0 < r) : 1 ≤ blk r k ∧ blk r k ≤ r := by
  have := Nat.mod_lt k h
  unfold blk; omega
theorem blk_ne {r b k j : Nat} (h1 : b ≤ k) (h2 : k < b + r) (h3 : b ≤ j) (h4 : j < b + r) (n : k ≠ j) : blk r k ≠ blk r j := fun z => by
  refine n (win_inj (r := r) (b := b) ?_ h1 h2 h3 h4)
  unfold blk at z
  omega
structure Inv (S : SD) (L : LD) (fi K : Nat) (ks0 ks1 : List Kp) (c o : Nat → Option Pc) (n : Nat) : Prop where
  r4 : 4 ≤ L.ring
  r8 : L.ring + 8 ≤ S.lies.length
  kp : L.kept = ks0 ++ ks1
  ch0 : Chn L.ep L.bk fi ks0 K
  ch1 : Chn L.ep K L.ep ks1 L.nk
  nk : L.nk ≤ L.bk + L.ring
  fie : fi ≤ L.ep
  l0 : S.lies[0]? = some (Mst.ct (mAt L fi))
  li : ∀ k, L.bk ≤ k → k < L.bk + L.ring → S.lies[1 + k % L.ring]? = some (octs (c k)) ∧ ∀ p, c k = some p → p.xs ≠ [] ∧ p.xs.length ≤ 36
  dn : ∀ k, L.bk ≤ k → k < L.nk → (c k = tp L k ∧ S.rows (blk L.ring k) = []) ∨ (K ≤ k ∧ filt k (c k) = o k ∧ ∃ p, tp L k = some p ∧ S.rows (blk L.ring k) = [p.ct])
  up : ∀ k, L.nk ≤ k → k < L.bk + L.ring → filt k (c k) = o k ∧ S.rows (blk L.ring k) = []
  ol : ∀ k p, o k = some p → p.k = k ∧ p.e < L.ep
  on : ∀ k, L.bk + L.ring ≤ k → o k = none
  de : ∀ n, Dead (mAt L fi) o n (pcsL L.bg ks0).getLast? K
  out : ∀ x, S.rows x ≠ [] → 1 ≤ x ∧ x ≤ L.ring
  pw : S.pw = none
  ok : S.Ok
  su : n ≤ L.kept.length
  sure : ∀ k, L.bk ≤ k → k < L.fk n → c k = tp L k ∧ S.rows (blk L.ring k) = []
theorem pcF_xs {k e no j : Nat} {xs : List V} (hj : j < cutN xs) : (pcF k e no xs j).xs ≠ [] ∧ (pcF k e no xs j).xs.length ≤ 36 := by
  refine ⟨fun z => ?_, cutAt_len⟩
  have z : cutAt xs j = [] := z
  have : (cutAt xs j).length = 0 := by rw [z]; rfl
  unfold cutAt at this
  rw [List.length_take, List.length_drop] at this
  unfold cutN at hj
  omega
theorem ct_inj {p q : Pc} (h : p.ct = q.ct) : p = q := by
  obtain ⟨k, e, r, l, xs⟩ := p
  obtain ⟨k', e', r', l', xs'⟩ := q
  unfold Pc.ct at h
  simp only [List.cons.injEq, V.int.injEq] at h
  obtain ⟨h1, h2, h3, h4, h5⟩ := h
  rw [show k = k' by omega, show e = e' by omega, show r = r' by omega, show l = l' by omega, h5]
theorem octs_inj {x : Option Pc} {p : Pc} (h : octs x = p.ct) : x = some p := by
  cases x with
  | none => cases h
  | some q => rw [ct_inj (show q.ct = p.ct from h)]
section
variable {S T : SD} {L : LD} {fi K n : Nat} {ks0 ks1 : List Kp} {c o : Nat → Option Pc}
theorem Inv.ch (h : Inv S L fi K ks0 ks1 c o n) : Chn L.ep L.bk fi L.kept L.nk := by rw [h.kp]; exact h.ch1.app h.fie h.ch0
theorem Inv.few1 (h : Inv S L fi K ks0 ks1 c o n) : L.kept.length ≤ 592 ∧ L.ring ≤ 592 := by
  have h1 := h.ch.many
  have h2 := h.ok.ln
  have h3 := h.r8
  have h4 := h.nk
  omega
theorem Inv.recs (h : Inv S L fi K ks0 ks1 c o n) : ∀ r ∈ L.kept, RecOk r.1 ∧ r.2.2 ≤ L.ep := h.ch.all
theorem Inv.len6 (h : Inv S L fi K ks0 ks1 c o n) : ∀ r ∈ L.kept, r.1.length ≤ 6000 := fun r hr => (h.recs r hr).1.l1
theorem Inv.items (h : Inv S L fi K ks0 ks1 c o n) : ∀ r ∈ L.kept, ∀ x ∈ r.1, itemB x = true := fun r hr => (h.recs r hr).1.it
theorem Inv.nkOf (h : Inv S L fi K ks0 ks1 c o n) : L.nk = L.nkOf := by
  have := h.ch.last
  unfold LD.nkOf
  exact this.symm
theorem Inv.fkK (h : Inv S L fi K ks0 ks1 c o n) : L.fk ks0.length = K := by
  show fkL L.kept L.nk ks0.length = K
  rw [h.kp]
  have h1 := h.ch1
  cases e : ks1 with
  | nil =>
    rw [e] at h1
    have h1 : K = L.nk := h1
    rw [List.append_nil, fkL_end, h1]
  | cons r rs =>
    rw [e] at h1
    unfold fkL
    rw [List.getElem?_append_right (Nat.le_refl _), Nat.sub_self]
    exact h1.1
theorem Inv.mono (h : Inv S L fi K ks0 ks1 c o n) {i j : Nat} (hij : i ≤ j) (hj : j ≤ L.kept.length) : L.fk i ≤ L.fk j := h.ch.mono hij hj
theorem Inv.fk0 (h : Inv S L fi K ks0 ks1 c o n) : L.fk 0 = L.bk := h.ch.fk0
theorem Inv.fkE (h : Inv S L fi K ks0 ks1 c o n) : L.fk L.kept.length = L.nk := fkL_end
theorem Inv.step (h : Inv S L fi K ks0 ks1 c o n) {i : Nat} {r : Kp} (hi : L.kept[i]? = some r) : L.fk i = r.2.1 ∧ L.fk (i + 1) = r.2.1 + cutN r.1 := ⟨fkL_at hi, h.ch.step hi⟩
theorem Inv.new (h : Inv S L fi K ks0 ks1 c o n) {i : Nat} {r : Kp} (hi : L.kept[i]? = some r) (hK : ks0.length ≤ i) : r.2.2 = L.ep := by
  rw [h.kp, List.getElem?_append_right hK] at hi
  exact h.ch1.same r (List.mem_of_getElem? hi)
theorem Inv.tpF (h : Inv S L fi K ks0 ks1 c o n) {i j : Nat} {r : Kp} (hi : L.kept[i]? = some r) (hj : j < cutN r.1) : tp L (r.2.1 + j) = some (pcF r.2.1 r.2.2 (L.bg + i) r.1 j) := by
  have s := h.step hi
  have m := h.mono (i := 0) (j := i) (Nat.zero_le _) (Nat.le_of_lt (List.getElem?_eq_some_iff.mp hi).1)
  rw [h.fk0, s.1] at m
  exact h.ch.get (no := L.bg) (n := r.2.1 + j - L.bk) hi hj (by omega)
theorem Inv.tpAt (h : Inv S L fi K ks0 ks1 c o n) {k : Nat} (h1 : L.bk ≤ k) (h2 : k < L.nk) : ∃ i j r, L.kept[i]? = some r ∧ j < cutN r.1 ∧ r.2.1 + j = k ∧ tp L k = some (pcF r.2.1 r.2.2 (L.bg + i) r.1 j) ∧ L.fk i ≤ k ∧ k < L.fk (i + 1) ∧ (K ≤ k → r.2.2 = L.ep ∧ ks0.length ≤ i) := by
  obtain ⟨i, j, r, e1, e2, e3, e4⟩ := h.ch.find (no := L.bg) (n := k - L.bk) (by omega)
  have s := h.step e1
  refine ⟨i, j, r, e1, e2, by omega, ?_, by omega, by omega, fun hk => ?_⟩
  · exact e4
  · have : ks0.length ≤ i := by
      by_cases q : ks0.length ≤ i
      · exact q
      · exfalso
        have := h.mono (i := i + 1) (j := ks0.length) (by omega) (by rw [h.kp, List.length_append]; omega)
        rw [h.fkK] at this
        omega
    exact ⟨h.new e1 this, this⟩
theorem Inv.tpE (h : Inv S L fi K ks0 ks1 c o n) {k : Nat} {p : Pc} (h1 : L.bk ≤ k) (h2 : k < L.nk) (hp : tp L k = some p) : p.k = k ∧ p.e ≤ L.ep ∧ (K ≤ k → p.e = L.ep) ∧ p.xs ≠ [] ∧ p.xs.length ≤ 36 ∧ CtOk p.ct ∨ 1000000 < L.nk ∨ 1000000 < L.ep ∨ 1000000 < L.bg := by
  by_cases b : L.nk ≤ 1000000 ∧ L.ep ≤ 1000000 ∧ L.bg ≤ 1000000
  · refine .inl ?_
    obtain ⟨i, j, r, e1, e2, e3, e4, e5, e6, e7⟩ := h.tpAt h1 h2
    rw [hp] at e4
    obtain rfl := Option.some.inj e4
    have hr := h.recs r (List.mem_of_getElem? e1)
    have f := h.few1
    have := (List.getElem?_eq_some_iff.mp e1).1
    exact ⟨e3, hr.2, fun q => (e7 q).1, (pcF_xs e2).1, (pcF_xs e2).2, pc_ok (L := ⟨r.2.2, 0, L.bg + i, 0, r.2.1, none, []⟩) hr.1 e2 (by show r.2.1 ≤ _; omega) (by show r.2.2 ≤ _; omega) (by show L.bg + i + 0 ≤ _; omega)⟩
  · omega
theorem Inv.tpK (h : Inv S L fi K ks0 ks1 c o n) {k : Nat} {p : Pc} (h1 : L.bk ≤ k) (h2 : k < L.nk) (hp : tp L k = some p) : p.k = k ∧ p.e ≤ L.ep ∧ (K ≤ k → p.e = L.ep) ∧ p.xs ≠ [] ∧ p.xs.length ≤ 36 := by
  obtain ⟨i, j, r, e1, e2, e3, e4, e5, e6, e7⟩ := h.tpAt h1 h2
  rw [hp] at e4
  obtain rfl := Option.some.inj e4
  have hr := h.recs r (List.mem_of_getElem? e1)
  exact ⟨e3, hr.2, fun q => (e7 q).1, (pcF_xs e2).1, (pcF_xs e2).2⟩
theorem Inv.tpSome (h : Inv S L fi K ks0 ks1 c o n) {k : Nat} (h1 : L.bk ≤ k) (h2 : k < L.nk) : ∃ p, tp L k = some p := by
  obtain ⟨i, j, r, e1, e2, e3, e4, _⟩ := h.tpAt h1 h2
  exact ⟨_, e4⟩
/-- the blocks of the i-th record -/
theorem Inv.rp (h : Inv S L fi K ks0 ks1 c o n) {i : Nat} (hi : i < L.kept.length) {wv : Int × Ct} (hw : wv ∈ L.rp i) : ∃ k p, L.bk ≤ k ∧ k < L.nk ∧ L.fk i ≤ k ∧ k < L.fk (i + 1) ∧ tp L k = some p ∧ wv = (blk L.ring k, p.ct) := by
  have hg := List.getElem?_eq_getElem hi
  unfold LD.rp at hw
  rw [hg] at hw
  obtain ⟨j, hj, e⟩ := List.mem_map.mp hw
  have hj := List.mem_range.mp hj
  have s := h.step hg
  have m1 := h.mono (i := i + 1) (j := L.kept.length) (by omega) (Nat.le_refl _)
  have m0 := h.mono (i := 0) (j := i) (Nat.zero_le _) (by omega)
  rw [h.fkE] at m1
  rw [h.fk0] at m0
  exact ⟨(L.kept[i]).2.1 + j, _, by omega, by omega, by omega, by omega, h.tpF hg hj, e.symm⟩
theorem Inv.rpOf (h : Inv S L fi K ks0 ks1 c o n) {i k : Nat} (hi : i < L.kept.length) (h1 : L.fk i ≤ k) (h2 : k < L.fk (i + 1)) : ∃ p, tp L k = some p ∧ (blk L.ring k, p.ct) ∈ L.rp i := by
  have hg := List.getElem?_eq_getElem hi
  have s := h.step hg
  have t := h.tpF hg (j := k - (L.kept[i]).2.1) (by omega)
  rw [show (L.kept[i]).2.1 + (k - (L.kept[i]).2.1) = k by omega] at t
  refine ⟨_, t, ?_⟩
  unfold LD.rp
  rw [hg]
  refine List.mem_map.mpr ⟨k - (L.kept[i]).2.1, List.mem_range.mpr (by omega), ?_⟩
  rw [show (L.kept[i]).2.1 + (k - (L.kept[i]).2.1) = k by omega]
  show ((1 : Int) + ((k % L.ring : Nat) : Int), _) = (blk L.ring k, _)
  unfold pcF
  rw [show (L.kept[i]).2.1 + (k - (L.kept[i]).2.1) = k by omega]; rfl
theorem Inv.ctOk (h : Inv S L fi K ks0 ks1 c o n) (b1 : L.nk ≤ 1000000) (b2 : L.ep ≤ 1000000) (b3 : L.bg ≤ 1000000) : ∀ i, i < L.kept.length → ∀ wv ∈ L.rp i, CtOk wv.2 := fun i hi wv hw => by
  obtain ⟨k, p, h1, h2, _, _, hp, rfl⟩ := h.rp hi hw
  rcases h.tpE h1 h2 hp with q | q
  · exact q.2.2.2.2.2
  · omega
/-- what lies there where it is not the piece itself -/
theorem Inv.lieNe (h : Inv S L fi K ks0 ks1 c o n) {k : Nat} {p : Pc} (h1 : L.bk ≤ k) (h2 : k < L.nk) (hp : tp L k = some p) : S.lies[1 + k % L.ring]? = some p.ct ↔ c k = some p := by
  have hn := h.nk
  rw [(h.li k h1 (by omega)).1]
  refine ⟨fun e => octs_inj (Option.some.inj e), fun e => by rw [e]; rfl⟩
/-- appended -/
theorem puts_rows : ∀ {ws : List (Int × Ct)} {S : SD}, (ws.map (·.1)).Nodup → ∀ w ∈ ws, (S.puts ws).rows w.1 = S.rows w.1 ++ [w.2]
  | [], S, _, w, hw => by cases hw
  | v :: ws, S, hd, w, hw => by
    obtain ⟨h1, h2⟩ := List.nodup_cons.mp hd
    rcases List.mem_cons.mp hw with z | z
    · subst z
      show ((S.wrote w.1 w.2).puts ws).rows w.1 = _
      have off : ∀ {ws : List (Int × Ct)} {S : SD}, (∀ u ∈ ws, u.1 ≠ w.1) → (S.puts ws).rows w.1 = S.rows w.1 := fun {ws} => by
        induction ws with
        | nil => intro S _; rfl
        | cons u ws ih =>
          intro S hu
          show ((S.wrote u.1 u.2).puts ws).rows w.1 = _
          rw [ih fun x hx => hu x (List.mem_cons_of_mem _ hx)]
          exact if_neg fun z => hu u (by simp) z.symm
      rw [off fun u hu e => h1 (List.mem_map.mpr ⟨u, hu, e⟩)]
      exact if_pos rfl
    · have ne : w.1 ≠ v.1 := fun e => h1 (List.mem_map.mpr ⟨w, z, e⟩)
      have := puts_rows (S := S.wrote v.1 v.2) h2 w z
      show ((S.wrote v.1 v.2).puts ws).rows w.1 = _
      rw [this]
      show (if w.1 = v.1 then _ else S.rows w.1) ++ [w.2] = _
      rw [if_neg ne]
theorem puts_off {x : Int} : ∀ {ws : List (Int × Ct)} {S : SD}, (∀ w ∈ ws, w.1 ≠ x) → (S.puts ws).rows x = S.rows x
  | [], S, _ => rfl
  | w :: ws, S, h => by
    have i := puts_off (ws := ws) (S := S.wrote w.1 w.2) fun v hv => h v (List.mem_cons_of_mem _ hv)
    exact i.trans (if_neg fun z => h w (by simp) z.symm)
theorem puts_pw : ∀ {ws : List (Int × Ct)} {S : SD}, (S.puts ws).pw = S.pw
  | [], S => rfl
  | w :: ws, S => puts_pw (ws := ws) (S := S.wrote w.1 w.2)
theorem Inv.append {xs : List V} (h : Inv S L fi K ks0 ks1 c o n) (ok : RecOk xs) (hr : L.nk + cutN xs ≤ L.bk + L.ring) (okT : (S.puts (L.puts xs)).Ok) : Inv (S.puts (L.puts xs)) (L.more xs L.ep) fi K ks0 (ks1 ++ [(xs, L.nk, L.ep)]) c o n := by
  have hl := h.ch.len (no := L.bg)
  have hK := h.ch1.ge
  have hb : L.bk ≤ L.nk := h.ch.ge
  have r4 := h.r4
  have e0 : ∀ w ∈ L.puts xs, ∃ j, j < cutN xs ∧ w = (blk L.ring (L.nk + j), (pcF L.nk L.ep L.no xs j).ct) := fun w hw => by
    obtain ⟨j, hj, e⟩ := List.mem_map.mp hw
    exact ⟨j, List.mem_range.mp hj, e.symm⟩
  have off : ∀ k, L.bk ≤ k → k < L.bk + L.ring → k < L.nk ∨ L.nk + cutN xs ≤ k → ∀ w ∈ L.puts xs, w.1 ≠ blk L.ring k := fun k k1 k2 k3 w hw z => by
    obtain ⟨j, hj, e⟩ := e0 w hw
    rw [e] at z
    exact blk_ne (b := L.bk) (r := L.ring) (k := L.nk + j) (j := k) (by omega) (by omega) k1 k2 (by omega) z
  have nd : ((L.puts xs).map (·.1)).Nodup := by
    unfold LD.puts
    rw [List.map_map]
    refine List.pairwise_map.mpr (List.Pairwise.imp_of_mem (fun {i j} hi hj hne q => hne ?_) List.nodup_range)
    have hi := List.mem_range.mp hi
    have hj := List.mem_range.mp hj
    have q : (1 : Int) + (((L.nk + i) % L.ring : Nat) : Int) = 1 + (((L.nk + j) % L.ring : Nat) : Int) := q
    exact mod_inj (r := L.ring) (a := L.nk) (by omega) (by omega) (by omega)
  have more : (L.more xs L.ep).kept = L.kept ++ [(xs, L.nk, L.ep)] := rfl
  have fkm : ∀ i, i ≤ L.kept.length → (L.more xs L.ep).fk i = L.fk i := fun i hi => by
    show fkL (L.kept ++ [(xs, L.nk, L.ep)]) _ i = fkL L.kept L.nk i
    by_cases q : i = L.kept.length
    · rw [q, fkL_end]
      unfold fkL
      rw [List.getElem?_append_right (Nat.le_refl _), Nat.sub_self]; rfl
    · unfold fkL
      rw [List.getElem?_append_left (by omega), List.getElem?_eq_getElem (by omega)]
  have tpl : ∀ k, L.bk ≤ k → k < L.nk → tp (L.more xs L.ep) k = tp L k := fun k k1 k2 => by
    show (pcsL L.bg (L.kept ++ [(xs, L.nk, L.ep)]))[k - L.bk]? = (pcsL L.bg L.kept)[k - L.bk]?
    rw [pcsL_app, List.getElem?_append_left (by omega)]
  have tpr : ∀ j, j < cutN xs → tp (L.more xs L.ep) (L.nk + j) = some (pcF L.nk L.ep L.no xs j) := fun j hj => by
    show (pcsL L.bg (L.kept ++ [(xs, L.nk, L.ep)]))[L.nk + j - L.bk]? = _
    rw [pcsL_app, List.getElem?_append_right (by omega), show L.nk + j - L.bk - (pcsL L.bg L.kept).length = j by omega]
    show (pcsR L.nk L.ep L.no xs ++ [])[j]? = _
    rw [List.append_nil]
    unfold pcsR
    rw [List.getElem?_map, List.getElem?_range' hj]; simp
  refine ⟨h.r4, by rw [SD.puts_lies]; exact h.r8, by rw [more, h.kp, List.append_assoc], h.ch0, h.ch1.snoc ok (Nat.le_refl _), hr, h.fie, by rw [SD.puts_lies]; exact h.l0, fun k k1 k2 => by rw [SD.puts_lies]; exact h.li k k1 k2, fun k k1 k2 => ?_, fun k k1 k2 => ?_, h.ol, h.on, h.de, fun x hx => ?_, puts_pw.trans h.pw, okT, ?_, fun k k1 k2 => ?_⟩
  · have k2 : k < L.nk + cutN xs := k2
    have k1 : L.bk ≤ k := k1
    by_cases q : k < L.nk
    · rw [tpl k k1 q, show (L.more xs L.ep).ring = L.ring from rfl, puts_off (off k k1 (by omega) (.inl q))]
      exact h.dn k k1 q
    · refine .inr ⟨by omega, (h.up k (by omega) (by omega)).1, ?_⟩
      obtain ⟨j, rfl⟩ : ∃ j, k = L.nk + j := ⟨k - L.nk, by omega⟩
      have hj : j < cutN xs := by omega
      refine ⟨_, tpr j hj, ?_⟩
      have hm : (blk L.ring (L.nk + j), (pcF L.nk L.ep L.no xs j).ct) ∈ L.puts xs := List.mem_map.mpr ⟨j, List.mem_range.mpr hj, rfl⟩
      have := puts_rows (S := S) nd _ hm
      rw [show (L.more xs L.ep).ring = L.ring from rfl, this, (h.up (L.nk + j) (by omega) (by omega)).2]; rfl
  · have k1 : L.nk + cutN xs ≤ k := k1
    have k2 : k < L.bk + L.ring := k2
    rw [show (L.more xs L.ep).ring = L.ring from rfl, puts_off (off k (by omega) k2 (.inr k1))]
    exact h.up k (by omega) k2
  · show 1 ≤ x ∧ x ≤ L.ring
    by_cases q : ∃ w ∈ L.puts xs, w.1 = x
    · obtain ⟨w, hw, e⟩ := q
      obtain ⟨j, hj, e2⟩ := e0 w hw
      rw [← e, e2]
      exact blk_in (by omega)
    · rw [puts_off fun w hw e => q ⟨w, hw, e⟩] at hx
      exact h.out x hx
  · rw [more, List.length_append]
    have := h.su
    omega
  · have k1 : L.bk ≤ k := k1
    rw [fkm n h.su] at k2
    have hm := h.mono (i := n) (j := L.kept.length) h.su (Nat.le_refl _)
    rw [h.fkE] at hm
    rw [tpl k k1 (by omega), show (L.more xs L.ep).ring = L.ring from rfl, puts_off (off k k1 (by omega) (.inl (by omega)))]
    exact h.sure k k1 k2
end
end
end Vw

set_option Elab.async false
set_option linter.all false
set_option maxRecDepth 100000
set_option maxHeartbeats 4000000
namespace Vw
open PySem PySem.Spec PyProof.Rows L2 RT
local macro_rules | `(tactic| walk_at "s") => `(tactic| with_reducible first
  | refine' s_seq ?_ | refine' s_next ?_ | refine' s_set ?_ | refine' s_ret ?_ | refine' s_retN ?_ | refine' s_drop ?_ | refine' s_if ?_ | refine' s_ipI ?_
  | refine' e_c ?_ | refine' e_op ?_ | refine' e_un ?_ | refine' e_neg ?_ | refine' e_test ?_ | refine' e_tB ?_ | refine' e_bl ?_ | refine' e_and ?_ | refine' e_or ?_ | refine' e_not ?_
  | refine' e_andV ?_ | refine' e_orV ?_ | refine' e_notV ?_ | refine' e_kV ?_ | refine' e_ife ?_ | refine' e_nil ?_ | refine' e_cons ?_ | refine' e_cb ?_ | refine' e_call ?_ | refine' e_chain ?_
  | refine' o_addI ?_ | refine' o_eqI ?_ | refine' o_neI ?_ | refine' o_I0 ?_ | refine' o_pow16 ?_ | refine' o_pow17 ?_ | refine' o_pow18 ?_ | refine' o_pow19 ?_ | refine' o_pow30 ?_ | refine' o_pow31 ?_ | refine' o_pow1 ?_ | refine' o_pow2 ?_ | refine' o_pow3 ?_ | refine' o_pow4 ?_ | refine' o_pow5 ?_ | refine' o_pow6 ?_ | refine' o_pow9 ?_ | refine' o_pow10 ?_ | refine' o_pow12 ?_ | refine' o_pow15 ?_ | refine' o_pow20 ?_ | refine' e_lst ?_ | refine' e_tup ?_ | refine' iteT ?_ | refine' i_nt ?_ | refine' i_nf ?_ | refine' iteF ?_ | refine' c_int ?_ | refine' c_abs ?_ | refine' c_min2 ?_ | refine' c_max2 ?_ | refine' e_tru ?_ | refine' t_bl ?_ | refine' t_non ?_ | refine' t_int ?_ | refine' isN_non ?_ | refine' isN_int ?_ | refine' isN_ref ?_ | refine' isN_str ?_ | refine' isN_bl ?_ | refine' noN_non ?_ | refine' noN_int ?_ | refine' noN_ref ?_ | refine' noN_str ?_ | refine' noN_bl ?_
  | refine' s_brk ?_ | refine' s_cont ?_ | refine' s_for ?_ | refine' e_lc ?_ | refine' e_dc ?_ | refine' e_yes ?_ | refine' i_rng1 ?_ | refine' i_lst0 ?_ | refine' i_tup0 ?_ | refine' e_bm ?_ | refine' e_sl ?_ | refine' e_np ?_ | refine' e_pt ?_ | refine' e_ptI ?_ | refine' e_din ?_ | refine' e_dnin ?_ | refine' e_methE ?_ | refine' p_cons ?_ | refine' p_nil ?_ | refine' s_dput ?_ | refine' e_dget2 ?_ | refine' e_dpop1 ?_ | refine' i_enum0 ?_ | refine' i_rev0 ?_ | refine' g_sub ?_ | refine' s_asg ?_ | refine' i_zip0 ?_ | refine' e_revT ?_ | refine' isB_bl ?_ | refine' notB_bl ?_ | refine' o_neB ?_ | refine' i_nrr ?_ | refine' e_meth ?_ | refine' s_setf ?_ | refine' e_fld ?_ | refine' e_bm0 ?_ | refine' r_tx ?_ | refine' o_eqStr ?_ | refine' o_neStr ?_)
local macro_rules | `(tactic| walk_at "v") => `(tactic| ((with_reducible refine' e_var ?hv ?_); (case hv => exact rfl)))
local macro_rules | `(tactic| walk_at "a") => `(tactic| ((with_reducible refine' s_aug ?hv ?_); (case hv => exact rfl)))
local macro_rules | `(tactic| walk_at "m") => `(tactic| first
  | ((with_reducible refine' o_mod ?hv ?_); (case hv => first | decide | omega))
  | ((with_reducible refine' o_mulR ?hv ?_); (case hv => omega))
  | ((with_reducible refine' o_mulL ?hv ?_); (case hv => omega))
  | ((with_reducible refine' o_div ?hv ?hw ?_); (case hv => omega); (case hw => omega))
  | ((with_reducible refine' o_pow _ ?hv ?hw ?hx ?_); (case hv => exact rfl); (case hw => decide); (case hx => decide)))
local macro_rules | `(tactic| walk_at "i") => `(tactic| (first
  | ((with_reducible refine' isi_int true ?hv ?_); (case hv => exact (by decide +kernel)))
  | ((with_reducible refine' isi_int false ?hv ?_); (case hv => exact (by decide +kernel)))
  | ((with_reducible refine' isi_non true ?hv ?_); (case hv => exact (by decide +kernel)))
  | ((with_reducible refine' isi_non false ?hv ?_); (case hv => exact (by decide +kernel)))
  | ((with_reducible refine' isi_str true ?hv ?_); (case hv => exact (by decide +kernel)))
  | ((with_reducible refine' isi_str false ?hv ?_); (case hv => exact (by decide +kernel)))
  | ((with_reducible refine' isi_bl true ?hv ?_); (case hv => exact (by decide +kernel)))
  | ((with_reducible refine' isi_bl false ?hv ?_); (case hv => exact (by decide +kernel)))
  | ((with_reducible refine' isi_t true ?hw ?hv ?_); (case hw => assumption); (case hv => exact (by decide +kernel)))
  | ((with_reducible refine' isi_t false ?hw ?hv ?_); (case hw => assumption); (case hv => exact (by decide +kernel)))
  | ((with_reducible refine' isi_l true ?hw ?hv ?_); (case hw => assumption); (case hv => exact (by decide +kernel)))
  | ((with_reducible refine' isi_l false ?hw ?hv ?_); (case hw => assumption); (case hv => exact (by decide +kernel)))
  | ((with_reducible refine' isi_tup true ?hw ?hv ?_); (case hw => assumption); (case hv => exact (by decide +kernel)))
  | ((with_reducible refine' isi_tup false ?hw ?hv ?_); (case hw => assumption); (case hv => exact (by decide +kernel)))
  | ((with_reducible refine' isi_lst true ?hw ?hv ?_); (case hw => assumption); (case hv => exact (by decide +kernel)))
  | ((with_reducible refine' isi_lst false ?hw ?hv ?_); (case hw => assumption); (case hv => exact (by decide +kernel)))))
local macro_rules | `(tactic| walk_at "om") => `(tactic| first | omega | (simp only [List.length_cons, List.length_nil, List.length_map, List.length_append, List.length_range]; omega))
local macro_rules | `(tactic| walk_at "d") => `(tactic| (first
  | ((with_reducible refine' i_dt ?hv ?_); (case hv => walk_at "om"))
  | ((with_reducible refine' i_df ?hv ?_); (case hv => walk_at "om"))
  | ((with_reducible refine' i_ndt ?hv ?_); (case hv => walk_at "om"))
  | ((with_reducible refine' i_ndf ?hv ?_); (case hv => walk_at "om"))))
local macro_rules | `(tactic| walk_at "x") => `(tactic| first
  | ((with_reducible refine' o_ixA ?hv ?hw ?_); (case hv => assumption); (case hw => exact rfl))
  | ((with_reducible refine' o_ixU ?hv ?hw ?_); (case hv => assumption); (case hw => exact rfl))
  | ((with_reducible refine' o_ixL ?hv ?hw ?_); (case hv => assumption); (case hw => exact rfl))
  | ((with_reducible refine' o_ixT ?hv ?hw ?_); (case hv => assumption); (case hw => exact rfl))
  | ((with_reducible refine' set_ ?hv ?hw ?_); (case hv => assumption); (case hw => exact rfl))
  | ((with_reducible refine' e_lenM ?hv ?_); (case hv => first | assumption | exact slO (by assumption)))
  | ((with_reducible refine' e_lenN ?hv ?_); (case hv => first | assumption | exact stO (by assumption)))
  | ((with_reducible refine' e_lenL ?hv ?_); (case hv => first | assumption | exact slO (by assumption)))
  | ((with_reducible refine' e_lenT ?hv ?_); (case hv => first | assumption | exact stO (by assumption))))
local macro_rules | `(tactic| walk_at "c") => `(tactic| first
  | ((with_reducible refine' c_listL ?hv ?_); (case hv => assumption))
  | ((with_reducible refine' c_listT ?hv ?_); (case hv => assumption))
  | ((with_reducible refine' c_tupL ?hv ?_); (case hv => first | assumption | exact slO (by assumption)))
  | ((with_reducible refine' c_tupT ?hv ?_); (case hv => assumption))
  | ((with_reducible refine' t_lst ?hv ?_); (case hv => first | assumption | exact slO (by assumption)))
  | ((with_reducible refine' t_tup ?hv ?_); (case hv => assumption))
  | ((with_reducible refine' r_sl ?hv ?_); (case hv => first | assumption | exact slO (by assumption)))
  | ((with_reducible refine' o_inL ?hv ?_); (case hv => first | assumption | exact slO (by assumption)))
  | ((with_reducible refine' o_inT ?hv ?_); (case hv => first | assumption | exact stO (by assumption)))
  | ((with_reducible refine' o_niL ?hv ?_); (case hv => first | assumption | exact slO (by assumption)))
  | ((with_reducible refine' o_niT ?hv ?_); (case hv => first | assumption | exact stO (by assumption)))
  | ((with_reducible refine' ty_lst ?hv ?_); (case hv => assumption)))
local macro_rules | `(tactic| walk_at "mo") => `(tactic| repeat' (first | exact m_yes | exact m_var | exact m_c | exact m_I0 | exact m_I | exact m_ix | exact m_add | exact m_in | exact m_int1 | exact m_abs | exact m_nil | refine' m_and ?_ ?_ | refine' m_test ?_ | refine' m_tB ?_ | refine' m_op ?_ ?_ ?_ | refine' m_cons ?_ ?_ | refine' m_cb ?_ ?_))
local macro_rules | `(tactic| walk_at "go") => `(tactic| repeat' (first | walk_at "s" | walk_at "v" | walk_at "a" | walk_at "x" | walk_at "m" | walk_at "c" | walk_at "i" | walk_at "d"))

section
variable {P : Program} {w : World} {K : PySem.W.Frag} {mg : Str → Option Value} {base : Heap}
section
variable {S T : SD} {L : LD} {fi K n : Nat} {ks0 ks1 : List Kp} {c o : Nat → Option Pc}
/-! forced, reached -/
theorem fB_lies {b : Int} {x : Nat} (hx : x ≠ b.toNat) : ∀ (n : Nat) (S : SD), (SD.fB b n S).1.lies[x]? = S.lies[x]?
  | 0, S => rfl
  | n + 1, S => by
    unfold SD.fB
    split
    · rfl
    · next cc cs e =>
      split
      · rfl
      · rw [fB_lies hx n]
        show (S.lies.set b.toNat cc)[x]? = _
        rw [List.getElem?_set_ne (Ne.symm hx)]
theorem forceL_lies {x : Nat} : ∀ {ns : List Int} {S : SD}, S.pw = none → (∀ b ∈ ns, x ≠ b.toNat) → (SD.forceL ns S).1.lies[x]? = S.lies[x]?
  | [], S, _, _ => rfl
  | b :: bs, S, p, h => by
    have h1 := SD.fB_true (b := b) (S.rows b).length S p
    rw [SD.forceL_cons, if_pos (show (S.forceB b).2 = true from h1.1), forceL_lies (S := (S.forceB b).1) h1.2 fun q hq => h q (List.mem_cons_of_mem _ hq)]
    exact fB_lies (h b (by simp)) _ _
/-- the same log over another disk, some pieces more there -/
theorem Inv.down {m : Nat} {f : Option Int} {D : Nat → Prop} [DecidablePred D] (h : Inv S L fi K ks0 ks1 c o n) (okT : T.Ok) (pwT : T.pw = none) (ln : T.lies.length = S.lies.length) (l0 : T.lies[0]? = S.lies[0]?)
    (hD : ∀ k, D k → L.bk ≤ k ∧ k < L.nk)
    (t1 : ∀ k, D k → T.rows (blk L.ring k) = [] ∧ ∃ p, tp L k = some p ∧ T.lies[1 + k % L.ring]? = some p.ct)
    (t2 : ∀ k, L.bk ≤ k → k < L.bk + L.ring → ¬ D k → T.rows (blk L.ring k) = S.rows (blk L.ring k) ∧ T.lies[1 + k % L.ring]? = S.lies[1 + k % L.ring]?)
    (t3 : ∀ x, T.rows x ≠ [] → S.rows x ≠ []) (hm : m ≤ L.kept.length) (hs : ∀ k, L.bk ≤ k → k < L.fk m → k < L.fk n ∨ D k) : Inv T { L with fo := f } fi K ks0 ks1 (fun k => if D k then tp L k else c k) o m := by
  have hn := h.nk
  refine ⟨h.r4, by rw [ln]; exact h.r8, h.kp, h.ch0, h.ch1, h.nk, h.fie, by rw [l0]; exact h.l0, fun k k1 k2 => ?_, fun k k1 k2 => ?_, fun k k1 k2 => ?_, h.ol, h.on, h.de, fun x hx => h.out x (t3 x hx), pwT, okT, hm, fun k k1 k2 => ?_⟩
  · show T.lies[1 + k % L.ring]? = some (octs (if D k then tp L k else c k)) ∧ ∀ p, (if D k then tp L k else c k) = some p → _
    by_cases q : D k
    · obtain ⟨_, p, hp, hl⟩ := t1 k q
      have b := hD k q
      have e := h.tpK b.1 b.2 hp
      rw [if_pos q, hp]
      refine ⟨hl, fun p2 e2 => ?_⟩
      obtain rfl := Option.some.inj e2
      exact e.2.2.2
    · rw [if_neg q]
      have := t2 k k1 k2 q
      rw [this.2]
      exact h.li k k1 k2
  · have k2 : k < L.nk := k2
    have k1 : L.bk ≤ k := k1
    show ((if D k then tp L k else c k) = tp L k ∧ T.rows (blk L.ring k) = []) ∨ (K ≤ k ∧ filt k (if D k then tp L k else c k) = o k ∧ ∃ p, tp L k = some p ∧ T.rows (blk L.ring k) = [p.ct])
    by_cases q : D k
    · rw [if_pos q]
      exact .inl ⟨rfl, (t1 k q).1⟩
    · rw [if_neg q]
      have := t2 k k1 (by omega) q
      rw [this.1]
      exact h.dn k k1 k2
  · have k1 : L.nk ≤ k := k1
    have k2 : k < L.bk + L.ring := k2
    have q : ¬ D k := fun z => by have := hD k z; omega
    have hg := h.ch.ge
    show filt k (if D k then tp L k else c k) = o k ∧ T.rows (blk L.ring k) = []
    rw [if_neg q]
    have := t2 k (by omega) k2 q
    rw [this.1]
    exact h.up k k1 k2
  · have k1 : L.bk ≤ k := k1
    have k2 : k < L.fk m := k2
    show (if D k then tp L k else c k) = tp L k ∧ T.rows (blk L.ring k) = []
    by_cases q : D k
    · rw [if_pos q]; exact ⟨rfl, (t1 k q).1⟩
    · rw [if_neg q]
      have hf := h.mono (i := m) (j := L.kept.length) hm (Nat.le_refl _)
      rw [h.fkE] at hf
      have := t2 k k1 (by omega) q
      rw [this.1]
      exact h.sure k k1 ((hs k k1 k2).resolve_right q)
theorem Inv.forced {i : Nat} {f : Option Int} {ns : List Int} (h : Inv S L fi K ks0 ks1 c o n) (hi : i < L.kept.length) (hn : n < i + 1) (hp : ns.Perm (ringBs L.ring (L.fk n) (L.fk (i + 1) - L.fk n))) : Inv (SD.forceL ns S).1 { L with fo := f } fi K ks0 ks1 (fun k => if L.fk n ≤ k ∧ k < L.fk (i + 1) then tp L k else c k) o (i + 1) := by
  have a := forceL_after (ns := ns) h.ok h.pw
  have r4 := h.r4
  have m1 := h.mono (i := i + 1) (j := L.kept.length) hi (Nat.le_refl _)
  have m0 := h.mono (i := 0) (j := n) (Nat.zero_le _) h.su
  have m2 := h.mono (i := n) (j := i + 1) (by omega) hi
  rw [h.fkE] at m1
  rw [h.fk0] at m0
  have hnk := h.nk
  have mem : ∀ k, L.bk ≤ k → k < L.bk + L.ring → (blk L.ring k ∈ ns ↔ L.fk n ≤ k ∧ k < L.fk (i + 1)) := fun k k1 k2 => by
    rw [hp.mem_iff]
    constructor
    · intro m
      obtain ⟨j, hj, e⟩ := List.mem_map.mp m
      have hj := List.mem_range.mp hj
      have : L.fk n + j = k := win_inj (r := L.ring) (b := L.bk) (by
        unfold blk at e
        omega) (by omega) (by omega) k1 k2
      omega
    · intro ⟨q1, q2⟩
      refine List.mem_map.mpr ⟨k - L.fk n, List.mem_range.mpr (by omega), ?_⟩
      rw [show L.fk n + (k - L.fk n) = k by omega]; rfl
  have pos : ∀ b ∈ ns, 1 ≤ b := fun b hb => (ringBs_in (r := L.ring) (a := L.fk n) (n := L.fk (i + 1) - L.fk n) (by omega) b (hp.mem_iff.mp hb)).1
  have rows := fun x => forceL_rows (x := x) ns S h.pw
  refine h.down (T := (SD.forceL ns S).1) (m := i + 1) (f := f) (D := fun k => L.fk n ≤ k ∧ k < L.fk (i + 1)) a.ok a.pw a.ln (forceL_lies h.pw fun b hb => by have := pos b hb; omega) (fun k q => by omega) (fun k q => ?_) (fun k k1 k2 q => ?_) (fun x hx z => ?_) hi (fun k k1 k2 => by omega)
  · have k1 : L.bk ≤ k := by omega
    have k2 : k < L.nk := by omega
    have hb := (mem k k1 (by omega)).mpr q
    have re : (SD.forceL ns S).1.rows (blk L.ring k) = [] := by rw [rows, if_pos hb]
    refine ⟨re, ?_⟩
    obtain ⟨p, hp2⟩ := h.tpSome k1 k2
    refine ⟨p, hp2, ?_⟩
    have sh := a.sh (blk L.ring k) (by have := pos _ hb; omega)
    rw [shows_lies re, blk_nat] at sh
    rw [sh]
    unfold SD.shows
    rcases h.dn k k1 k2 with ⟨d1, d2⟩ | ⟨d0, d1, p2, d2, d3⟩
    · rw [if_pos d2, blk_nat, (h.li k k1 (by omega)).1, d1, hp2]; rfl
    · rw [hp2] at d2
      obtain rfl := Option.some.inj d2
      rw [d3, if_neg (by simp)]; rfl
  · have hb : blk L.ring k ∉ ns := fun m => q ((mem k k1 k2).mp m)
    refine ⟨by rw [rows, if_neg hb], forceL_lies h.pw fun b hm e => hb ?_⟩
    have := pos b hm
    have : blk L.ring k = b := by
      unfold blk
      omega
    rw [this]; exact hm
  · rw [rows] at hx
    split at hx
    · exact hx rfl
    · exact hx z
theorem Inv.reach {b : Int} {x : Ct} {cs : List Ct} (h : Inv S L fi K ks0 ks1 c o n) (e : S.rows b = x :: cs) : ∃ k, L.bk ≤ k ∧ k < L.nk ∧ b = blk L.ring k ∧ cs = [] ∧ Inv (S.got b x cs) L fi K ks0 ks1 (fun j => if j = k then tp L j else c j) o n := by
  have ho := h.out b (by rw [e]; simp)
  obtain ⟨k, k1, k2, k3⟩ := win (r := L.ring) (i := (b - 1).toNat) L.bk (by omega)
  have eb : b = blk L.ring k := by unfold blk; omega
  have h2 : k < L.nk := by
    by_cases q : k < L.nk
    · exact q
    · have := (h.up k (by omega) k2).2
      rw [← eb, e] at this; cases this
  rcases h.dn k k1 h2 with ⟨d1, d2⟩ | ⟨d0, d1, p, d2, d3⟩
  · rw [← eb, e] at d2; cases d2
  · rw [← eb, e] at d3
    obtain ⟨rfl, rfl⟩ := List.cons.inj d3
    have bnat : b.toNat = 1 + k % L.ring := by rw [eb, blk_nat]
    have ne : ∀ j, L.bk ≤ j → j < L.bk + L.ring → j ≠ k → blk L.ring j ≠ b := fun j j1 j2 q => by
      rw [eb]
      exact blk_ne j1 j2 k1 k2 q
    have hlt : 1 + k % L.ring < S.lies.length := by
      have := Nat.mod_lt k (show 0 < L.ring by have := h.r4; omega)
      have := h.r8
      omega
    refine ⟨k, k1, h2, eb, rfl, ?_⟩
    refine h.down (T := S.got b p.ct []) (m := n) (f := L.fo) (D := fun j => j = k) (SD.got_ok h.ok e (by rw [h.pw]; simp)) (by show S.pw.map _ = none; rw [h.pw]; rfl) (by show (S.lies.set _ _).length = _; rw [List.length_set]) (by show (S.lies.set _ _)[0]? = _; rw [List.getElem?_set_ne (by omega)]) (fun j q => by omega) (fun j q => ?_) (fun j j1 j2 q => ?_) (fun y hy z => ?_) h.su (fun j j1 j2 => .inl j2)
    · subst q
      refine ⟨?_, p, d2, ?_⟩
      · show (if blk L.ring j = b then [] else S.rows _) = []
        rw [if_pos eb.symm]
      · show (S.lies.set b.toNat p.ct)[1 + j % L.ring]? = _
        rw [bnat, List.getElem?_set_self hlt]
    · have hb := ne j j1 j2 q
      refine ⟨?_, ?_⟩
      · show (if blk L.ring j = b then [] else S.rows _) = _
        rw [if_neg hb]
      · show (S.lies.set b.toNat p.ct)[1 + j % L.ring]? = _
        rw [List.getElem?_set_ne]
        intro z
        refine hb ?_
        unfold blk
        omega
    · have hy : (if y = b then ([] : List Ct) else S.rows y) ≠ [] := hy
      split at hy
      · exact hy rfl
      · exact hy z
end
end
end Vw

set_option Elab.async false
set_option linter.all false
set_option maxRecDepth 100000
set_option maxHeartbeats 4000000
namespace Vw
open PySem PySem.Spec PyProof.Rows L2 RT
local macro_rules | `(tactic| walk_at "s") => `(tactic| with_reducible first
  | refine' s_seq ?_ | refine' s_next ?_ | refine' s_set ?_ | refine' s_ret ?_ | refine' s_retN ?_ | refine' s_drop ?_ | refine' s_if ?_ | refine' s_ipI ?_
  | refine' e_c ?_ | refine' e_op ?_ | refine' e_un ?_ | refine' e_neg ?_ | refine' e_test ?_ | refine' e_tB ?_ | refine' e_bl ?_ | refine' e_and ?_ | refine' e_or ?_ | refine' e_not ?_
  | refine' e_andV ?_ | refine' e_orV ?_ | refine' e_notV ?_ | refine' e_kV ?_ | refine' e_ife ?_ | refine' e_nil ?_ | refine' e_cons ?_ | refine' e_cb ?_ | refine' e_call ?_ | refine' e_chain ?_
  | refine' o_addI ?_ | refine' o_eqI ?_ | refine' o_neI ?_ | refine' o_I0 ?_ | refine' o_pow16 ?_ | refine' o_pow17 ?_ | refine' o_pow18 ?_ | refine' o_pow19 ?_ | refine' o_pow30 ?_ | refine' o_pow31 ?_ | refine' o_pow1 ?_ | refine' o_pow2 ?_ | refine' o_pow3 ?_ | refine' o_pow4 ?_ | refine' o_pow5 ?_ | refine' o_pow6 ?_ | refine' o_pow9 ?_ | refine' o_pow10 ?_ | refine' o_pow12 ?_ | refine' o_pow15 ?_ | refine' o_pow20 ?_ | refine' e_lst ?_ | refine' e_tup ?_ | refine' iteT ?_ | refine' i_nt ?_ | refine' i_nf ?_ | refine' iteF ?_ | refine' c_int ?_ | refine' c_abs ?_ | refine' c_min2 ?_ | refine' c_max2 ?_ | refine' e_tru ?_ | refine' t_bl ?_ | refine' t_non ?_ | refine' t_int ?_ | refine' isN_non ?_ | refine' isN_int ?_ | refine' isN_ref ?_ | refine' isN_str ?_ | refine' isN_bl ?_ | refine' noN_non ?_ | refine' noN_int ?_ | refine' noN_ref ?_ | refine' noN_str ?_ | refine' noN_bl ?_
  | refine' s_brk ?_ | refine' s_cont ?_ | refine' s_for ?_ | refine' e_lc ?_ | refine' e_dc ?_ | refine' e_yes ?_ | refine' i_rng1 ?_ | refine' i_lst0 ?_ | refine' i_tup0 ?_ | refine' e_bm ?_ | refine' e_sl ?_ | refine' e_np ?_ | refine' e_pt ?_ | refine' e_ptI ?_ | refine' e_din ?_ | refine' e_dnin ?_ | refine' e_methE ?_ | refine' p_cons ?_ | refine' p_nil ?_ | refine' s_dput ?_ | refine' e_dget2 ?_ | refine' e_dpop1 ?_ | refine' i_enum0 ?_ | refine' i_rev0 ?_ | refine' g_sub ?_ | refine' s_asg ?_ | refine' i_zip0 ?_ | refine' e_revT ?_ | refine' isB_bl ?_ | refine' notB_bl ?_ | refine' o_neB ?_ | refine' i_nrr ?_ | refine' e_meth ?_ | refine' s_setf ?_ | refine' e_fld ?_ | refine' e_bm0 ?_ | refine' r_tx ?_ | refine' o_eqStr ?_ | refine' o_neStr ?_)
local macro_rules | `(tactic| walk_at "v") => `(tactic| ((with_reducible refine' e_var ?hv ?_); (case hv => exact rfl)))
local macro_rules | `(tactic| walk_at "a") => `(tactic| ((with_reducible refine' s_aug ?hv ?_); (case hv => exact rfl)))
local macro_rules | `(tactic| walk_at "m") => `(tactic| first
  | ((with_reducible refine' o_mod ?hv ?_); (case hv => first | decide | omega))
  | ((with_reducible refine' o_mulR ?hv ?_); (case hv => omega))
  | ((with_reducible refine' o_mulL ?hv ?_); (case hv => omega))
  | ((with_reducible refine' o_div ?hv ?hw ?_); (case hv => omega); (case hw => omega))
  | ((with_reducible refine' o_pow _ ?hv ?hw ?hx ?_); (case hv => exact rfl); (case hw => decide); (case hx => decide)))
local macro_rules | `(tactic| walk_at "i") => `(tactic| (first
  | ((with_reducible refine' isi_int true ?hv ?_); (case hv => exact (by decide +kernel)))
  | ((with_reducible refine' isi_int false ?hv ?_); (case hv => exact (by decide +kernel)))
  | ((with_reducible refine' isi_non true ?hv ?_); (case hv => exact (by decide +kernel)))
  | ((with_reducible refine' isi_non false ?hv ?_); (case hv => exact (by decide +kernel)))
  | ((with_reducible refine' isi_str true ?hv ?_); (case hv => exact (by decide +kernel)))
  | ((with_reducible refine' isi_str false ?hv ?_); (case hv => exact (by decide +kernel)))
  | ((with_reducible refine' isi_bl true ?hv ?_); (case hv => exact (by decide +kernel)))
  | ((with_reducible refine' isi_bl false ?hv ?_); (case hv => exact (by decide +kernel)))
  | ((with_reducible refine' isi_t true ?hw ?hv ?_); (case hw => assumption); (case hv => exact (by decide +kernel)))
  | ((with_reducible refine' isi_t false ?hw ?hv ?_); (case hw => assumption); (case hv => exact (by decide +kernel)))
  | ((with_reducible refine' isi_l true ?hw ?hv ?_); (case hw => assumption); (case hv => exact (by decide +kernel)))
  | ((with_reducible refine' isi_l false ?hw ?hv ?_); (case hw => assumption); (case hv => exact (by decide +kernel)))
  | ((with_reducible refine' isi_tup true ?hw ?hv ?_); (case hw => assumption); (case hv => exact (by decide +kernel)))
  | ((with_reducible refine' isi_tup false ?hw ?hv ?_); (case hw => assumption); (case hv => exact (by decide +kernel)))
  | ((with_reducible refine' isi_lst true ?hw ?hv ?_); (case hw => assumption); (case hv => exact (by decide +kernel)))
  | ((with_reducible refine' isi_lst false ?hw ?hv ?_); (case hw => assumption); (case hv => exact (by decide +kernel)))))
local macro_rules | `(tactic| walk_at "om") => `(tactic| first | omega | (simp only [List.length_cons, List.length_nil, List.length_map, List.length_append, List.length_range]; omega))
local macro_rules | `(tactic| walk_at "d") => `(tactic| (first
  | ((with_reducible refine' i_dt ?hv ?_); (case hv => walk_at "om"))
  | ((with_reducible refine' i_df ?hv ?_); (case hv => walk_at "om"))
  | ((with_reducible refine' i_ndt ?hv ?_); (case hv => walk_at "om"))
  | ((with_reducible refine' i_ndf ?hv ?_); (case hv => walk_at "om"))))
local macro_rules | `(tactic| walk_at "x") => `(tactic| first
  | ((with_reducible refine' o_ixA ?hv ?hw ?_); (case hv => assumption); (case hw => exact rfl))
  | ((with_reducible refine' o_ixU ?hv ?hw ?_); (case hv => assumption); (case hw => exact rfl))
  | ((with_reducible refine' o_ixL ?hv ?hw ?_); (case hv => assumption); (case hw => exact rfl))
  | ((with_reducible refine' o_ixT ?hv ?hw ?_); (case hv => assumption); (case hw => exact rfl))
  | ((with_reducible refine' set_ ?hv ?hw ?_); (case hv => assumption); (case hw => exact rfl))
  | ((with_reducible refine' e_lenM ?hv ?_); (case hv => first | assumption | exact slO (by assumption)))
  | ((with_reducible refine' e_lenN ?hv ?_); (case hv => first | assumption | exact stO (by assumption)))
  | ((with_reducible refine' e_lenL ?hv ?_); (case hv => first | assumption | exact slO (by assumption)))
  | ((with_reducible refine' e_lenT ?hv ?_); (case hv => first | assumption | exact stO (by assumption))))
local macro_rules | `(tactic| walk_at "c") => `(tactic| first
  | ((with_reducible refine' c_listL ?hv ?_); (case hv => assumption))
  | ((with_reducible refine' c_listT ?hv ?_); (case hv => assumption))
  | ((with_reducible refine' c_tupL ?hv ?_); (case hv => first | assumption | exact slO (by assumption)))
  | ((with_reducible refine' c_tupT ?hv ?_); (case hv => assumption))
  | ((with_reducible refine' t_lst ?hv ?_); (case hv => first | assumption | exact slO (by assumption)))
  | ((with_reducible refine' t_tup ?hv ?_); (case hv => assumption))
  | ((with_reducible refine' r_sl ?hv ?_); (case hv => first | assumption | exact slO (by assumption)))
  | ((with_reducible refine' o_inL ?hv ?_); (case hv => first | assumption | exact slO (by assumption)))
  | ((with_reducible refine' o_inT ?hv ?_); (case hv => first | assumption | exact stO (by assumption)))
  | ((with_reducible refine' o_niL ?hv ?_); (case hv => first | assumption | exact slO (by assumption)))
  | ((with_reducible refine' o_niT ?hv ?_); (case hv => first | assumption | exact stO (by assumption)))
  | ((with_reducible refine' ty_lst ?hv ?_); (case hv => assumption)))
local macro_rules | `(tactic| walk_at "mo") => `(tactic| repeat' (first | exact m_yes | exact m_var | exact m_c | exact m_I0 | exact m_I | exact m_ix | exact m_add | exact m_in | exact m_int1 | exact m_abs | exact m_nil | refine' m_and ?_ ?_ | refine' m_test ?_ | refine' m_tB ?_ | refine' m_op ?_ ?_ ?_ | refine' m_cons ?_ ?_ | refine' m_cb ?_ ?_))
local macro_rules | `(tactic| walk_at "go") => `(tactic| repeat' (first | walk_at "s" | walk_at "v" | walk_at "a" | walk_at "x" | walk_at "m" | walk_at "c" | walk_at "i" | walk_at "d"))

section
variable {P : Program} {w : World} {K : PySem.W.Frag} {mg : Str → Option Value} {base : Heap}
theorem dead_mf {M M' : Mst} {o : Nat → Option Pc} (hm : M'.m = M.m) (hf : M'.f = M.f) : ∀ {n k : Nat} {q : Option Pc}, Dead M o n q k → Dead M' o n q k
  | 0, _, _, _ => trivial
  | n + 1, k, q, h => fun p e f => by
    have e2 : firstB M q p = firstB M' q p := by
      cases q with
      | none =>
        show (decide (p.r = M.m) && decide (M.f ≤ p.e)) = (decide (p.r = M'.m) && decide (M'.f ≤ p.e))
        rw [hm, hf]
      | some q => rfl
    rw [← e2] at f
    exact ⟨(h p e f).1, dead_mf hm hf (h p e f).2⟩
section
variable {S T : SD} {L : LD} {fi K n : Nat} {ks0 ks1 : List Kp} {c o : Nat → Option Pc}
/-! ### the log begins later -/
def LD.start (L : LD) (i : Nat) : LD := { L with bg := L.bg + i, bk := L.fk i, kept := L.kept.drop i }
theorem start_fk {i j : Nat} : (L.start i).fk j = L.fk (i + j) := by
  show fkL (L.kept.drop i) L.nk j = fkL L.kept L.nk (i + j)
  unfold fkL
  rw [List.getElem?_drop]
theorem Chn.drop_len {E k e z i : Nat} {ks : List Kp} (h : Chn E k e ks z) (hi : i ≤ ks.length) (no : Nat) : k + (pcsL no (ks.take i)).length = fkL ks z i := by
  have := (h.take hi).len (no := no)
  omega
theorem start_tp {E e i k : Nat} (h : Chn E L.bk e L.kept L.nk) (hi : i ≤ L.kept.length) (hk : L.fk i ≤ k) : tp (L.start i) k = tp L k := by
  have hl := h.drop_len hi L.bg
  have hl : L.bk + (pcsL L.bg (L.kept.take i)).length = L.fk i := hl
  show (pcsL (L.bg + i) (L.kept.drop i))[k - L.fk i]? = (pcsL L.bg L.kept)[k - L.bk]?
  have e : pcsL L.bg L.kept = pcsL L.bg (L.kept.take i) ++ pcsL (L.bg + i) (L.kept.drop i) := by
    have := pcsL_app (as := L.kept.take i) (bs := L.kept.drop i) (no := L.bg)
    rw [List.take_append_drop, List.length_take, show min i L.kept.length = i by omega] at this
    exact this
  rw [e, List.getElem?_append_right (by omega), show k - L.bk - (pcsL L.bg (L.kept.take i)).length = k - L.fk i by omega]
theorem pcsL_ne {no : Nat} {ks : List Kp} {E k e z : Nat} (h : Chn E k e ks z) (ne : ks ≠ []) : pcsL no ks ≠ [] := by
  cases ks with
  | nil => exact absurd rfl ne
  | cons r rs =>
    obtain ⟨_, _, _, h4, _⟩ := h
    intro q
    have := cutN_pos h4
    have hl : (pcsL no (r :: rs)).length = 0 := by rw [q]; rfl
    have : (pcsR r.2.1 r.2.2 no r.1 ++ pcsL (no + 1) rs).length = 0 := hl
    rw [List.length_append, pcsR_len] at this
    omega
theorem Inv.start {i : Nat} (h : Inv S L fi K ks0 ks1 c o n) (hi : i ≤ L.kept.length) (hin : i ≤ n) (okT : T.Ok) (pwT : T.pw = none) (ln : T.lies.length = S.lies.length) (l0 : T.lies[0]? = some (Mst.ct (mAt (L.start i) (epAt L.ep L.kept i)))) (r0 : T.rows 0 = [])
    (tl : ∀ x : Nat, 1 ≤ x → T.lies[x]? = S.lies[x]?) (tr : ∀ x : Int, x ≠ 0 → T.rows x = S.rows x) : ∃ K' ks0' ks1' c', Inv T (L.start i) (epAt L.ep L.kept i) K' ks0' ks1' c' o (n - i) := by
  have r4 := h.r4
  have hnk := h.nk
  have hf0 := h.mono (i := 0) (j := i) (Nat.zero_le _) hi
  have hfi := h.mono (i := i) (j := n) hin h.su
  have hfn := h.mono (i := n) (j := L.kept.length) h.su (Nat.le_refl _)
  rw [h.fk0] at hf0
  rw [h.fkE] at hfn
  have fie : epAt L.ep L.kept i ≤ L.ep := by
    unfold epAt
    split
    · next r e => exact (h.recs r (List.mem_of_getElem? e)).2
    · exact Nat.le_refl _
  have cc : ∃ K' ks0' ks1', K' ≤ max K (L.fk i) ∧ (L.start i).kept = ks0' ++ ks1' ∧ Chn L.ep (L.fk i) (epAt L.ep L.kept i) ks0' K' ∧ Chn L.ep K' L.ep ks1' L.nk ∧ ∀ n, Dead (mAt (L.start i) (epAt L.ep L.kept i)) o n (pcsL (L.bg + i) ks0').getLast? K' := by
    by_cases hA : i < ks0.length
    · have g0 : L.kept[i]? = ks0[i]? := by rw [h.kp, List.getElem?_append_left hA]
      have ef : fkL ks0 K i = L.fk i := by
        show fkL ks0 K i = fkL L.kept L.nk i
        unfold fkL
        rw [g0, List.getElem?_eq_getElem hA]
      have ee : epAt L.ep ks0 i = epAt L.ep L.kept i := by unfold epAt; rw [g0]
      have c0 := h.ch0.drop (i := i) (Nat.le_of_lt hA)
      rw [ef, ee] at c0
      refine ⟨K, ks0.drop i, ks1, Nat.le_max_left _ _, ?_, c0, h.ch1, fun n => ?_⟩
      · show L.kept.drop i = _
        rw [h.kp, List.drop_append_of_le_length (Nat.le_of_lt hA)]
      · have ne : pcsL (L.bg + i) (ks0.drop i) ≠ [] := pcsL_ne c0 fun z => by
          have := List.drop_eq_nil_iff.mp z
          omega
        have e : (pcsL L.bg ks0).getLast? = (pcsL (L.bg + i) (ks0.drop i)).getLast? := by
          have := pcsL_app (as := ks0.take i) (bs := ks0.drop i) (no := L.bg)
          rw [List.take_append_drop, List.length_take, show min i ks0.length = i by omega] at this
          rw [this, List.getLast?_append]
          cases q : (pcsL (L.bg + i) (ks0.drop i)).getLast? with
          | none => exact absurd (List.getLast?_eq_none_iff.mp q) ne
          | some p => rfl
        have d := h.de n
        rw [e] at d
        cases q : (pcsL (L.bg + i) (ks0.drop i)).getLast? with
        | none => exact absurd (List.getLast?_eq_none_iff.mp q) ne
        | some p =>
          rw [q] at d
          exact dead_M d
    · have ee : epAt L.ep L.kept i = L.ep := by
        unfold epAt
        split
        · next r e => exact h.new e (by omega)
        · rfl
      have gd : ∀ j, L.kept[ks0.length + j]? = ks1[j]? := fun j => by rw [h.kp, List.getElem?_append_right (by omega), show ks0.length + j - ks0.length = j by omega]
      have lk : L.kept.length = ks0.length + ks1.length := by rw [h.kp, List.length_append]
      have gi : L.kept[i]? = ks1[i - ks0.length]? := by rw [← gd, show ks0.length + (i - ks0.length) = i by omega]
      have ef : fkL ks1 L.nk (i - ks0.length) = L.fk i := by
        show fkL ks1 L.nk (i - ks0.length) = fkL L.kept L.nk i
        unfold fkL
        rw [gi]
      have e1 : epAt L.ep ks1 (i - ks0.length) = L.ep := by
        have := ee
        unfold epAt at this ⊢
        rw [← gi]; exact this
      have c1 := h.ch1.drop (i := i - ks0.length) (by omega)
      rw [ef, e1] at c1
      refine ⟨L.fk i, [], ks1.drop (i - ks0.length), Nat.le_max_right _ _, ?_, rfl, c1, fun n => ?_⟩
      · show L.kept.drop i = [] ++ _
        rw [h.kp, List.drop_append, List.drop_eq_nil_of_le (by omega)]
      · refine dead_stop (fun p hp => ?_) n
        show (decide (p.r = L.bg + i) && decide (epAt L.ep L.kept i ≤ p.e)) = false
        rw [ee, decide_eq_false (show ¬ L.ep ≤ p.e by have := (h.ol _ p hp).2; omega), Bool.and_false]
  obtain ⟨K', ks0', ks1', hK, ek, c0, c1, de⟩ := cc
  have md : ∀ k, L.ring ≤ k → (k - L.ring) % L.ring = k % L.ring := fun k hk => by
    have e : k = (k - L.ring) + L.ring := by omega
    have := Nat.add_mod_right (k - L.ring) L.ring
    rw [← e] at this
    exact this.symm
  have bpos : ∀ k, blk L.ring k ≠ 0 := fun k => by unfold blk; omega
  refine ⟨K', ks0', ks1', fun k => if k < L.bk + L.ring then c k else c (k - L.ring), h.r4, by rw [ln]; exact h.r8, ek, c0, c1, by show L.nk ≤ L.fk i + L.ring; omega, fie, l0, fun k k1 k2 => ?_, fun k k1 k2 => ?_, fun k k1 k2 => ?_, h.ol, fun k hk => h.on k (by have hk : L.fk i + L.ring ≤ k := hk; omega), de, fun x hx => ?_, pwT, okT, ?_, fun k k1 k2 => ?_⟩
  · have k1 : L.fk i ≤ k := k1
    have k2 : k < L.fk i + L.ring := k2
    show T.lies[1 + k % L.ring]? = some (octs (if k < L.bk + L.ring then c k else c (k - L.ring))) ∧ ∀ p, (if k < L.bk + L.ring then c k else c (k - L.ring)) = some p → _
    rw [tl _ (by omega)]
    by_cases q : k < L.bk + L.ring
    · rw [if_pos q]
      exact h.li k (by omega) q
    · rw [if_neg q]
      have := h.li (k - L.ring) (by omega) (by omega)
      rw [md k (by omega)] at this
      exact this
  · have k1 : L.fk i ≤ k := k1
    have k2 : k < L.nk := k2
    show ((if k < L.bk + L.ring then c k else c (k - L.ring)) = tp (L.start i) k ∧ T.rows (blk L.ring k) = []) ∨ (K' ≤ k ∧ filt k (if k < L.bk + L.ring then c k else c (k - L.ring)) = o k ∧ ∃ p, tp (L.start i) k = some p ∧ T.rows (blk L.ring k) = [p.ct])
    rw [if_pos (by omega), start_tp h.ch hi k1, tr _ (bpos k)]
    refine (h.dn k (by omega) k2).imp id fun q => ⟨by omega, q.2⟩
  · have k1 : L.nk ≤ k := k1
    have k2 : k < L.fk i + L.ring := k2
    show filt k (if k < L.bk + L.ring then c k else c (k - L.ring)) = o k ∧ T.rows (blk L.ring k) = []
    rw [tr _ (bpos k)]
    by_cases q : k < L.bk + L.ring
    · rw [if_pos q]
      exact h.up k k1 q
    · rw [if_neg q]
      obtain ⟨s1, s2⟩ := h.sure (k - L.ring) (by omega) (by omega)
      obtain ⟨p, hp⟩ := h.tpSome (k := k - L.ring) (by omega) (by omega)
      have pk := (h.tpK (by omega) (by omega) hp).1
      have eb : blk L.ring (k - L.ring) = blk L.ring k := by unfold blk; rw [md k (by omega)]
      rw [eb] at s2
      rw [s1, hp, filt_ne (by omega), h.on k (by omega)]
      exact ⟨rfl, s2⟩
  · by_cases q : x = 0
    · rw [q] at hx; exact absurd r0 hx
    · rw [tr x q] at hx
      exact h.out x hx
  · show n - i ≤ (L.kept.drop i).length
    rw [List.length_drop]
    have := h.su
    omega
  · have k1 : L.fk i ≤ k := k1
    rw [start_fk, show i + (n - i) = n by omega] at k2
    show (if k < L.bk + L.ring then c k else c (k - L.ring)) = tp (L.start i) k ∧ T.rows (blk L.ring k) = []
    rw [if_pos (by omega), start_tp h.ch hi k1, tr _ (bpos k)]
    exact h.sure k (by omega) k2
/-! ### between two lives -/
def oo (L : LD) (c : Nat → Option Pc) (k : Nat) : Option Pc := if L.nk ≤ k ∧ k < L.bk + L.ring then filt k (c k) else none
structure Closed (S : SD) (L : LD) (fi : Nat) (c : Nat → Option Pc) : Prop where
  r4 : 4 ≤ L.ring
  r8 : L.ring + 8 ≤ S.lies.length
  ch : Chn L.ep L.bk fi L.kept L.nk
  nk : L.nk ≤ L.bk + L.ring
  fie : fi ≤ L.ep
  l0 : S.lies[0]? = some (Mst.ct (mAt L fi))
  li : ∀ k, L.bk ≤ k → k < L.bk + L.ring → S.lies[1 + k % L.ring]? = some (octs (c k)) ∧ ∀ p, c k = some p → p.xs ≠ [] ∧ p.xs.length ≤ 36
  rows : ∀ x, S.rows x = []
  tr : ∀ k, L.bk ≤ k → k < L.nk → c k = tp L k
  oe : ∀ k p, oo L c k = some p → p.e ≤ L.ep
  de : ∀ n, Dead (mAt L fi) (oo L c) n (pcsL L.bg L.kept).getLast? L.nk
  pw : S.pw = none
  ok : S.Ok
theorem oo_k {L : LD} {c : Nat → Option Pc} {k : Nat} {p : Pc} (h : oo L c k = some p) : p.k = k ∧ L.nk ≤ k ∧ k < L.bk + L.ring ∧ c k = some p := by
  unfold oo at h
  split at h
  · next q => exact ⟨(filt_some h).2, q.1, q.2, (filt_some h).1⟩
  · cases h
theorem Inv.cutN_le (h : Inv S L fi K ks0 ks1 c o n) {m : Nat} (ly : LyC S L m) : n ≤ m ∧ ks0.length ≤ m := by
  have su := h.su
  have lk : L.kept.length = ks0.length + ks1.length := by rw [h.kp, List.length_append]
  by_cases q : m < L.kept.length
  · obtain ⟨wv, hw, ne⟩ := ly.no q
    obtain ⟨k, p, k1, k2, k3, k4, hp, rfl⟩ := h.rp q hw
    rw [blk_nat] at ne
    have nc : ¬ c k = some p := fun z => ne ((h.lieNe k1 k2 hp).mpr z)
    refine ⟨?_, ?_⟩
    · by_cases z : n ≤ m
      · exact z
      · exfalso
        have := h.mono (i := m + 1) (j := n) (by omega) su
        exact nc (((h.sure k k1 (by omega)).1).trans hp)
    · by_cases z : ks0.length ≤ m
      · exact z
      · exfalso
        have := h.mono (i := m + 1) (j := ks0.length) (by omega) (by omega)
        rw [h.fkK] at this
        rcases h.dn k k1 k2 with d | d
        · exact nc (d.1.trans hp)
        · omega
  · have := ly.le
    omega
end
end
end Vw

set_option Elab.async false
set_option linter.all false
set_option maxRecDepth 100000
set_option maxHeartbeats 4000000
namespace Vw
open PySem PySem.Spec PyProof.Rows L2 RT
local macro_rules | `(tactic| walk_at "s") => `(tactic| with_reducible first
  | refine' s_seq ?_ | refine' s_next ?_ | refine' s_set ?_ | refine' s_ret ?_ | refine' s_retN ?_ | refine' s_drop ?_ | refine' s_if ?_ | refine' s_ipI ?_
  | refine' e_c ?_ | refine' e_op ?_ | refine' e_un ?_ | refine' e_neg ?_ | refine' e_test ?_ | refine' e_tB ?_ | refine' e_bl ?_ | refine' e_and ?_ | refine' e_or ?_ | refine' e_not ?_
  | refine' e_andV ?_ | refine' e_orV ?_ | refine' e_notV ?_ | refine' e_kV ?_ | refine' e_ife ?_ | refine' e_nil ?_ | refine' e_cons ?_ | refine' e_cb ?_ | refine' e_call ?_ | refine' e_chain ?_
  | refine' o_addI ?_ | refine' o_eqI ?_ | refine' o_neI ?_ | refine' o_I0 ?_ | refine' o_pow16 ?_ | refine' o_pow17 ?_ | refine' o_pow18 ?_ | refine' o_pow19 ?_ | refine' o_pow30 ?_ | refine' o_pow31 ?_ | refine' o_pow1 ?_ | refine' o_pow2 ?_ | refine' o_pow3 ?_ | refine' o_pow4 ?_ | refine' o_pow5 ?_ | refine' o_pow6 ?_ | refine' o_pow9 ?_ | refine' o_pow10 ?_ | refine' o_pow12 ?_ | refine' o_pow15 ?_ | refine' o_pow20 ?_ | refine' e_lst ?_ | refine' e_tup ?_ | refine' iteT ?_ | refine' i_nt ?_ | refine' i_nf ?_ | refine' iteF ?_ | refine' c_int ?_ | refine' c_abs ?_ | refine' c_min2 ?_ | refine' c_max2 ?_ | refine' e_tru ?_ | refine' t_bl ?_ | refine' t_non ?_ | refine' t_int ?_ | refine' isN_non ?_ | refine' isN_int ?_ | refine' isN_ref ?_ | refine' isN_str ?_ | refine' isN_bl ?_ | refine' noN_non ?_ | refine' noN_int ?_ | refine' noN_ref ?_ | refine' noN_str ?_ | refine' noN_bl ?_
  | refine' s_brk ?_ | refine' s_cont ?_ | refine' s_for ?_ | refine' e_lc ?_ | refine' e_dc ?_ | refine' e_yes ?_ | refine' i_rng1 ?_ | refine' i_lst0 ?_ | refine' i_tup0 ?_ | refine' e_bm ?_ | refine' e_sl ?_ | refine' e_np ?_ | refine' e_pt ?_ | refine' e_ptI ?_ | refine' e_din ?_ | refine' e_dnin ?_ | refine' e_methE ?_ | refine' p_cons ?_ | refine' p_nil ?_ | refine' s_dput ?_ | refine' e_dget2 ?_ | refine' e_dpop1 ?_ | refine' i_enum0 ?_ | refine' i_rev0 ?_ | refine' g_sub ?_ | refine' s_asg ?_ | refine' i_zip0 ?_ | refine' e_revT ?_ | refine' isB_bl ?_ | refine' notB_bl ?_ | refine' o_neB ?_ | refine' i_nrr ?_ | refine' e_meth ?_ | refine' s_setf ?_ | refine' e_fld ?_ | refine' e_bm0 ?_ | refine' r_tx ?_ | refine' o_eqStr ?_ | refine' o_neStr ?_)
local macro_rules | `(tactic| walk_at "v") => `(tactic| ((with_reducible refine' e_var ?hv ?_); (case hv => exact rfl)))
local macro_rules | `(tactic| walk_at "a") => `(tactic| ((with_reducible refine' s_aug ?hv ?_); (case hv => exact rfl)))
local macro_rules | `(tactic| walk_at "m") => `(tactic| first
  | ((with_reducible refine' o_mod ?hv ?_); (case hv => first | decide | omega))
  | ((with_reducible refine' o_mulR ?hv ?_); (case hv => omega))
  | ((with_reducible refine' o_mulL ?hv ?_); (case hv => omega))
  | ((with_reducible refine' o_div ?hv ?hw ?_); (case hv => omega); (case hw => omega))
  | ((with_reducible refine' o_pow _ ?hv ?hw ?hx ?_); (case hv => exact rfl); (case hw => decide); (case hx => decide)))
local macro_rules | `(tactic| walk_at "i") => `(tactic| (first
  | ((with_reducible refine' isi_int true ?hv ?_); (case hv => exact (by decide +kernel)))
  | ((with_reducible refine' isi_int false ?hv ?_); (case hv => exact (by decide +kernel)))
  | ((with_reducible refine' isi_non true ?hv ?_); (case hv => exact (by decide +kernel)))
  | ((with_reducible refine' isi_non false ?hv ?_); (case hv => exact (by decide +kernel)))
  | ((with_reducible refine' isi_str true ?hv ?_); (case hv => exact (by decide +kernel)))
  | ((with_reducible refine' isi_str false ?hv ?_); (case hv => exact (by decide +kernel)))
  | ((with_reducible refine' isi_bl true ?hv ?_); (case hv => exact (by decide +kernel)))
  | ((with_reducible refine' isi_bl false ?hv ?_); (case hv => exact (by decide +kernel)))
  | ((with_reducible refine' isi_t true ?hw ?hv ?_); (case hw => assumption); (case hv => exact (by decide +kernel)))
  | ((with_reducible refine' isi_t false ?hw ?hv ?_); (case hw => assumption); (case hv => exact (by decide +kernel)))
  | ((with_reducible refine' isi_l true ?hw ?hv ?_); (case hw => assumption); (case hv => exact (by decide +kernel)))
  | ((with_reducible refine' isi_l false ?hw ?hv ?_); (case hw => assumption); (case hv => exact (by decide +kernel)))
  | ((with_reducible refine' isi_tup true ?hw ?hv ?_); (case hw => assumption); (case hv => exact (by decide +kernel)))
  | ((with_reducible refine' isi_tup false ?hw ?hv ?_); (case hw => assumption); (case hv => exact (by decide +kernel)))
  | ((with_reducible refine' isi_lst true ?hw ?hv ?_); (case hw => assumption); (case hv => exact (by decide +kernel)))
  | ((with_reducible refine' isi_lst false ?hw ?hv ?_); (case hw => assumption); (case hv => exact (by decide +kernel)))))
local macro_rules | `(tactic| walk_at "om") => `(tactic| first | omega | (simp only [List.length_cons, List.length_nil, List.length_map, List.length_append, List.length_range]; omega))
local macro_rules | `(tactic| walk_at "d") => `(tactic| (first
  | ((with_reducible refine' i_dt ?hv ?_); (case hv => walk_at "om"))
  | ((with_reducible refine' i_df ?hv ?_); (case hv => walk_at "om"))
  | ((with_reducible refine' i_ndt ?hv ?_); (case hv => walk_at "om"))
  | ((with_reducible refine' i_ndf ?hv ?_); (case hv => walk_at "om"))))
local macro_rules | `(tactic| walk_at "x") => `(tactic| first
  | ((with_reducible refine' o_ixA ?hv ?hw ?_); (case hv => assumption); (case hw => exact rfl))
  | ((with_reducible refine' o_ixU ?hv ?hw ?_); (case hv => assumption); (case hw => exact rfl))
  | ((with_reducible refine' o_ixL ?hv ?hw ?_); (case hv => assumption); (case hw => exact rfl))
  | ((with_reducible refine' o_ixT ?hv ?hw ?_); (case hv => assumption); (case hw => exact rfl))
  | ((with_reducible refine' set_ ?hv ?hw ?_); (case hv => assumption); (case hw => exact rfl))
  | ((with_reducible refine' e_lenM ?hv ?_); (case hv => first | assumption | exact slO (by assumption)))
  | ((with_reducible refine' e_lenN ?hv ?_); (case hv => first | assumption | exact stO (by assumption)))
  | ((with_reducible refine' e_lenL ?hv ?_); (case hv => first | assumption | exact slO (by assumption)))
  | ((with_reducible refine' e_lenT ?hv ?_); (case hv => first | assumption | exact stO (by assumption))))
local macro_rules | `(tactic| walk_at "c") => `(tactic| first
  | ((with_reducible refine' c_listL ?hv ?_); (case hv => assumption))
  | ((with_reducible refine' c_listT ?hv ?_); (case hv => assumption))
  | ((with_reducible refine' c_tupL ?hv ?_); (case hv => first | assumption | exact slO (by assumption)))
  | ((with_reducible refine' c_tupT ?hv ?_); (case hv => assumption))
  | ((with_reducible refine' t_lst ?hv ?_); (case hv => first | assumption | exact slO (by assumption)))
  | ((with_reducible refine' t_tup ?hv ?_); (case hv => assumption))
  | ((with_reducible refine' r_sl ?hv ?_); (case hv => first | assumption | exact slO (by assumption)))
  | ((with_reducible refine' o_inL ?hv ?_); (case hv => first | assumption | exact slO (by assumption)))
  | ((with_reducible refine' o_inT ?hv ?_); (case hv => first | assumption | exact stO (by assumption)))
  | ((with_reducible refine' o_niL ?hv ?_); (case hv => first | assumption | exact slO (by assumption)))
  | ((with_reducible refine' o_niT ?hv ?_); (case hv => first | assumption | exact stO (by assumption)))
  | ((with_reducible refine' ty_lst ?hv ?_); (case hv => assumption)))
local macro_rules | `(tactic| walk_at "mo") => `(tactic| repeat' (first | exact m_yes | exact m_var | exact m_c | exact m_I0 | exact m_I | exact m_ix | exact m_add | exact m_in | exact m_int1 | exact m_abs | exact m_nil | refine' m_and ?_ ?_ | refine' m_test ?_ | refine' m_tB ?_ | refine' m_op ?_ ?_ ?_ | refine' m_cons ?_ ?_ | refine' m_cb ?_ ?_))
local macro_rules | `(tactic| walk_at "go") => `(tactic| repeat' (first | walk_at "s" | walk_at "v" | walk_at "a" | walk_at "x" | walk_at "m" | walk_at "c" | walk_at "i" | walk_at "d"))

section
variable {P : Program} {w : World} {K : PySem.W.Frag} {mg : Str → Option Value} {base : Heap}
section
variable {S T : SD} {L : LD} {fi K n : Nat} {ks0 ks1 : List Kp} {c o : Nat → Option Pc}
theorem last_pc {E k e z no : Nat} {ks : List Kp} {r : Kp} (h : Chn E k e ks z) (hl : 0 < ks.length) (hr : ks[ks.length - 1]? = some r) : (pcsL no ks).getLast? = some (pcF r.2.1 r.2.2 (no + (ks.length - 1)) r.1 (cutN r.1 - 1)) := by
  have ok := (h.all r (List.mem_of_getElem? hr)).1
  have cp := cutN_pos ok
  have s := h.step hr
  rw [show ks.length - 1 + 1 = ks.length by omega, fkL_end] at s
  have ln := h.len (no := no)
  have mo := h.mono (i := 0) (j := ks.length - 1) (Nat.zero_le _) (by omega)
  rw [h.fk0, fkL_at hr] at mo
  rw [List.getLast?_eq_getElem?]
  exact h.get (no := no) hr (by omega) (by omega)
theorem take_tp {E e m k : Nat} (h : Chn E L.bk e L.kept L.nk) (hm : m ≤ L.kept.length) (hk0 : L.bk ≤ k) (hk : k < L.fk m) : (pcsL L.bg (L.kept.take m))[k - L.bk]? = tp L k := by
  have hl := h.drop_len hm L.bg
  have hl : L.bk + (pcsL L.bg (L.kept.take m)).length = L.fk m := hl
  show _ = (pcsL L.bg L.kept)[k - L.bk]?
  have e : pcsL L.bg L.kept = pcsL L.bg (L.kept.take m) ++ pcsL (L.bg + (L.kept.take m).length) (L.kept.drop m) := by
    have := pcsL_app (as := L.kept.take m) (bs := L.kept.drop m) (no := L.bg)
    rw [List.take_append_drop] at this
    exact this
  by_cases q : k - L.bk < (pcsL L.bg (L.kept.take m)).length
  · rw [e, List.getElem?_append_left q]
  · omega
/-- so many records are left behind a cut -/
def LD.left (L : LD) (m : Nat) : LD := { L with kept := L.kept.take m, nk := L.fk m }
theorem left_fk {m : Nat} (hm : m ≤ L.kept.length) {i : Nat} (hi : i ≤ m) : (L.left m).fk i = L.fk i := by
  show fkL (L.kept.take m) (L.fk m) i = fkL L.kept L.nk i
  unfold fkL
  rw [List.getElem?_take]
  by_cases q : i < m
  · rw [if_pos q]
    rw [List.getElem?_eq_getElem (by omega)]
  · rw [if_neg q]
    have : i = m := by omega
    subst this
    rfl
theorem Inv.closed {m : Nat} (h : Inv S L fi K ks0 ks1 c o n) (ly : LyC S L m) : Closed S.cut (L.left m) fi c := by
  have hm := ly.le
  have mK := (h.cutN_le ly).2
  have r4 := h.r4
  have hnk := h.nk
  have f0 := h.mono (i := 0) (j := m) (Nat.zero_le _) hm
  have f1 := h.mono (i := ks0.length) (j := m) mK hm
  have f2 := h.mono (i := m) (j := L.kept.length) hm (Nat.le_refl _)
  rw [h.fk0] at f0
  rw [h.fkK] at f1
  rw [h.fkE] at f2
  have lk : L.kept.length = ks0.length + ks1.length := by rw [h.kp, List.length_append]
  have down : ∀ k, L.bk ≤ k → k < L.fk m → c k = tp L k := fun k k1 k2 => by
    obtain ⟨i, j, r, e1, e2, e3, e4, e5, e6, e7⟩ := h.tpAt k1 (by omega)
    have him : i < m := by
      by_cases q : i < m
      · exact q
      · have := h.mono (i := m) (j := i) (by omega) (Nat.le_of_lt (List.getElem?_eq_some_iff.mp e1).1)
        omega
    obtain ⟨p, hp, hw⟩ := h.rpOf (List.getElem?_eq_some_iff.mp e1).1 e5 e6
    have := ly.all i him _ hw
    rw [blk_nat] at this
    rw [hp]
    exact (h.lieNe k1 (by omega) hp).mp this
  -- what is seen behind the last whole record
  have seen : ∀ k, L.fk m ≤ k → k < L.bk + L.ring → (filt k (c k) = o k ∧ (k < L.nk → c k ≠ tp L k)) ∨ (k < L.nk ∧ c k = tp L k) := fun k k1 k2 => by
    by_cases q : k < L.nk
    · rcases h.dn k (by omega) q with d | d
      · exact .inr ⟨q, d.1⟩
      · refine .inl ⟨d.2.1, fun _ e => ?_⟩
        obtain ⟨p, hp, _⟩ := d.2.2
        have t := h.tpK (by omega) q hp
        rw [e, hp, filt_eq t.1] at d
        have := (h.ol k p d.2.1.symm).2
        have := t.2.2.1 d.1
        omega
    · exact .inl ⟨(h.up k (by omega) k2).1, fun z => absurd z q⟩
  have ooE : ∀ k, L.fk m ≤ k → oo (L.left m) c k = o k ∨ ∃ p, oo (L.left m) c k = some p ∧ p.e = L.ep ∧ k < L.nk ∧ c k = some p ∧ tp L k = some p := fun k k1 => by
    show (if L.fk m ≤ k ∧ k < L.bk + L.ring then filt k (c k) else none) = o k ∨ ∃ p, (if L.fk m ≤ k ∧ k < L.bk + L.ring then filt k (c k) else none) = some p ∧ p.e = L.ep ∧ k < L.nk ∧ c k = some p ∧ tp L k = some p
    by_cases q : k < L.bk + L.ring
    · rw [if_pos ⟨k1, q⟩]
      rcases seen k k1 q with d | ⟨d1, d2⟩
      · exact .inl d.1
      · obtain ⟨p, hp⟩ := h.tpSome (by omega) d1
        have t := h.tpK (by omega) d1 hp
        refine .inr ⟨p, by rw [d2, hp, filt_eq t.1], t.2.2.1 (by omega), d1, d2.trans hp, hp⟩
    · rw [if_neg fun z => q z.2, h.on k (by omega)]
      exact .inl rfl
  refine ⟨h.r4, h.r8, h.ch.take hm, by show L.fk m ≤ L.bk + L.ring; omega, h.fie, h.l0, h.li, fun _ => rfl, fun k k1 k2 => ?_, fun k p hp => ?_, fun d => ?_, rfl, SD.cut_ok h.ok⟩
  · show c k = (pcsL L.bg (L.kept.take m))[k - L.bk]?
    rw [take_tp h.ch hm k1 k2]
    exact down k k1 k2
  · have k1 := (oo_k hp).2.1
    have k1 : L.fk m ≤ k := k1
    rcases ooE k k1 with e | ⟨p2, e1, e2, _⟩
    · rw [e] at hp
      have := (h.ol k p hp).2
      show p.e ≤ L.ep
      omega
    · rw [e1] at hp
      obtain rfl := Option.some.inj hp
      exact Nat.le_of_eq e2
  · show Dead (mAt L fi) (oo (L.left m) c) d (pcsL L.bg (L.kept.take m)).getLast? (L.fk m)
    -- the row ahead, where it is of this life
    have ahead : ks0.length < m → ∃ q, (pcsL L.bg (L.kept.take m)).getLast? = some q ∧ q.l = 0 ∧ q.e = L.ep := fun hlt => by
      have hg := List.getElem?_eq_getElem (show m - 1 < L.kept.length by omega)
      have lt : (L.kept.take m).length = m := by rw [List.length_take]; omega
      have hr : (L.kept.take m)[(L.kept.take m).length - 1]? = some L.kept[m - 1] := by
        rw [lt, List.getElem?_take, if_pos (by omega)]; exact hg
      refine ⟨_, last_pc (h.ch.take hm) (by omega) hr, ?_, h.new hg (by omega)⟩
      show cutN _ - 1 - (cutN _ - 1) = 0
      omega
    have stop : ks0.length < m → oo (L.left m) c (L.fk m) = o (L.fk m) → Dead (mAt L fi) (oo (L.left m) c) d (pcsL L.bg (L.kept.take m)).getLast? (L.fk m) := fun hlt e => by
      obtain ⟨q, q1, q2, q3⟩ := ahead hlt
      rw [q1]
      refine dead_stop (fun p hp => ?_) d
      rw [e] at hp
      have := (h.ol _ p hp).2
      cases g : firstB (mAt L fi) (some q) p with
      | false => rfl
      | true =>
        have := goes_next (show goesB q p = true from g) q2
        omega
    have base : m = ks0.length → oo (L.left m) c (L.fk m) = o (L.fk m) → Dead (mAt L fi) (oo (L.left m) c) d (pcsL L.bg (L.kept.take m)).getLast? (L.fk m) := fun em e => by
      have et : L.kept.take m = ks0 := by rw [em, h.kp, List.take_left]
      have ef : L.fk m = K := by rw [em, h.fkK]
      rw [et, ef]
      rw [ef] at e
      refine dead_mix (h.de d) e (fun j p hp => (h.ol j p hp).2) fun j hj => ?_
      rcases ooE j (by omega) with y | ⟨p, y1, y2, _⟩
      · exact .inl y
      · exact .inr ⟨p, y1, y2⟩
    by_cases q : m < L.kept.length
    · have hg := List.getElem?_eq_getElem q
      have st := h.step hg
      have cp := cutN_pos (h.recs _ (List.getElem_mem q)).1
      have fm1 := h.mono (i := m + 1) (j := L.kept.length) (by omega) (Nat.le_refl _)
      rw [h.fkE] at fm1
      have ex : ∃ j, j < cutN (L.kept[m]).1 ∧ c (L.fk m + j) ≠ tp L (L.fk m + j) := by
        obtain ⟨wv, hw, ne⟩ := ly.no q
        obtain ⟨k, p, k1, k2, k3, k4, hp, rfl⟩ := h.rp q hw
        rw [blk_nat] at ne
        refine ⟨k - L.fk m, by omega, ?_⟩
        rw [show L.fk m + (k - L.fk m) = k by omega]
        intro z
        exact ne ((h.lieNe k1 k2 hp).mpr (z.trans hp))
      by_cases d0 : c (L.fk m) = tp L (L.fk m)
      · -- the first piece is there: on to the first that is not
        have fwd : ∀ (d i : Nat) (qq : Option Pc), i < cutN (L.kept[m]).1 → (∃ j, i ≤ j ∧ j < cutN (L.kept[m]).1 ∧ c (L.fk m + j) ≠ tp L (L.fk m + j)) → (i = 0 → c (L.fk m) = tp L (L.fk m)) → (0 < i → ∃ pq, qq = some pq ∧ pq.l ≠ 0 ∧ pq.e = L.ep) → Dead (mAt L fi) (oo (L.left m) c) d qq (L.fk m + i) := fun d => by
          induction d with
          | zero => intro i qq _ _ _ _; trivial
          | succ d ih =>
            intro i qq hi hex h0 hq
            intro p hp hf
            rcases ooE (L.fk m + i) (by omega) with y | ⟨p2, y1, y2, y3, y4, y5⟩
            · exfalso
              rw [y] at hp
              have lo := (h.ol _ p hp).2
              by_cases i0 : i = 0
              · subst i0
                have := h0 rfl
                obtain ⟨p3, hp3⟩ := h.tpSome (k := L.fk m) (by omega) (by omega)
                have t := h.tpK (k := L.fk m) (by omega) (by omega) hp3
                have ey : oo (L.left m) c (L.fk m) = some p3 := by
                  show (if L.fk m ≤ L.fk m ∧ L.fk m < L.bk + L.ring then filt (L.fk m) (c (L.fk m)) else none) = _
                  rw [if_pos ⟨Nat.le_refl _, by omega⟩, this, hp3, filt_eq t.1]
                have y : oo (L.left m) c (L.fk m) = o (L.fk m) := y
                have hp : o (L.fk m) = some p := hp
                rw [ey, hp] at y
                obtain rfl := Option.some.inj y
                have := t.2.2.1 (by omega)
                omega
              · obtain ⟨pq, rfl, l1, l2⟩ := hq (by omega)
                have := goes_same (show goesB pq p = true from hf) l1
                omega
            · rw [y1] at hp
              obtain rfl := Option.some.inj hp
              obtain ⟨j, j1, j2, j3⟩ := hex
              have jne : j ≠ i := fun z => by
                rw [z] at j3
                exact j3 (y4.trans y5.symm)
              have tF := h.tpF hg (j := i) hi
              rw [← st.1] at tF
              rw [y5] at tF
              obtain rfl := Option.some.inj tF
              refine ⟨by show cutN _ - 1 - i ≠ 0; omega, ?_⟩
              exact ih (i + 1) _ (by omega) ⟨j, by omega, j2, j3⟩ (fun z => by omega) fun _ => ⟨_, rfl, by show cutN _ - 1 - i ≠ 0; omega, y2⟩
        obtain ⟨j, j1, j2⟩ := ex
        exact fwd d 0 _ cp ⟨j, Nat.zero_le _, j1, j2⟩ (fun _ => d0) fun z => absurd z (Nat.lt_irrefl _)
      · have e : oo (L.left m) c (L.fk m) = o (L.fk m) := by
          rcases ooE (L.fk m) (Nat.le_refl _) with y | ⟨p, y1, y2, y3, y4, y5⟩
          · exact y
          · exact absurd (y4.trans y5.symm) d0
        by_cases z : ks0.length < m
        · exact stop z e
        · exact base (by omega) e
    · have em : m = L.kept.length := by omega
      have e : oo (L.left m) c (L.fk m) = o (L.fk m) := by
        rcases ooE (L.fk m) (Nat.le_refl _) with y | ⟨p, y1, y2, y3, _⟩
        · exact y
        · rw [em, h.fkE] at y3
          omega
      by_cases z : ks0.length < m
      · exact stop z e
      · exact base (by omega) e
/-! the next life -/
theorem Closed.recs (h : Closed S L fi c) : recsOf (mAt L fi) c = recsL L.bg L.kept := by
  unfold recsOf
  have hl := h.ch.len (no := L.bg)
  have hn := h.nk
  have hpre := count_pre (M := (mAt L fi).up) (lt := (mAt L fi).e + 1) (g := c) (pcsL L.bg L.kept) L.ring L.bk [] (h.ch.good (q := none) (M := (mAt L fi).up) (Nat.le_succ _) ⟨rfl, Nat.le_refl _⟩) (fun j p e => by
    have hj := (List.getElem?_eq_some_iff.mp e).1
    rw [h.tr (L.bk + j) (by omega) (by omega)]
    show (pcsL L.bg L.kept)[L.bk + j - L.bk]? = some p
    rw [show L.bk + j - L.bk = j by omega]; exact e) (by omega)
  rw [List.nil_append] at hpre
  obtain ⟨tl, h1, h2⟩ := count_dead (M := (mAt L fi).up) (lt := (mAt L fi).e + 1) (g := c) (o := oo L c) (L.ring - (pcsL L.bg L.kept).length) (L.bk + (pcsL L.bg L.kept).length) (pcsL L.bg L.kept) (fun j hj => by
    unfold oo
    rw [if_pos (by omega)]) (by
    rw [← hl]
    exact dead_mf (M := mAt L fi) (M' := (mAt L fi).up) rfl rfl (h.de _))
  have e : countG (mAt L fi).up ((mAt L fi).e + 1) c (mAt L fi).r [] (mAt L fi).k = pcsL L.bg L.kept ++ tl := hpre.trans h1
  rw [e]
  unfold readP
  rw [List.foldl_append, read_tail h2, h.ch.read]; rfl
def LD.up (L : LD) : LD := { L with ep := L.ep + 1, fo := some ((L.bg : Int) + L.kept.length - 1) }
theorem Closed.opened (h : Closed S L fi c) (op : Opened S T (mAt L fi)) : LD.opened (mAt L fi) (recsOf (mAt L fi) c) = L.up ∧ Inv T L.up fi L.nk L.kept [] c (oo L c) L.kept.length := by
  have r4 := h.r4
  refine ⟨?_, ?_⟩
  · rw [h.recs]
    unfold LD.opened
    have hm := Chn.mores (L := ⟨(mAt L fi).e + 1, (mAt L fi).r, (mAt L fi).m, (mAt L fi).k, (mAt L fi).k, none, []⟩) (no := L.bg) (e := fi) (ks := L.kept) (z := L.nk) h.ch
    rw [hm]
    rfl
  · have li : ∀ k, T.lies[1 + k % L.ring]? = S.lies[1 + k % L.ring]? := fun k => by
      have := op.sh (blk L.ring k) (blk_in (by omega)).1
      rw [shows_lies (op.rows _), shows_lies (h.rows _), blk_nat] at this
      exact this
    have l0 : T.lies[0]? = some (Mst.ct (mAt L fi).up) := by
      have := op.sh0
      rw [shows_lies (op.rows _)] at this
      exact this
    refine ⟨h.r4, by rw [op.ln]; exact h.r8, by show L.kept = L.kept ++ []; rw [List.append_nil], h.ch.up (Nat.le_succ _), rfl, h.nk, Nat.le_trans h.fie (Nat.le_succ _), l0, fun k k1 k2 => ?_, fun k k1 k2 => .inl ⟨h.tr k k1 k2, op.rows _⟩, fun k k1 k2 => ⟨?_, op.rows _⟩, fun k p hp => ?_, fun k hk => ?_, fun d => dead_mf (M := mAt L fi) (M' := mAt L.up fi) rfl rfl (h.de d), fun x hx => absurd (op.rows x) hx, op.pw, op.ok, Nat.le_refl _, fun k k1 k2 => ⟨h.tr k k1 ?_, op.rows _⟩⟩
    · show T.lies[1 + k % L.ring]? = _ ∧ _
      rw [li]
      exact h.li k k1 k2
    · unfold oo
      rw [if_pos ⟨k1, k2⟩]
    · have := h.oe k p hp
      exact ⟨(oo_k hp).1, by show p.e < L.ep + 1; omega⟩
    · cases q : oo L c k with
      | none => rfl
      | some p =>
        have := (oo_k q).2.2.1
        have hk : L.bk + L.ring ≤ k := hk
        omega
    · have k2 : k < fkL L.kept L.nk L.kept.length := k2
      rw [fkL_end] at k2
      exact k2
theorem closed_new {b r : Nat} {ns : List Int} (W : Wt (SD.fm b r) ns) (h4 : 4 ≤ r) (h8 : r + 8 ≤ b) (h6 : b ≤ 600) : Closed (SD.forceL ns (SD.fm b r)).1 ⟨0, r, 0, 0, 0, none, []⟩ 0 (fun _ => none) := by
  have ln : (SD.new b).lies.length = b := by show (List.replicate b _).length = b; rw [List.length_replicate]
  have ok0 : (SD.fm b r).Ok := by
    unfold SD.fm
    refine SD.wrote_ok (SD.wrote_ok (SD.new_ok h6) (by omega) (by omega) (mst_ok ⟨Nat.zero_le _, by show r ≤ _; omega, Nat.zero_le _, Nat.zero_le _, Nat.zero_le _⟩)) (by omega) ?_ meta_ok
    show (r : Int) + 1 < ((SD.new b).lies.length : Nat)
    omega
  have a := forceL_after (ns := ns) ok0 rfl
  have rr := calm_rows W rfl
  have lies : ∀ x : Nat, (SD.forceL ns (SD.fm b r)).1.lies[x]? = (SD.fm b r).shows x := fun x => by
    have := a.sh x (by omega)
    rw [shows_lies (rr _)] at this
    exact this
  refine ⟨h4, ?_, rfl, Nat.zero_le _, Nat.zero_le _, ?_, fun k k1 k2 => ⟨?_, fun p e => by cases e⟩, rr, fun k k1 k2 => absurd k2 (Nat.not_lt_zero _), fun k p hp => ?_, fun d => dead_stop (fun p hp => ?_) d, a.pw, a.ok⟩
  · rw [a.ln]
    show r + 8 ≤ (SD.new b).lies.length
    omega
  · rw [lies, show ((0 : Nat) : Int) = 0 from rfl]
    unfold SD.fm
    rw [shows_wrote, if_neg (by omega), shows_wrote, if_pos rfl]; rfl
  · show (SD.forceL ns (SD.fm b r)).1.lies[1 + k % r]? = some []
    have hj := Nat.mod_lt k (show 0 < r by omega)
    rw [lies]
    unfold SD.fm
    rw [shows_wrote, if_neg (by omega), shows_wrote, if_neg (by omega), shows_lies rfl]
    show (List.replicate b ([] : Ct))[(((1 + k % r : Nat)) : Int).toNat]? = _
    rw [List.getElem?_replicate, if_pos (by omega)]
  · have := (oo_k hp).2.2.2
    cases this
  · have := (oo_k hp).2.2.2
    cases this
end
end
end Vw

set_option Elab.async false
set_option linter.all false
set_option maxRecDepth 100000
set_option maxHeartbeats 4000000
namespace Vw
open PySem PySem.Spec PyProof.Rows L2 RT
local macro_rules | `(tactic| walk_at "s") => `(tactic| with_reducible first
  | refine' s_seq ?_ | refine' s_next ?_ | refine' s_set ?_ | refine' s_ret ?_ | refine' s_retN ?_ | refine' s_drop ?_ | refine' s_if ?_ | refine' s_ipI ?_
  | refine' e_c ?_ | refine' e_op ?_ | refine' e_un ?_ | refine' e_neg ?_ | refine' e_test ?_ | refine' e_tB ?_ | refine' e_bl ?_ | refine' e_and ?_ | refine' e_or ?_ | refine' e_not ?_
  | refine' e_andV ?_ | refine' e_orV ?_ | refine' e_notV ?_ | refine' e_kV ?_ | refine' e_ife ?_ | refine' e_nil ?_ | refine' e_cons ?_ | refine' e_cb ?_ | refine' e_call ?_ | refine' e_chain ?_
  | refine' o_addI ?_ | refine' o_eqI ?_ | refine' o_neI ?_ | refine' o_I0 ?_ | refine' o_pow16 ?_ | refine' o_pow17 ?_ | refine' o_pow18 ?_ | refine' o_pow19 ?_ | refine' o_pow30 ?_ | refine' o_pow31 ?_ | refine' o_pow1 ?_ | refine' o_pow2 ?_ | refine' o_pow3 ?_ | refine' o_pow4 ?_ | refine' o_pow5 ?_ | refine' o_pow6 ?_ | refine' o_pow9 ?_ | refine' o_pow10 ?_ | refine' o_pow12 ?_ | refine' o_pow15 ?_ | refine' o_pow20 ?_ | refine' e_lst ?_ | refine' e_tup ?_ | refine' iteT ?_ | refine' i_nt ?_ | refine' i_nf ?_ | refine' iteF ?_ | refine' c_int ?_ | refine' c_abs ?_ | refine' c_min2 ?_ | refine' c_max2 ?_ | refine' e_tru ?_ | refine' t_bl ?_ | refine' t_non ?_ | refine' t_int ?_ | refine' isN_non ?_ | refine' isN_int ?_ | refine' isN_ref ?_ | refine' isN_str ?_ | refine' isN_bl ?_ | refine' noN_non ?_ | refine' noN_int ?_ | refine' noN_ref ?_ | refine' noN_str ?_ | refine' noN_bl ?_
  | refine' s_brk ?_ | refine' s_cont ?_ | refine' s_for ?_ | refine' e_lc ?_ | refine' e_dc ?_ | refine' e_yes ?_ | refine' i_rng1 ?_ | refine' i_lst0 ?_ | refine' i_tup0 ?_ | refine' e_bm ?_ | refine' e_sl ?_ | refine' e_np ?_ | refine' e_pt ?_ | refine' e_ptI ?_ | refine' e_din ?_ | refine' e_dnin ?_ | refine' e_methE ?_ | refine' p_cons ?_ | refine' p_nil ?_ | refine' s_dput ?_ | refine' e_dget2 ?_ | refine' e_dpop1 ?_ | refine' i_enum0 ?_ | refine' i_rev0 ?_ | refine' g_sub ?_ | refine' s_asg ?_ | refine' i_zip0 ?_ | refine' e_revT ?_ | refine' isB_bl ?_ | refine' notB_bl ?_ | refine' o_neB ?_ | refine' i_nrr ?_ | refine' e_meth ?_ | refine' s_setf ?_ | refine' e_fld ?_ | refine' e_bm0 ?_ | refine' r_tx ?_ | refine' o_eqStr ?_ | refine' o_neStr ?_)
local macro_rules | `(tactic| walk_at "v") => `(tactic| ((with_reducible refine' e_var ?hv ?_); (case hv => exact rfl)))
local macro_rules | `(tactic| walk_at "a") => `(tactic| ((with_reducible refine' s_aug ?hv ?_); (case hv => exact rfl)))
local macro_rules | `(tactic| walk_at "m") => `(tactic| first
  | ((with_reducible refine' o_mod ?hv ?_); (case hv => first | decide | omega))
  | ((with_reducible refine' o_mulR ?hv ?_); (case hv => omega))
  | ((with_reducible refine' o_mulL ?hv ?_); (case hv => omega))
  | ((with_reducible refine' o_div ?hv ?hw ?_); (case hv => omega); (case hw => omega))
  | ((with_reducible refine' o_pow _ ?hv ?hw ?hx ?_); (case hv => exact rfl); (case hw => decide); (case hx => decide)))
local macro_rules | `(tactic| walk_at "i") => `(tactic| (first
  | ((with_reducible refine' isi_int true ?hv ?_); (case hv => exact (by decide +kernel)))
  | ((with_reducible refine' isi_int false ?hv ?_); (case hv => exact (by decide +kernel)))
  | ((with_reducible refine' isi_non true ?hv ?_); (case hv => exact (by decide +kernel)))
  | ((with_reducible refine' isi_non false ?hv ?_); (case hv => exact (by decide +kernel)))
  | ((with_reducible refine' isi_str true ?hv ?_); (case hv => exact (by decide +kernel)))
  | ((with_reducible refine' isi_str false ?hv ?_); (case hv => exact (by decide +kernel)))
  | ((with_reducible refine' isi_bl true ?hv ?_); (case hv => exact (by decide +kernel)))
  | ((with_reducible refine' isi_bl false ?hv ?_); (case hv => exact (by decide +kernel)))
  | ((with_reducible refine' isi_t true ?hw ?hv ?_); (case hw => assumption); (case hv => exact (by decide +kernel)))
  | ((with_reducible refine' isi_t false ?hw ?hv ?_); (case hw => assumption); (case hv => exact (by decide +kernel)))
  | ((with_reducible refine' isi_l true ?hw ?hv ?_); (case hw => assumption); (case hv => exact (by decide +kernel)))
  | ((with_reducible refine' isi_l false ?hw ?hv ?_); (case hw => assumption); (case hv => exact (by decide +kernel)))
  | ((with_reducible refine' isi_tup true ?hw ?hv ?_); (case hw => assumption); (case hv => exact (by decide +kernel)))
  | ((with_reducible refine' isi_tup false ?hw ?hv ?_); (case hw => assumption); (case hv => exact (by decide +kernel)))
  | ((with_reducible refine' isi_lst true ?hw ?hv ?_); (case hw => assumption); (case hv => exact (by decide +kernel)))
  | ((with_reducible refine' isi_lst false ?hw ?hv ?_); (case hw => assumption); (case hv => exact (by decide +kernel)))))
local macro_rules | `(tactic| walk_at "om") => `(tactic| first | omega | (simp only [List.length_cons, List.length_nil, List.length_map, List.length_append, List.length_range]; omega))
local macro_rules | `(tactic| walk_at "d") => `(tactic| (first
  | ((with_reducible refine' i_dt ?hv ?_); (case hv => walk_at "om"))
  | ((with_reducible refine' i_df ?hv ?_); (case hv => walk_at "om"))
  | ((with_reducible refine' i_ndt ?hv ?_); (case hv => walk_at "om"))
  | ((with_reducible refine' i_ndf ?hv ?_); (case hv => walk_at "om"))))
local macro_rules | `(tactic| walk_at "x") => `(tactic| first
  | ((with_reducible refine' o_ixA ?hv ?hw ?_); (case hv => assumption); (case hw => exact rfl))
  | ((with_reducible refine' o_ixU ?hv ?hw ?_); (case hv => assumption); (case hw => exact rfl))
  | ((with_reducible refine' o_ixL ?hv ?hw ?_); (case hv => assumption); (case hw => exact rfl))
  | ((with_reducible refine' o_ixT ?hv ?hw ?_); (case hv => assumption); (case hw => exact rfl))
  | ((with_reducible refine' set_ ?hv ?hw ?_); (case hv => assumption); (case hw => exact rfl))
  | ((with_reducible refine' e_lenM ?hv ?_); (case hv => first | assumption | exact slO (by assumption)))
  | ((with_reducible refine' e_lenN ?hv ?_); (case hv => first | assumption | exact stO (by assumption)))
  | ((with_reducible refine' e_lenL ?hv ?_); (case hv => first | assumption | exact slO (by assumption)))
  | ((with_reducible refine' e_lenT ?hv ?_); (case hv => first | assumption | exact stO (by assumption))))
local macro_rules | `(tactic| walk_at "c") => `(tactic| first
  | ((with_reducible refine' c_listL ?hv ?_); (case hv => assumption))
  | ((with_reducible refine' c_listT ?hv ?_); (case hv => assumption))
  | ((with_reducible refine' c_tupL ?hv ?_); (case hv => first | assumption | exact slO (by assumption)))
  | ((with_reducible refine' c_tupT ?hv ?_); (case hv => assumption))
  | ((with_reducible refine' t_lst ?hv ?_); (case hv => first | assumption | exact slO (by assumption)))
  | ((with_reducible refine' t_tup ?hv ?_); (case hv => assumption))
  | ((with_reducible refine' r_sl ?hv ?_); (case hv => first | assumption | exact slO (by assumption)))
  | ((with_reducible refine' o_inL ?hv ?_); (case hv => first | assumption | exact slO (by assumption)))
  | ((with_reducible refine' o_inT ?hv ?_); (case hv => first | assumption | exact stO (by assumption)))
  | ((with_reducible refine' o_niL ?hv ?_); (case hv => first | assumption | exact slO (by assumption)))
  | ((with_reducible refine' o_niT ?hv ?_); (case hv => first | assumption | exact stO (by assumption)))
  | ((with_reducible refine' ty_lst ?hv ?_); (case hv => assumption)))
local macro_rules | `(tactic| walk_at "mo") => `(tactic| repeat' (first | exact m_yes | exact m_var | exact m_c | exact m_I0 | exact m_I | exact m_ix | exact m_add | exact m_in | exact m_int1 | exact m_abs | exact m_nil | refine' m_and ?_ ?_ | refine' m_test ?_ | refine' m_tB ?_ | refine' m_op ?_ ?_ ?_ | refine' m_cons ?_ ?_ | refine' m_cb ?_ ?_))
local macro_rules | `(tactic| walk_at "go") => `(tactic| repeat' (first | walk_at "s" | walk_at "v" | walk_at "a" | walk_at "x" | walk_at "m" | walk_at "c" | walk_at "i" | walk_at "d"))

section
variable {P : Program} {w : World} {K : PySem.W.Frag} {mg : Str → Option Value} {base : Heap}
section
variable (p kl kl' : Addr) (L : LD) (n : Nat)
theorem lf_pk : putF "_kept" (.ref kl') (lf p kl L) = lf p kl' L := by
  unfold lf
  cases L.fo <;> rfl
theorem lf_pb : putF "_begin" (.int n) (lf p kl L) = lf p kl { L with bg := n } := by
  unfold lf
  cases L.fo <;> rfl
theorem lf_pbk : putF "_begin_k" (.int n) (lf p kl L) = lf p kl { L with bk := n } := by
  unfold lf
  cases L.fo <;> rfl
end
theorem cutV_from {xs : List V} {i : Nat} : cutV xs (some (i : Int)) none = xs.drop i := cut_from
section
variable {S T : SD} {L : LD} {fi K0 n : Nat} {ks0 ks1 : List Kp} {c o : Nat → Option Pc}
theorem start_disk {i : Nat} (h : Inv S L fi K0 ks0 ks1 c o n) (hi : i ≤ L.kept.length) (hin : i ≤ n) (ok4 : (S.wrote 0 (Mst.ct (mAt (L.start i) (epAt L.ep L.kept i)))).Ok) : ∃ K' ks0' ks1' c', Inv (SD.forceL [0] (S.wrote 0 (Mst.ct (mAt (L.start i) (epAt L.ep L.kept i))))).1 (L.start i) (epAt L.ep L.kept i) K' ks0' ks1' c' o (n - i) := by
  have pw4 : (S.wrote 0 (Mst.ct (mAt (L.start i) (epAt L.ep L.kept i)))).pw = none := h.pw
  have a := forceL_after (ns := [0]) ok4 pw4
  have rows := fun x => forceL_rows (x := x) [0] _ pw4
  have r0 : (SD.forceL [0] (S.wrote 0 (Mst.ct (mAt (L.start i) (epAt L.ep L.kept i))))).1.rows 0 = [] := by rw [rows, if_pos (by simp)]
  refine h.start hi hin a.ok a.pw a.ln ?_ r0 (fun x hx => ?_) fun x hx => ?_
  · have := a.sh 0 (by omega)
    rw [shows_lies r0, shows_wrote, if_pos rfl] at this
    exact this
  · rw [forceL_lies pw4 fun b hb => by rw [List.mem_singleton.mp hb]; show x ≠ 0; omega]; rfl
  · rw [rows, if_neg (by simpa using hx)]
    exact if_neg hx
theorem start_rows {ct : Ct} (h : Inv S L fi K0 ks0 ks1 c o n) (x : Int) : ((SD.forceL [0] (S.wrote 0 ct)).1.rows x).length ≤ (S.rows x).length := by
  rw [forceL_rows [0] _ (show (S.wrote 0 ct).pw = none from h.pw)]
  split
  · exact Nat.zero_le _
  · next q =>
    have : x ≠ 0 := by simpa using q
    show (if x = 0 then _ else S.rows x).length ≤ _
    rw [if_neg this]
    exact Nat.le_refl _
end
theorem e_ifq {cc : TT} {ta tb : TE} {σ : L2.St} {H : Hp} {Q : VK} {v : V} (q : Q v H) (h : Q v H → tIf cc ta tb σ H Q) : tIf cc ta tb σ H Q := h q
def sp_begin_at (K : PySem.W.Frag) (CL CD : Addr) : Sp := fun vs H Q _ => ∃ (q p : Addr) (F G : List Addr) (S : SD) (L : LD) (i n fi K0 : Nat) (ks0 ks1 : List Kp) (c o : Nat → Option Pc), vs = [.ref q, .int ((L.bg : Int) + i)] ∧ LS K CL H q p G L ∧ DS K CD H p F S ∧ (∀ x ∈ F, x ∉ G) ∧ Inv S L fi K0 ks0 ks1 c o n ∧ L.fo = some ((L.bg : Int) + n - 1) ∧ i ≤ L.kept.length ∧
  L.nk ≤ 1000000 ∧ L.ep ≤ 1000000 ∧ L.bg ≤ 1000000 ∧ (∀ x, (S.rows x).length ≤ 800) ∧
  ∀ F' G' S' L' H', LS K CL H' q p G' L' → DS K CD H' p F' S' → (∀ x ∈ F', x ∉ G') → (∃ fi' K' ks0' ks1' c', Inv S' L' fi' K' ks0' ks1' c' o (max n i - i)) → L' = { L.start i with fo := some ((L.bg : Int) + (max n i : Nat) - 1) } → (∀ x, (S'.rows x).length ≤ (S.rows x).length) → Ch (F ++ G) H H' → (∀ x ∈ F', x ∈ F ∨ H x = none) → (∀ x ∈ G', x ∈ G ∨ x ∈ F ∨ H x = none) → Q .non H'
theorem ok_Log_begin_at (T : Txt K mg) : FnOk P w K mg base CX0 6 T.m_Log_begin_at.f T.m_Log_begin_at.fd ["self", "number"] ((sp_begin_at K T.C_Log T.C_Disk)) := by
  refine T.m_Log_begin_at.F.ok sc_Log_begin_at (fun vs H Q E h => ?_) (fun cdv A outer s H vs Q E hr h => ?_)
  · obtain ⟨q, p, F, G, S, L, i, n, fi, K0, ks0, ks1, c, o, rfl, _⟩ := h
    rfl
  · obtain ⟨q, p, F, G, S, L, i, n, fi, K0, ks0, ks1, c, o, rfl, hL, hD, dj, hv, hfo, hi, b1, b2, b3, hrow, k⟩ := h
    refine ⟨_, (pss_cons (ps_if (pt_not (ptTruth (K := K) (pe_call (ok_is_within T) (hr.mono (by decide)) (by rfl) T.is_within.g T.is_within.F.kp T.is_within.b .nil pass0 (pa_cons (pv 1) (pa_cons (peFld (K := K) (pv 0) rfl) (pa_cons (pe_op oAdd (pe_meth0 (pv 0) T.k_Log.cl T.m_Log_last.i (ok_Log_last T) (hr.mono (by decide)) T.m_Log_last.b .nil pass0) pe_int) pa_nil)))) (by intro _; rfl))) (pss_one ps_never) pss_nil)
    (Evl.pss_cut (ps_if (pt_cmpR op_gt (pv 1) (peFld (K := K) (pv 0) rfl) (nomark _)) (pss_one (ps_expr (pe_meth (pv 0) T.k_Log.cl T.m_Log_force.i (ok_Log_force T) (hr.mono (by decide)) T.m_Log_force.b .nil pass0 (pa_cons (pe_op op_sub (pv 1) pe_int) pa_nil)))) pss_nil)
    (pss_cons (ps_set (i := 2) sc_Log_begin_at.nd rfl (Or.inl rfl) (pe_meth (pv 0) T.k_Log.cl T.m_Log__first_k.i (ok_Log__first_k T) (hr.mono (by decide)) T.m_Log__first_k.b .nil pass0 (pa_cons (pv 1) pa_nil)))
    (pss_cons (ps_set (i := 3) sc_Log_begin_at.nd rfl (Or.inl rfl) (pe_slice (slL (K := K)) (peFld (K := K) (pv 0) rfl) (po_some (pe_op op_sub (pv 1) (peFld (K := K) (pv 0) rfl))) po_none))
    (pss_cons (ps_set (i := 4) sc_Log_begin_at.nd rfl (Or.inl rfl) (pe_ifExp (ptTruth (K := K) (pv 3) (by intro _; rfl)) (pe_ix (ixLT (K := K)) (pe_ix (ixLT (K := K)) (pv 3) pe_int (fun _ _ => rfl)) pe_int (fun _ _ => rfl)) (peFld (K := K) (pv 0) rfl)))
    (pss_cons (ps_expr (pe_meth (peFld (K := K) (pv 0) rfl) T.k_Disk.cl T.m_Disk_write.i (ok_Disk_write T) (hr.mono (by decide)) T.m_Disk_write.b .nil pass0 (pa_cons pe_int (pa_cons (pe_tup (pa_cons (pe_glob (by rfl) T.c_MASTER.h T.c_MASTER.r) (pa_cons (peFld (K := K) (pv 0) rfl) (pa_cons (peFld (K := K) (pv 0) rfl) (pa_cons (pv 2) (pa_cons (pv 1) (pa_cons (pv 4) pa_nil))))))) pa_nil))))
    (pss_cons (ps_expr (pe_meth (peFld (K := K) (pv 0) rfl) T.k_Disk.cl T.m_Disk_force.i (ok_Disk_force T) (hr.mono (by decide)) T.m_Disk_force.b .nil passL (pa_cons (pe_tup (pa_cons pe_int pa_nil)) pa_nil)))
    (pss_cons (psFld (K := K) (pv 0) (pv 3) rfl)
    (pss_cons (psFld (K := K) (pv 0) (pv 1) rfl)
    (pss_one (psFld (K := K) (pv 0) (pv 2) rfl))))))))))), ?_⟩
    have hL0 := hL
    obtain ⟨kl, ts, eG, ⟨dx, hob⟩, hkl, hka⟩ := hL
    have h600 := hD.len
    have few := hv.few1
    have r4 := hv.r4
    have r8 := hv.r8
    have hnk := hv.nk
    walk_at "go"
    refine o_fld ⟨dx, hob⟩ T.k_Log.cl T.n_Log__begin (lf_b _ _ _) ?_
    walk_at "go"
    refine m_call0 ⟨dx, hob⟩ (lf_no _ _ _ (by decide +kernel)) ?_
    walk_at "go"
    refine ⟨q, p, G, L, rfl, hL0, by omega, ?_⟩
    walk_at "go"
    refine ⟨_, _, _, rfl, rfl, ?_⟩
    have ew : within (.int ((L.bg : Int) + i)) L.bg (L.last + 1) = true := by
      unfold within LD.last
      rw [Bool.and_eq_true, decide_eq_true_eq, decide_eq_true_eq]
      constructor <;> omega
    rw [ew]
    walk_at "go"
    refine s_cut (fun σ' H' => σ' = [some (.ref q), some (.int ((L.bg : Int) + i)), none, none, none] ∧ ∃ (F1 : List Addr) (S1 : SD) (L1 : LD) (c1 : Nat → Option Pc), DS K T.C_Disk H' p F1 S1 ∧ LS K T.C_Log H' q p G L1 ∧ (∀ x ∈ F1, x ∉ G) ∧ Inv S1 L1 fi K0 ks0 ks1 c1 o (max n i) ∧ L1 = { L with fo := some ((L.bg : Int) + (max n i : Nat) - 1) } ∧ (∀ x, (S1.rows x).length ≤ (S.rows x).length) ∧ Ch (F ++ G) H H' ∧ (∀ x ∈ F1, x ∈ F ∨ H x = none)) ?_ ?_
    · walk_at "go"
      refine o_fld ⟨dx, hob⟩ T.k_Log.cl T.n_Log__begin (lf_b _ _ _) ?_
      walk_at "go"
      refine i_d (fun z => ?_) (fun z => ?_)
      · walk_at "go"
        refine m_call0 ⟨dx, hob⟩ (lf_no _ _ _ (by decide +kernel)) ?_
        walk_at "go"
        obtain ⟨i', rfl⟩ : ∃ i', i = i' + 1 := ⟨i - 1, by omega⟩
        rw [show (L.bg : Int) + ((i' + 1 : Nat) : Int) - 1 = (L.bg : Int) + (i' : Nat) by omega]
        have m1 := hv.mono (i := i' + 1) (j := L.kept.length) hi (Nat.le_refl _)
        have m0 := hv.mono (i := 0) (j := n) (Nat.zero_le _) hv.su
        have m2 := hv.mono (i := n) (j := L.kept.length) hv.su (Nat.le_refl _)
        rw [hv.fkE] at m1 m2
        rw [hv.fk0] at m0
        refine ⟨q, p, F, G, S, L, i', n, rfl, hL0, hD, dj, by omega, by omega, r8, hv.pw, by omega, hv.su, hfo, by omega, by omega, by omega, fun z2 => ?_, fun z2 ns F2 H2 pm asc d2 l2 dj2 c2 f2 => ?_⟩
        · walk_at "go"
          have e : max n (i' + 1) = n := by omega
          exact ⟨rfl, F, S, L, c, hD, hL0, dj, by rw [e]; exact hv, by rw [e, ← hfo], fun x => Nat.le_refl _, Ch.refl, fun x hx => .inl hx⟩
        · walk_at "go"
          have e : max n (i' + 1) = i' + 1 := by omega
          have ev : (L.bg : Int) + ((i' + 1 : Nat) : Int) - 1 = (L.bg : Int) + (i' : Nat) := by omega
          refine ⟨rfl, F2, _, { L with fo := some ((L.bg : Int) + (i' : Nat)) }, _, d2, l2, dj2, by rw [e]; exact hv.forced (by omega) z2 pm, by rw [e, ev], fun x => ?_, c2, f2⟩
          rw [forceL_rows ns S hv.pw]
          split
          · exact Nat.zero_le _
          · exact Nat.le_refl _
      · walk_at "go"
        have e : max n i = n := by omega
        exact ⟨rfl, F, S, L, c, hD, hL0, dj, by rw [e]; exact hv, by rw [e, ← hfo], fun x => Nat.le_refl _, Ch.refl, fun x hx => .inl hx⟩
    rintro σ' H1 ⟨rfl, F1, S1, L1, c1, d1, l1, dj1, hv1, e1, r1, ch1, f1⟩
    have k1 : L1.kept = L.kept := by rw [e1]
    have g1 : L1.bg = L.bg := by rw [e1]
    have p1 : L1.ep = L.ep := by rw [e1]
    have n1 : L1.nk = L.nk := by rw [e1]
    have rg1 : L1.ring = L.ring := by rw [e1]
    have st1 : { L.start i with fo := some ((L.bg : Int) + (max n i : Nat) - 1) } = L1.start i := by rw [e1]; rfl
    rw [st1] at k
    have hv0 := hv.ok.ln
    clear hL0 hob hkl hka hv hD dj hfo
    rw [← k1] at hi few
    rw [← g1]
    rw [← n1] at b1
    rw [← p1] at b2
    rw [← g1] at b3
    clear st1 e1 ew
    have hl1 := l1
    obtain ⟨kl, ts, eG, ⟨dx, hob⟩, hkl, hka⟩ := l1
    have nqk : q ≠ kl := fun z => by rw [z, hkl] at hob; cases hob
    have qG : q ∈ G := by rw [eG]; simp
    have kG : kl ∈ G := by rw [eG]; simp
    walk_at "go"
    refine m_call0 ⟨dx, hob⟩ (lf_no _ _ _ (by decide +kernel)) ?_
    walk_at "go"
    refine ⟨q, p, G, L1, i, rfl, hl1, by omega, ?_⟩
    walk_at "go"
    refine o_fld ⟨dx, hob⟩ T.k_Log.cl T.n_Log__kept (lf_k _ _ _) ?_
    walk_at "go"
    refine o_fld ⟨dx, hob⟩ T.k_Log.cl T.n_Log__begin (lf_b _ _ _) ?_
    walk_at "go"
    rw [show (L1.bg : Int) + (i : Nat) - (L1.bg : Int) = ((i : Nat) : Int) by omega, cutV_from, ← List.map_drop]
    refine n_new0 fun kl2 H2 n2 s2 h2 => ?_
    have lts : ts.length = L1.kept.length := hka.1
    have hka2 : KeptAt K H2 (ts.drop i) (L1.kept.drop i) := by
      refine ⟨by rw [List.length_drop, List.length_drop, lts], fun j t r a b => ?_⟩
      rw [List.getElem?_drop] at a b
      obtain ⟨x, y1, y2⟩ := hka.2 (i + j) t r a b
      exact ⟨x, st_ s2 y1, st_ s2 y2⟩
    have hob2 := s2 _ _ hob
    have hl2 := hl1.same s2
    have d2 := d1.same s2
    with_reducible refine' s_seq ?_
    with_reducible refine' s_set ?_
    refine e_ifq (v := .int (epAt L1.ep L1.kept i : Nat)) ?_ fun cont => ?_
    rotate_left 1
    · have hsl2 := slO (K := K) h2
      refine e_ife ?_
      walk_at "go"
      by_cases hlt : i < L1.kept.length
      · have hlt2 : i < ts.length := by omega
        have hg := List.getElem?_eq_getElem hlt
        obtain ⟨x, y1, y2⟩ := hka.2 i _ _ (List.getElem?_eq_getElem hlt2) hg
        have ed : (ts.drop i).map V.ref = .ref ts[i] :: (ts.drop (i + 1)).map V.ref := by rw [List.drop_eq_getElem_cons hlt2]; rfl
        have ee : (epAt L1.ep L1.kept i : Nat) = (L1.kept[i]).2.2 := by unfold epAt; rw [hg]
        rw [ee] at cont
        rw [ed] at hsl2 ⊢
        refine i_t rfl ?_
        walk_at "go"
        refine o_ixL hsl2 (atI_in (j := 0) rfl rfl) ?_
        walk_at "go"
        refine o_ixT (st_ s2 y1) (atI_in (j := 2) rfl rfl) ?_
        exact cont
      · have ed : (ts.drop i).map V.ref = [] := by rw [List.drop_eq_nil_of_le (by omega)]; rfl
        have ee : (epAt L1.ep L1.kept i : Nat) = L1.ep := by unfold epAt; rw [List.getElem?_eq_none (by omega)]
        rw [ee] at cont
        rw [ed]
        refine i_f rfl ?_
        walk_at "go"
        refine o_fld ⟨dx, hob2⟩ T.k_Log.cl T.n_Log__epoch (lf_e _ _ _) ?_
        exact cont
    walk_at "go"
    refine o_fld ⟨dx, hob2⟩ T.k_Log.cl T.n_Log__disk (lf_d _ _ _) ?_
    obtain ⟨fs, hdo, no⟩ := ins_of_ds d2
    refine m_call0 hdo (no _ (by decide +kernel)) ?_
    walk_at "go"
    refine o_fld ⟨dx, hob2⟩ T.k_Log.cl T.n_Log__epoch (lf_e _ _ _) ?_
    walk_at "go"
    refine o_fld ⟨dx, hob2⟩ T.k_Log.cl T.n_Log__ring (lf_r _ _ _) ?_
    walk_at "go"
    have ebg : (L1.bg : Int) + (i : Nat) = ((L1.bg + i : Nat) : Int) := by omega
    rw [ebg]
    refine n_new (le_size (by simp)) fun t3 H3 n3 s3 h3 => ?_
    walk_at "go"
    have fn := hv1.mono (i := i) (j := L1.kept.length) hi (Nat.le_refl _)
    rw [hv1.fkE] at fn
    have fie : epAt L1.ep L1.kept i ≤ L1.ep := by
      unfold epAt
      split
      · next r e => exact (hv1.recs r (List.mem_of_getElem? e)).2
      · exact Nat.le_refl _
    have few1 := hv1.few1
    have r41 := hv1.r4
    have r81 := hv1.r8
    refine w_write (xs := Mst.ct (mAt (L1.start i) (epAt L1.ep L1.kept i))) (d2.same s3) (fun x => ?_) (by omega) (by omega) (stO h3) (mst_ok ⟨by show L1.ep ≤ _; omega, by show L1.ring ≤ _; omega, by show L1.fk i ≤ _; omega, by show L1.bg + i ≤ _; omega, by show epAt L1.ep L1.kept i ≤ _; omega⟩) fun F4 H4 d4 c4 f4 => ?_
    · have := r1 x
      have := hrow x
      omega
    have s23 := s2.trans s3
    have dj4 : ∀ x ∈ F4, x ∉ G := fun x hx z => by
      rcases f4 x hx with y | y
      · exact dj1 x y z
      · exact (hl2.same s3).there x z y
    have c14 : Ch F1 H1 H4 := fun b oo e cc => c4 b oo (s23 _ _ e) cc
    have f14 : ∀ x ∈ F4, x ∈ F1 ∨ H1 x = none := fun x hx => (f4 x hx).imp id (free_ s23)
    have hob4 := c4.at_ (fun z => dj1 q z qG) (s3 _ _ hob2)
    have h24 := c4.at_ (fun z => d1.there kl2 z n2) (s3 _ _ h2)
    obtain ⟨fs4, hdo4, no4⟩ := ins_of_ds d4
    walk_at "go"
    refine o_fld ⟨dx, hob4⟩ T.k_Log.cl T.n_Log__disk (lf_d _ _ _) ?_
    refine m_call0 hdo4 (no4 _ (by decide +kernel)) ?_
    walk_at "go"
    refine n_new (le_size (by simp)) fun t5 H5 n5 s5 h5 => ?_
    walk_at "go"
    refine ⟨p, F4, S1.wrote 0 (Mst.ct (mAt (L1.start i) (epAt L1.ep L1.kept i))), t5, [0], rfl, d4.same s5, stO h5, by decide, by decide +kernel, fun nn hn => by rw [List.mem_singleton.mp hn]; show (0 : Int) < (S1.lies.length : Nat); omega, fun H6 F6 d6 c6 f6 => ?_⟩
    have pw4 : (S1.wrote 0 (Mst.ct (mAt (L1.start i) (epAt L1.ep L1.kept i)))).pw = none := hv1.pw
    have ok4 : (S1.wrote 0 (Mst.ct (mAt (L1.start i) (epAt L1.ep L1.kept i)))).Ok := by
      obtain ⟨D, _, _, v⟩ := d4
      exact v.ok
    rw [if_pos (SD.forceL_true [0] _ pw4).1]
    obtain ⟨K', ks0', ks1', c', hv6⟩ := start_disk hv1 hi (Nat.le_max_right _ _) ok4
    have r6 := fun x => start_rows (ct := Mst.ct (mAt (L1.start i) (epAt L1.ep L1.kept i))) hv1 x
    generalize (SD.forceL [0] (S1.wrote 0 (Mst.ct (mAt (L1.start i) (epAt L1.ep L1.kept i))))).1 = S6 at *
    have dj6 : ∀ x ∈ F6, x ∉ G := fun x hx z => by
      rcases f6 x hx with y | y
      · exact dj4 x y z
      · have := c14.at_ (fun m => dj1 x m z) (o := (match H1 x with | some oo => oo | none => .tup [])) (by
          cases e : H1 x with
          | none => exact absurd e (hl1.there x z)
          | some oo => rfl)
        rw [free_ s5 y] at this
        cases this
    have hob6 := c6.at_ (fun z => dj4 q z qG) (s5 _ _ hob4)
    have kl2F4 : kl2 ∉ F4 := fun z => by
      rcases f4 kl2 z with y | y
      · exact d1.there kl2 y n2
      · rw [s3 _ _ h2] at y; cases y
    have h26 := c6.at_ kl2F4 (s5 _ _ h24)
    have kl2F6 : kl2 ∉ F6 := fun z => by
      rcases f6 kl2 z with y | y
      · exact kl2F4 y
      · rw [s5 _ _ h24] at y; cases y
    have c16 : Ch F1 H1 H6 := c14.trans ((Ch.of_same (F := F4) s5).trans c6 fun x hx => .inl hx) f14
    have f16 : ∀ x ∈ F6, x ∈ F1 ∨ H1 x = none := fun x hx => by
      rcases f6 x hx with y | y
      · exact f14 x y
      · exact ch_free c14 (free_ s5 y)
    have ka6 : KeptAt K H6 (ts.drop i) (L1.kept.drop i) := hka2.st fun cc ys h => c6.st (st_ s5 (c4.st (st_ s3 h)))
    have nq2 : q ≠ kl2 := fun z => by rw [z, n2] at hob; cases hob
    walk_at "go"
    refine s_fldO rfl hob6 T.k_Log.cl T.n_Log__kept (lf_len _ _ _) fun H7 o7 h7 => ?_
    rw [lf_pk] at h7
    walk_at "go"
    refine s_fldO rfl h7 T.k_Log.cl T.n_Log__begin (lf_len _ _ _) fun H8 o8 h8 => ?_
    rw [lf_pb] at h8
    walk_at "go"
    refine s_fldO rfl h8 T.k_Log.cl T.n_Log__begin_k (lf_len _ _ _) fun H9 o9 h9 => ?_
    rw [lf_pbk] at h9
    have o69 : ∀ b oo, b ≠ q → H6 b = some oo → H9 b = some oo := fun b oo nb e => o9 _ _ nb (o8 _ _ nb (o7 _ _ nb e))
    have c69 : Ch [q] H6 H9 := fun b oo e cc => by
      by_cases hbq : b = q
      · rcases cc with cc | cc
        · exact absurd (by rw [hbq]; simp) cc
        · rw [hbq, hob6] at e; cases e; cases cc
      · exact o69 b oo hbq e
    have qF6 : q ∉ F6 := fun z => dj6 q z qG
    refine k F6 [q, kl2] S6 (L1.start i) H9 ⟨kl2, ts.drop i, rfl, ⟨dx, h9⟩, o69 _ _ (Ne.symm nq2) h26, ka6.st fun cc ys h => c69.st h⟩ (d6.ch c69 fun x hx z => qF6 (by rw [← List.mem_singleton.mp z]; exact hx)) (fun x hx z => ?_) ⟨_, K', ks0', ks1', c', hv6⟩ rfl (fun x => Nat.le_trans (r6 x) (r1 x)) (fun b oo e cc => ?_) (fun x hx => ?_) fun x hx => ?_
    · rcases List.mem_cons.mp z with y | y
      · exact qF6 (y ▸ hx)
      · exact kl2F6 (List.mem_singleton.mp y ▸ hx)
    · have e1 := ch1 b oo e cc
      have e6 := c16 b oo e1 (cc.imp (fun z m => z (by
        refine List.mem_append_left _ ?_
        by_cases hF : b ∈ F
        · exact hF
        · rcases f1 b m with y | y
          · exact y
          · rw [e] at y; cases y)) id)
      exact c69 b oo e6 (cc.imp (fun z m => z (List.mem_append_right _ (by rw [List.mem_singleton.mp m]; exact qG))) id)
    · rcases f16 x hx with y | y
      · exact f1 x y
      · rcases ch_free ch1 y with u | u
        · rcases List.mem_append.mp u with v | v
          · exact .inl v
          · exact absurd y (hl1.there x v)
        · exact .inr u
    · rcases List.mem_cons.mp hx with y | y
      · rw [y]; exact .inl qG
      · rw [List.mem_singleton.mp y]
        rcases ch_free ch1 n2 with u | u
        · rcases List.mem_append.mp u with v | v
          · exact .inr (.inl v)
          · exact .inl v
        · exact .inr (.inr u)
end
end Vw

set_option Elab.async false
set_option linter.all false
set_option maxRecDepth 100000
set_option maxHeartbeats 4000000
namespace Vw
open PySem PySem.Spec PyProof.Rows L2 RT
local macro_rules | `(tactic| walk_at "s") => `(tactic| with_reducible first
  | refine' s_seq ?_ | refine' s_next ?_ | refine' s_set ?_ | refine' s_ret ?_ | refine' s_retN ?_ | refine' s_drop ?_ | refine' s_if ?_ | refine' s_ipI ?_
  | refine' e_c ?_ | refine' e_op ?_ | refine' e_un ?_ | refine' e_neg ?_ | refine' e_test ?_ | refine' e_tB ?_ | refine' e_bl ?_ | refine' e_and ?_ | refine' e_or ?_ | refine' e_not ?_
  | refine' e_andV ?_ | refine' e_orV ?_ | refine' e_notV ?_ | refine' e_kV ?_ | refine' e_ife ?_ | refine' e_nil ?_ | refine' e_cons ?_ | refine' e_cb ?_ | refine' e_call ?_ | refine' e_chain ?_
  | refine' o_addI ?_ | refine' o_eqI ?_ | refine' o_neI ?_ | refine' o_I0 ?_ | refine' o_pow16 ?_ | refine' o_pow17 ?_ | refine' o_pow18 ?_ | refine' o_pow19 ?_ | refine' o_pow30 ?_ | refine' o_pow31 ?_ | refine' o_pow1 ?_ | refine' o_pow2 ?_ | refine' o_pow3 ?_ | refine' o_pow4 ?_ | refine' o_pow5 ?_ | refine' o_pow6 ?_ | refine' o_pow9 ?_ | refine' o_pow10 ?_ | refine' o_pow12 ?_ | refine' o_pow15 ?_ | refine' o_pow20 ?_ | refine' e_lst ?_ | refine' e_tup ?_ | refine' iteT ?_ | refine' i_nt ?_ | refine' i_nf ?_ | refine' iteF ?_ | refine' c_int ?_ | refine' c_abs ?_ | refine' c_min2 ?_ | refine' c_max2 ?_ | refine' e_tru ?_ | refine' t_bl ?_ | refine' t_non ?_ | refine' t_int ?_ | refine' isN_non ?_ | refine' isN_int ?_ | refine' isN_ref ?_ | refine' isN_str ?_ | refine' isN_bl ?_ | refine' noN_non ?_ | refine' noN_int ?_ | refine' noN_ref ?_ | refine' noN_str ?_ | refine' noN_bl ?_
  | refine' s_brk ?_ | refine' s_cont ?_ | refine' s_for ?_ | refine' e_lc ?_ | refine' e_dc ?_ | refine' e_yes ?_ | refine' i_rng1 ?_ | refine' i_lst0 ?_ | refine' i_tup0 ?_ | refine' e_bm ?_ | refine' e_sl ?_ | refine' e_np ?_ | refine' e_pt ?_ | refine' e_ptI ?_ | refine' e_din ?_ | refine' e_dnin ?_ | refine' e_methE ?_ | refine' p_cons ?_ | refine' p_nil ?_ | refine' s_dput ?_ | refine' e_dget2 ?_ | refine' e_dpop1 ?_ | refine' i_enum0 ?_ | refine' i_rev0 ?_ | refine' g_sub ?_ | refine' s_asg ?_ | refine' i_zip0 ?_ | refine' e_revT ?_ | refine' isB_bl ?_ | refine' notB_bl ?_ | refine' o_neB ?_ | refine' i_nrr ?_ | refine' e_meth ?_ | refine' s_setf ?_ | refine' e_fld ?_ | refine' e_bm0 ?_ | refine' r_tx ?_ | refine' o_eqStr ?_ | refine' o_neStr ?_)
local macro_rules | `(tactic| walk_at "v") => `(tactic| ((with_reducible refine' e_var ?hv ?_); (case hv => exact rfl)))
local macro_rules | `(tactic| walk_at "a") => `(tactic| ((with_reducible refine' s_aug ?hv ?_); (case hv => exact rfl)))
local macro_rules | `(tactic| walk_at "m") => `(tactic| first
  | ((with_reducible refine' o_mod ?hv ?_); (case hv => first | decide | omega))
  | ((with_reducible refine' o_mulR ?hv ?_); (case hv => omega))
  | ((with_reducible refine' o_mulL ?hv ?_); (case hv => omega))
  | ((with_reducible refine' o_div ?hv ?hw ?_); (case hv => omega); (case hw => omega))
  | ((with_reducible refine' o_pow _ ?hv ?hw ?hx ?_); (case hv => exact rfl); (case hw => decide); (case hx => decide)))
local macro_rules | `(tactic| walk_at "i") => `(tactic| (first
  | ((with_reducible refine' isi_int true ?hv ?_); (case hv => exact (by decide +kernel)))
  | ((with_reducible refine' isi_int false ?hv ?_); (case hv => exact (by decide +kernel)))
  | ((with_reducible refine' isi_non true ?hv ?_); (case hv => exact (by decide +kernel)))
  | ((with_reducible refine' isi_non false ?hv ?_); (case hv => exact (by decide +kernel)))
  | ((with_reducible refine' isi_str true ?hv ?_); (case hv => exact (by decide +kernel)))
  | ((with_reducible refine' isi_str false ?hv ?_); (case hv => exact (by decide +kernel)))
  | ((with_reducible refine' isi_bl true ?hv ?_); (case hv => exact (by decide +kernel)))
  | ((with_reducible refine' isi_bl false ?hv ?_); (case hv => exact (by decide +kernel)))
  | ((with_reducible refine' isi_t true ?hw ?hv ?_); (case hw => assumption); (case hv => exact (by decide +kernel)))
  | ((with_reducible refine' isi_t false ?hw ?hv ?_); (case hw => assumption); (case hv => exact (by decide +kernel)))
  | ((with_reducible refine' isi_l true ?hw ?hv ?_); (case hw => assumption); (case hv => exact (by decide +kernel)))
  | ((with_reducible refine' isi_l false ?hw ?hv ?_); (case hw => assumption); (case hv => exact (by decide +kernel)))
  | ((with_reducible refine' isi_tup true ?hw ?hv ?_); (case hw => assumption); (case hv => exact (by decide +kernel)))
  | ((with_reducible refine' isi_tup false ?hw ?hv ?_); (case hw => assumption); (case hv => exact (by decide +kernel)))
  | ((with_reducible refine' isi_lst true ?hw ?hv ?_); (case hw => assumption); (case hv => exact (by decide +kernel)))
  | ((with_reducible refine' isi_lst false ?hw ?hv ?_); (case hw => assumption); (case hv => exact (by decide +kernel)))))
local macro_rules | `(tactic| walk_at "om") => `(tactic| first | omega | (simp only [List.length_cons, List.length_nil, List.length_map, List.length_append, List.length_range]; omega))
local macro_rules | `(tactic| walk_at "d") => `(tactic| (first
  | ((with_reducible refine' i_dt ?hv ?_); (case hv => walk_at "om"))
  | ((with_reducible refine' i_df ?hv ?_); (case hv => walk_at "om"))
  | ((with_reducible refine' i_ndt ?hv ?_); (case hv => walk_at "om"))
  | ((with_reducible refine' i_ndf ?hv ?_); (case hv => walk_at "om"))))
local macro_rules | `(tactic| walk_at "x") => `(tactic| first
  | ((with_reducible refine' o_ixA ?hv ?hw ?_); (case hv => assumption); (case hw => exact rfl))
  | ((with_reducible refine' o_ixU ?hv ?hw ?_); (case hv => assumption); (case hw => exact rfl))
  | ((with_reducible refine' o_ixL ?hv ?hw ?_); (case hv => assumption); (case hw => exact rfl))
  | ((with_reducible refine' o_ixT ?hv ?hw ?_); (case hv => assumption); (case hw => exact rfl))
  | ((with_reducible refine' set_ ?hv ?hw ?_); (case hv => assumption); (case hw => exact rfl))
  | ((with_reducible refine' e_lenM ?hv ?_); (case hv => first | assumption | exact slO (by assumption)))
  | ((with_reducible refine' e_lenN ?hv ?_); (case hv => first | assumption | exact stO (by assumption)))
  | ((with_reducible refine' e_lenL ?hv ?_); (case hv => first | assumption | exact slO (by assumption)))
  | ((with_reducible refine' e_lenT ?hv ?_); (case hv => first | assumption | exact stO (by assumption))))
local macro_rules | `(tactic| walk_at "c") => `(tactic| first
  | ((with_reducible refine' c_listL ?hv ?_); (case hv => assumption))
  | ((with_reducible refine' c_listT ?hv ?_); (case hv => assumption))
  | ((with_reducible refine' c_tupL ?hv ?_); (case hv => first | assumption | exact slO (by assumption)))
  | ((with_reducible refine' c_tupT ?hv ?_); (case hv => assumption))
  | ((with_reducible refine' t_lst ?hv ?_); (case hv => first | assumption | exact slO (by assumption)))
  | ((with_reducible refine' t_tup ?hv ?_); (case hv => assumption))
  | ((with_reducible refine' r_sl ?hv ?_); (case hv => first | assumption | exact slO (by assumption)))
  | ((with_reducible refine' o_inL ?hv ?_); (case hv => first | assumption | exact slO (by assumption)))
  | ((with_reducible refine' o_inT ?hv ?_); (case hv => first | assumption | exact stO (by assumption)))
  | ((with_reducible refine' o_niL ?hv ?_); (case hv => first | assumption | exact slO (by assumption)))
  | ((with_reducible refine' o_niT ?hv ?_); (case hv => first | assumption | exact stO (by assumption)))
  | ((with_reducible refine' ty_lst ?hv ?_); (case hv => assumption)))
local macro_rules | `(tactic| walk_at "mo") => `(tactic| repeat' (first | exact m_yes | exact m_var | exact m_c | exact m_I0 | exact m_I | exact m_ix | exact m_add | exact m_in | exact m_int1 | exact m_abs | exact m_nil | refine' m_and ?_ ?_ | refine' m_test ?_ | refine' m_tB ?_ | refine' m_op ?_ ?_ ?_ | refine' m_cons ?_ ?_ | refine' m_cb ?_ ?_))
local macro_rules | `(tactic| walk_at "go") => `(tactic| repeat' (first | walk_at "s" | walk_at "v" | walk_at "a" | walk_at "x" | walk_at "m" | walk_at "c" | walk_at "i" | walk_at "d"))

section
variable {P : Program} {w : World} {K : PySem.W.Frag} {mg : Str → Option Value} {base : Heap}
theorem s_par {i j : Nat} {ta : TA} {D : Ends} {σ : L2.St} {H : Hp} (h : ta σ H fun vs H1 => ∃ v w, vs = [v, w] ∧ D.nx ((σ.set i (some v)).set j (some w)) H1) : tPar i j ta D σ H := h
def MakeQ (C : Addr) (sp : Sp) (dvs : List V) (E : XK) (vs : List V) (H1 : Hp) (Q : VK) : Prop := ∀ x dx, H1 x = none → H1 dx = none → dx ≠ x → sp (.ref x :: (vs ++ dvs)) (upd (upd H1 dx (.own x)) x (.ins C dx [])) (fun v H2 => v = .non ∧ Q (.ref x) H2) E
theorem e_make {C : Addr} {sp : Sp} {dvs : List V} {E : XK} {t : TA} {σ : L2.St} {H : Hp} {Q : VK} (h : t σ H fun vs H1 => MakeQ C sp dvs E vs H1 Q) : tMake C sp dvs E t σ H Q := h
theorem few_nil {S : SD} (h : ∀ x, S.rows x = []) : Few S := ⟨[], by decide, fun b hb => absurd (h b) hb⟩
/-! ### the law's objects, side by side -/
theorem bag_ch {B : Bg} {F : List Addr} {H0 H H' : Hp} (b0 : BagAt K H0 B) (b : BagAt K H B) (c : Ch F H H') (n : ∀ x ∈ F, H0 x = none) : BagAt K H' B := by
  obtain ⟨_, _, _, _, z1, z2, _⟩ := b0
  obtain ⟨i, big, x, cc, h1, h2, h3⟩ := b
  refine ⟨i, big, x, cc, c.at_ (fun m => by rw [n _ m] at z1; cases z1) h1, ?_, h3⟩
  rcases z2 with (s | ⟨u, s⟩) | s
  · exact c.sl (fun m => by rw [n _ m] at s; cases s) h2
  · exact c.sl (fun m => by rw [n _ m] at s; cases s) h2
  · exact .inr s
theorem Hs.ch {B : Bg} {H H' : Hp} (b : BagAt K H B) (h : Hs K B H H') : Ch [B.hd] H H' := by
  obtain ⟨ys, q⟩ := bag_lst b
  exact Ch.of_oth h.o (by simp) fun o e => by rw [q] at e; cases e; rfl
theorem MS.there {m : Addr} {G : List Addr} {H : Hp} {L : LD} (h : MS K H m G L) : ∀ a ∈ G, H a ≠ none := by
  obtain ⟨rl, ts, rfl, h1, h2, h3⟩ := h
  intro a q e
  rcases List.mem_cons.mp q with z | z
  · rw [z, h1] at e; cases e
  · rw [List.mem_singleton.mp z, h2] at e; cases e
structure Wd (K : PySem.W.Frag) (CD : Addr) (H0 H : Hp) (B : Bg) (p : Addr) (F : List Addr) (S : SD) (m : Addr) (G : List Addr) (L : LD) : Prop where
  b0 : BagAt K H0 B
  al : ∀ x, H x = none → H0 x = none
  bag : BagAt K H B
  ds : DS K CD H p F S
  ms : MS K H m G L
  f0 : ∀ x ∈ F, H0 x = none
  g0 : ∀ x ∈ G, H0 x = none
  dj : ∀ x ∈ F, x ∉ G
structure WL (K : PySem.W.Frag) (CD CL : Addr) (H0 H : Hp) (B : Bg) (p : Addr) (F : List Addr) (S : SD) (m : Addr) (G : List Addr) (LM : LD) (q : Addr) (GL : List Addr) (LL : LD) : Prop where
  w : Wd K CD H0 H B p F S m G LM
  ls : LS K CL H q p GL LL
  l0 : ∀ x ∈ GL, H0 x = none
  fl : ∀ x ∈ F, x ∉ GL
  gl : ∀ x ∈ G, x ∉ GL
section
variable {CD CL p m q : Addr} {H0 H H' : Hp} {B : Bg} {F G GL : List Addr} {S : SD} {L LM LL : LD} {Q : VK} {E : XK} {n : Nat}
theorem bag0_ne (b0 : BagAt K H0 B) {x : Addr} (h : H0 x = none) : x ∉ [B.hd] := fun z => by
  obtain ⟨ys, e⟩ := bag_lst b0
  rw [List.mem_singleton.mp z, e] at h; cases h
theorem Wd.hs (w : Wd K CD H0 H B p F S m G L) (h : Hs K B H H') : Wd K CD H0 H' B p F S m G L :=
  ⟨w.b0, fun x e => w.al x (h.free e), h.b, w.ds.ch (h.ch w.bag) fun a ha => bag0_ne w.b0 (w.f0 a ha), w.ms.ch (h.ch w.bag) fun a ha => bag0_ne w.b0 (w.g0 a ha), w.f0, w.g0, w.dj⟩
theorem Wd.same (w : Wd K CD H0 H B p F S m G L) (s : Same H H') : Wd K CD H0 H' B p F S m G L :=
  ⟨w.b0, fun x e => w.al x (s.free e), bag_same w.bag s, w.ds.same s, w.ms.same s, w.f0, w.g0, w.dj⟩
theorem WL.hs (w : WL K CD CL H0 H B p F S m G LM q GL LL) (h : Hs K B H H') : WL K CD CL H0 H' B p F S m G LM q GL LL :=
  ⟨w.w.hs h, w.ls.ch (h.ch w.w.bag) fun a ha => bag0_ne w.w.b0 (w.l0 a ha), w.l0, w.fl, w.gl⟩
theorem WL.same (w : WL K CD CL H0 H B p F S m G LM q GL LL) (s : Same H H') : WL K CD CL H0 H' B p F S m G LM q GL LL :=
  ⟨w.w.same s, w.ls.same s, w.l0, w.fl, w.gl⟩
/-- what a deed on the disk (and the log) leaves -/
theorem Wd.deed {F' X : List Addr} {S' : SD} (w : Wd K CD H0 H B p F S m G L) (d : DS K CD H' p F' S') (c : Ch X H H') (x0 : ∀ x ∈ X, H0 x = none) (xg : ∀ x ∈ X, x ∉ G) (f : ∀ x ∈ F', x ∈ F ∨ H x = none) : Wd K CD H0 H' B p F' S' m G L := by
  refine ⟨w.b0, fun x e => ?_, bag_ch w.b0 w.bag c x0, d, w.ms.ch c fun a ha z => xg a z ha, fun x hx => ?_, w.g0, fun x hx z => ?_⟩
  · rcases ch_free c e with y | y
    · exact x0 x y
    · exact w.al x y
  · rcases f x hx with y | y
    · exact w.f0 x y
    · exact w.al x y
  · rcases f x hx with y | y
    · exact w.dj x y z
    · exact w.ms.there x z y
theorem WL.disk {F' : List Addr} {S' : SD} (w : WL K CD CL H0 H B p F S m G LM q GL LL) (d : DS K CD H' p F' S') (c : Ch F H H') (f : ∀ x ∈ F', x ∈ F ∨ H x = none) : WL K CD CL H0 H' B p F' S' m G LM q GL LL := by
  refine ⟨w.w.deed d c w.w.f0 (fun x hx => w.w.dj x hx) f, w.ls.ch c fun a ha z => w.fl a z ha, w.l0, fun x hx z => ?_, w.gl⟩
  rcases f x hx with y | y
  · exact w.fl x y z
  · exact w.ls.there x z y
variable {fi K0 : Nat} {ks0 ks1 : List Kp} {c o : Nat → Option Pc} {Cs : Addr} {i : Nat}
theorem Wd.fo {f : Option Int} (w : Wd K CD H0 H B p F S m G L) : Wd K CD H0 H B p F S m G { L with fo := f } := ⟨w.b0, w.al, w.bag, w.ds, w.ms, w.f0, w.g0, w.dj⟩
theorem wl_append {a : Addr} {xs : List V} (h : WL K CD CL H0 H B p F S m G L q GL L) (hv : Inv S L fi K0 ks0 ks1 c o n) (ok : RecOk xs) (ha : SqT K H a xs) (room : L.nk + cutN xs ≤ L.bk + L.ring) (b1 : L.nk ≤ 1000000) (b2 : L.ep ≤ 1000000) (b3 : L.bg ≤ 1000000) (rows : ∀ x, (S.rows x).length ≤ 800)
    (k : ∀ F' H', WL K CD CL H0 H' B p F' (S.puts (L.puts xs)) m G L q GL (L.more xs L.ep) → Inv (S.puts (L.puts xs)) (L.more xs L.ep) fi K0 ks0 (ks1 ++ [(xs, L.nk, L.ep)]) c o n → (∀ c ys, SqT K H c ys → SqT K H' c ys) → Q (.int L.no) H') : sp_append K CL CD [.ref q, .ref a] H Q E := by
  have f := hv.few1
  have eno : L.no ≤ 1000000000 := by unfold LD.no; omega
  refine ⟨q, p, F, GL, S, L, a, xs, rfl, h.ls, h.w.ds, h.fl, ha, ok, by omega, by have := hv.r4; omega, hv.r8, room, by omega, by omega, eno, rows, fun F' H' d' l' dj' c' f' => ?_⟩
  have x0 : ∀ x ∈ F ++ GL, H0 x = none := fun x hx => (List.mem_append.mp hx).elim (h.w.f0 x) (h.l0 x)
  have okT : (S.puts (L.puts xs)).Ok := by
    obtain ⟨D, _, _, v⟩ := d'
    exact v.ok
  refine k F' H' ⟨h.w.deed d' c' x0 (fun x hx z => ?_) f', l', h.l0, dj', h.gl⟩ (hv.append ok room okT) fun c ys s => c'.st s
  rcases List.mem_append.mp hx with y | y
  · exact h.w.dj x y z
  · exact h.gl x z y
theorem wl_added {a : Addr} {xs : List V} (h : WL K CD CL H0 H B p F S m G L q GL LL) (ha : SqT K H a xs) (hn : L.kept.length ≤ 10000) (hx : ∀ r ∈ L.kept, r.1.length ≤ 30000) (hk : L.nk = L.nkOf)
    (k : ∀ G' H', WL K CD CL H0 H' B p F S m G' (L.more xs L.ep) q GL LL → (∀ c ys, SqT K H c ys → SqT K H' c ys) → Q (.int L.no) H') : sp_added K [.ref m, .ref a] H Q E := by
  have mG : m ∈ G := by
    obtain ⟨rl, ts, e, _⟩ := h.w.ms
    rw [e]; simp
  refine ⟨m, G, L, a, xs, rfl, h.w.ms, ha, hn, hx, hk, fun l2 H' m' c' n2 => ?_⟩
  have m0 : ∀ x ∈ [m], H0 x = none := fun x hx => by rw [List.mem_singleton.mp hx]; exact h.w.g0 m mG
  have mF : ∀ x ∈ F, x ∉ [m] := fun x hx z => h.w.dj x hx (by rw [List.mem_singleton.mp z]; exact mG)
  have mL : ∀ x ∈ GL, x ∉ [m] := fun x hx z => h.gl m mG (by rw [← List.mem_singleton.mp z]; exact hx)
  refine k _ H' ⟨⟨h.w.b0, fun x e => ?_, bag_ch h.w.b0 h.w.bag c' m0, h.w.ds.ch c' mF, m', h.w.f0, fun x hx => ?_, fun x hx z => ?_⟩, h.ls.ch c' mL, h.l0, h.fl, fun x hx z => ?_⟩ fun c ys s => c'.st s
  · rcases ch_free c' e with y | y
    · exact m0 x y
    · exact h.w.al x y
  · rcases List.mem_cons.mp hx with y | y
    · rw [y]; exact h.w.g0 m mG
    · rw [List.mem_singleton.mp y]; exact h.w.al l2 n2
  · rcases List.mem_cons.mp z with y | y
    · exact h.w.dj x hx (by rw [y]; exact mG)
    · exact h.w.ds.there x hx (by rw [List.mem_singleton.mp y]; exact n2)
  · rcases List.mem_cons.mp hx with y | y
    · exact h.gl m mG (by rw [← y]; exact z)
    · exact h.ls.there x z (by rw [List.mem_singleton.mp y]; exact n2)
theorem wl_force (h : WL K CD CL H0 H B p F S m G L q GL L) (hv : Inv S L fi K0 ks0 ks1 c o n) (fo : L.fo = some ((L.bg : Int) + n - 1)) (hi : i < L.kept.length) (b1 : L.nk ≤ 1000000)
    (k : ∀ F' S' L' c' H', WL K CD CL H0 H' B p F' S' m G L' q GL L' → Inv S' L' fi K0 ks0 ks1 c' o (max n (i + 1)) → L' = { L with fo := some ((L.bg : Int) + (max n (i + 1) : Nat) - 1) } → (∀ x, (S'.rows x).length ≤ (S.rows x).length) → (∀ c ys, SqT K H c ys → SqT K H' c ys) → Q .non H') : sp_lforce K CL CD [.ref q, .int ((L.bg : Int) + i)] H Q E := by
  have f := hv.few1
  have m1 := hv.mono (i := i + 1) (j := L.kept.length) hi (Nat.le_refl _)
  have m0 := hv.mono (i := 0) (j := n) (Nat.zero_le _) hv.su
  have m2 := hv.mono (i := n) (j := L.kept.length) hv.su (Nat.le_refl _)
  rw [hv.fkE] at m1 m2
  rw [hv.fk0] at m0
  have hn := hv.nk
  refine ⟨q, p, F, GL, S, L, i, n, rfl, h.ls, h.w.ds, h.fl, by omega, by have := hv.r4; omega, hv.r8, hv.pw, hi, hv.su, fo, by omega, by omega, by omega, fun z => ?_, fun z ns F' H' pm asc d' l' dj' c' f' => ?_⟩
  · have e : max n (i + 1) = n := by omega
    refine k F S L c H h (by rw [e]; exact hv) (by rw [e, ← fo]) (fun x => Nat.le_refl _) fun c ys s => s
  · have e : max n (i + 1) = i + 1 := by omega
    have x0 : ∀ x ∈ F ++ GL, H0 x = none := fun x hx => (List.mem_append.mp hx).elim (h.w.f0 x) (h.l0 x)
    have ev : (L.bg : Int) + ((i + 1 : Nat) : Int) - 1 = (L.bg : Int) + (i : Nat) := by omega
    refine k F' _ { L with fo := some ((L.bg : Int) + i) } _ H' ⟨?_, l', h.l0, dj', h.gl⟩ (by rw [e]; exact hv.forced hi z pm) (by rw [e, ev]) (fun x => ?_) fun c ys s => c'.st s
    · refine (h.w.deed d' c' x0 (fun x hx y => ?_) f').fo
      rcases List.mem_append.mp hx with u | u
      · exact h.w.dj x u y
      · exact h.gl x y u
    · rw [forceL_rows ns S hv.pw]
      split
      · exact Nat.zero_le _
      · exact Nat.le_refl _
theorem wl_begin (h : WL K CD CL H0 H B p F S m G L q GL L) (hv : Inv S L fi K0 ks0 ks1 c o n) (fo : L.fo = some ((L.bg : Int) + n - 1)) (hi : i ≤ L.kept.length) (b1 : L.nk ≤ 1000000) (b2 : L.ep ≤ 1000000) (b3 : L.bg ≤ 1000000) (rows : ∀ x, (S.rows x).length ≤ 800)
    (k : ∀ F' GL' S' L' H', WL K CD CL H0 H' B p F' S' m G L q GL' L' → (∃ fi' K' ks0' ks1' c', Inv S' L' fi' K' ks0' ks1' c' o (max n i - i)) → L' = { L.start i with fo := some ((L.bg : Int) + (max n i : Nat) - 1) } → (∀ x, (S'.rows x).length ≤ (S.rows x).length) → (∀ c ys, SqT K H c ys → SqT K H' c ys) → Q .non H') : sp_begin_at K CL CD [.ref q, .int ((L.bg : Int) + i)] H Q E := by
  refine ⟨q, p, F, GL, S, L, i, n, fi, K0, ks0, ks1, c, o, rfl, h.ls, h.w.ds, h.fl, hv, fo, hi, b1, b2, b3, rows, fun F' G' S' L' H' l' d' dj' v' e' r' c' f' g' => ?_⟩
  have x0 : ∀ x ∈ F ++ GL, H0 x = none := fun x hx => (List.mem_append.mp hx).elim (h.w.f0 x) (h.l0 x)
  refine k F' G' S' L' H' ⟨h.w.deed d' c' x0 (fun x hx z => ?_) f', l', fun x hx => ?_, dj', fun x hx z => ?_⟩ v' e' r' fun c ys s => c'.st s
  · rcases List.mem_append.mp hx with y | y
    · exact h.w.dj x y z
    · exact h.gl x z y
  · rcases g' x hx with y | y | y
    · exact h.l0 x y
    · exact h.w.f0 x y
    · exact h.w.al x y
  · rcases g' x z with y | y | y
    · exact h.gl x hx y
    · exact h.w.dj x y hx
    · exact h.w.ms.there x hx y
theorem wl_reach {b : Int} {x : Ct} {cs : List Ct} (h : WL K CD CL H0 H B p F S m G L q GL L) (hv : Inv S L fi K0 ks0 ks1 c o n) (e : S.rows b = x :: cs)
    (k : ∀ F' S' c' H', WL K CD CL H0 H' B p F' S' m G L q GL L → Inv S' L fi K0 ks0 ks1 c' o n → (∀ x, (S'.rows x).length ≤ (S.rows x).length) → (∀ c ys, SqT K H c ys → SqT K H' c ys) → Q .non H') : sp_reach1 K CD Cs [.ref p, .int b] H Q E := by
  refine ⟨p, F, S, b, x, cs, rfl, h.w.ds, e, fun z => ?_, fun _ H' F' d' c' f' => ?_⟩
  · rw [hv.pw] at z; cases z
  · obtain ⟨kk, _, _, _, _, hv'⟩ := hv.reach e
    refine k F' _ _ H' (h.disk d' c' fun x hx => .inl (f' x hx)) hv' (fun y => ?_) fun c ys s => c'.st s
    show (if y = b then cs else S.rows y).length ≤ _
    split
    · next z => rw [z, e, List.length_cons]; omega
    · exact Nat.le_refl _
theorem wd_cut (h : Wd K CD H0 H B p F S m G L)
    (k : ∀ F' H', Wd K CD H0 H' B p F' S.cut m G L → (∀ c ys, SqT K H c ys → SqT K H' c ys) → Q .non H') : sp_disk_cut CD [.ref p] H Q E :=
  w_cut h.ds fun F' H' d' c' f' => k F' H' (h.deed d' c' h.f0 h.dj f') fun c ys s => c'.st s
theorem mk_log (h : Wd K CD H0 H B p F S m G LM) (hc : Closed S L fi c) (b1 : L.bk ≤ 1000000) (b2 : L.ep ≤ 1000000) (b3 : L.bg ≤ 1000000)
    (k : ∀ q GL F' T H', WL K CD CL H0 H' B p F' T m G LM q GL L.up → Inv T L.up fi L.nk L.kept [] c (oo L c) L.kept.length → (∀ x, T.rows x = []) → (∀ c ys, SqT K H c ys → SqT K H' c ys) → Q (.ref q) H') : MakeQ CL (sp_init K CL CD) [] E [.ref p] H Q := by
  intro q dx nq ndx ne
  show sp_init K CL CD [.ref q, .ref p] _ _ _
  have hq5 : upd (upd H dx (.own q)) q (.ins CL dx []) q = some (.ins CL dx []) := upd_same
  have s5 : Same H (upd (upd H dx (.own q)) q (.ins CL dx [])) := fun x o e => by
    rw [upd_ne (ne_of_none e nq), upd_ne (ne_of_none e ndx)]; exact e
  generalize upd (upd H dx (.own q)) q (.ins CL dx []) = H5 at *
  have r4 := hc.r4
  have r8 := hc.r8
  have ln := hc.ok.ln
  have hf := hc.fie
  refine ⟨q, p, F, S, mAt L fi, c, rfl, ⟨dx, hq5⟩, fun z => h.ds.there q z nq, h.ds.same s5, ?_, hc.r4, hc.r8, by show L.bk ≤ _; omega, by show L.ep ≤ _; omega, by show L.bg ≤ _; omega, by show fi ≤ _; omega, hc.pw, few_nil hc.rows, fun j hj => ?_, fun T F' GL H' op d' l' dj' c' f' g' => ⟨rfl, ?_⟩⟩
  · rw [shows_lies (hc.rows _)]; exact hc.l0
  · have hj : j < L.ring := hj
    have := hc.li (L.bk + j) (by omega) (by omega)
    refine ⟨?_, this.2⟩
    rw [shows_lies (hc.rows _)]
    show S.lies[((1 : Int) + (((L.bk + j) % L.ring : Nat) : Int)).toNat]? = _
    rw [show ((1 : Int) + (((L.bk + j) % L.ring : Nat) : Int)).toNat = 1 + (L.bk + j) % L.ring by omega]
    exact this.1
  obtain ⟨e1, hv'⟩ := hc.opened op
  rw [e1] at l'
  have cF : Ch F H H' := fun b o e c => c' b o (s5 _ _ e) (c.imp (fun z y => by
    rcases List.mem_cons.mp y with y | y
    · rw [y, nq] at e; cases e
    · exact z y) id)
  have f2 : ∀ x ∈ F', x ∈ F ∨ H x = none := fun x hx => (f' x hx).imp id (free_ s5)
  have g2 : ∀ x ∈ GL, x ∈ F ∨ H x = none := fun x hx => by
    rcases g' x hx with y | y | y
    · rw [y]; exact .inr nq
    · exact .inl y
    · exact .inr (free_ s5 y)
  refine k q GL F' T H' ⟨h.deed d' cF h.f0 (fun x hx => h.dj x hx) f2, l', fun x hx => (g2 x hx).elim (h.f0 x) (h.al x), dj', fun x hx z => ?_⟩ hv' op.rows fun c ys s => cF.st s
  rcases g2 x z with y | y
  · exact h.dj x y hx
  · exact h.ms.there x hx y
theorem wl_ins (h : WL K CD CL H0 H B p F S m G LM q GL LL) : ∃ kl dx, H q = some (.ins CL dx (lf p kl LL)) := by
  obtain ⟨kl, ts, _, ⟨dx, hob⟩, _⟩ := h.ls
  exact ⟨kl, dx, hob⟩
theorem ms_rows {m : Addr} {G : List Addr} {H : Hp} (h : MS K H m G L) : ∃ (rl : Addr) (ts : List Addr), H m = some (.dK (mkv L rl)) ∧ H rl = some (.lst (ts.map V.ref)) ∧ ts.length = L.kept.length := by
  obtain ⟨rl, ts, _, h1, h2, h3⟩ := h
  exact ⟨rl, ts, h1, h2, h3.1⟩
/-- the model's epoch set -/
theorem MS.ep {e : Nat} {m : Addr} {G : List Addr} (h : MS K H m G L) : ∃ kvs, H m = some (.dK kvs) ∧ kvs.length < 100000 ∧ MS K (upd H m (.dK (putK kvs (Sum.inr "epoch") (.int e)))) m G { L with ep := e } ∧ Ch [m] H (upd H m (.dK (putK kvs (Sum.inr "epoch") (.int e)))) := by
  obtain ⟨rl, ts, eG, hm, hr, hrows⟩ := h
  have c5 : Ch [m] H (upd H m (.dK (putK (mkv L rl) (Sum.inr "epoch") (.int e)))) := Ch.upd1 (by simp) fun o e => by rw [hm] at e; cases e; rfl
  have nm : rl ≠ m := fun z => by rw [z, hm] at hr; cases hr
  exact ⟨_, hm, by show 5 < 100000; decide, ⟨rl, ts, eG, upd_same, (upd_ne nm).trans hr, hrows.st fun c ys s => c5.st s⟩, c5⟩
theorem MS.fo {f : Option Int} {m : Addr} {G : List Addr} (h : MS K H m G L) : MS K H m G { L with fo := f } := h
theorem WL.ep {e : Nat} {f : Option Int} (h : WL K CD CL H0 H B p F S m G L q GL LL) : ∃ kvs, H m = some (.dK kvs) ∧ kvs.length < 100000 ∧ WL K CD CL H0 (upd H m (.dK (putK kvs (Sum.inr "epoch") (.int e)))) B p F S m G { L with ep := e, fo := f } q GL LL ∧ ∀ c ys, SqT K H c ys → SqT K (upd H m (.dK (putK kvs (Sum.inr "epoch") (.int e)))) c ys := by
  have mG : m ∈ G := by
    obtain ⟨rl, ts, e, _⟩ := h.w.ms
    rw [e]; simp
  obtain ⟨kvs, h1, h2, h3, c⟩ := MS.ep (e := e) h.w.ms
  have m0 : ∀ x ∈ [m], H0 x = none := fun x hx => by rw [List.mem_singleton.mp hx]; exact h.w.g0 m mG
  have mF : ∀ x ∈ F, x ∉ [m] := fun x hx z => h.w.dj x hx (by rw [List.mem_singleton.mp z]; exact mG)
  have mL : ∀ x ∈ GL, x ∉ [m] := fun x hx z => h.gl m mG (by rw [← List.mem_singleton.mp z]; exact hx)
  refine ⟨kvs, h1, h2, ⟨⟨h.w.b0, fun x z => ?_, bag_ch h.w.b0 h.w.bag c m0, h.w.ds.ch c mF, h3.fo, h.w.f0, h.w.g0, h.w.dj⟩, h.ls.ch c mL, h.l0, h.fl, h.gl⟩, fun c' ys s => c.st s⟩
  rcases ch_free c z with y | y
  · exact m0 x y
  · exact h.w.al x y
end
end
end Vw

set_option Elab.async false
set_option linter.all false
set_option maxRecDepth 100000
set_option maxHeartbeats 4000000
namespace Vw
open PySem PySem.Spec PyProof.Rows L2 RT
local macro_rules | `(tactic| walk_at "s") => `(tactic| with_reducible first
  | refine' s_seq ?_ | refine' s_next ?_ | refine' s_set ?_ | refine' s_ret ?_ | refine' s_retN ?_ | refine' s_drop ?_ | refine' s_if ?_ | refine' s_ipI ?_
  | refine' e_c ?_ | refine' e_op ?_ | refine' e_un ?_ | refine' e_neg ?_ | refine' e_test ?_ | refine' e_tB ?_ | refine' e_bl ?_ | refine' e_and ?_ | refine' e_or ?_ | refine' e_not ?_
  | refine' e_andV ?_ | refine' e_orV ?_ | refine' e_notV ?_ | refine' e_kV ?_ | refine' e_ife ?_ | refine' e_nil ?_ | refine' e_cons ?_ | refine' e_cb ?_ | refine' e_call ?_ | refine' e_chain ?_
  | refine' o_addI ?_ | refine' o_eqI ?_ | refine' o_neI ?_ | refine' o_I0 ?_ | refine' o_pow16 ?_ | refine' o_pow17 ?_ | refine' o_pow18 ?_ | refine' o_pow19 ?_ | refine' o_pow30 ?_ | refine' o_pow31 ?_ | refine' o_pow1 ?_ | refine' o_pow2 ?_ | refine' o_pow3 ?_ | refine' o_pow4 ?_ | refine' o_pow5 ?_ | refine' o_pow6 ?_ | refine' o_pow9 ?_ | refine' o_pow10 ?_ | refine' o_pow12 ?_ | refine' o_pow15 ?_ | refine' o_pow20 ?_ | refine' e_lst ?_ | refine' e_tup ?_ | refine' iteT ?_ | refine' i_nt ?_ | refine' i_nf ?_ | refine' iteF ?_ | refine' c_int ?_ | refine' c_abs ?_ | refine' c_min2 ?_ | refine' c_max2 ?_ | refine' e_tru ?_ | refine' t_bl ?_ | refine' t_non ?_ | refine' t_int ?_ | refine' isN_non ?_ | refine' isN_int ?_ | refine' isN_ref ?_ | refine' isN_str ?_ | refine' isN_bl ?_ | refine' noN_non ?_ | refine' noN_int ?_ | refine' noN_ref ?_ | refine' noN_str ?_ | refine' noN_bl ?_
  | refine' s_brk ?_ | refine' s_cont ?_ | refine' s_for ?_ | refine' e_lc ?_ | refine' e_dc ?_ | refine' e_yes ?_ | refine' i_rng1 ?_ | refine' i_lst0 ?_ | refine' i_tup0 ?_ | refine' e_bm ?_ | refine' e_sl ?_ | refine' e_np ?_ | refine' e_pt ?_ | refine' e_ptI ?_ | refine' e_din ?_ | refine' e_dnin ?_ | refine' e_methE ?_ | refine' p_cons ?_ | refine' p_nil ?_ | refine' s_dput ?_ | refine' e_dget2 ?_ | refine' e_dpop1 ?_ | refine' i_enum0 ?_ | refine' i_rev0 ?_ | refine' g_sub ?_ | refine' s_asg ?_ | refine' i_zip0 ?_ | refine' e_revT ?_ | refine' isB_bl ?_ | refine' notB_bl ?_ | refine' o_neB ?_ | refine' i_nrr ?_ | refine' e_meth ?_ | refine' s_setf ?_ | refine' e_fld ?_ | refine' e_bm0 ?_ | refine' r_tx ?_ | refine' o_eqStr ?_ | refine' o_neStr ?_)
local macro_rules | `(tactic| walk_at "v") => `(tactic| ((with_reducible refine' e_var ?hv ?_); (case hv => exact rfl)))
local macro_rules | `(tactic| walk_at "a") => `(tactic| ((with_reducible refine' s_aug ?hv ?_); (case hv => exact rfl)))
local macro_rules | `(tactic| walk_at "m") => `(tactic| first
  | ((with_reducible refine' o_mod ?hv ?_); (case hv => first | decide | omega))
  | ((with_reducible refine' o_mulR ?hv ?_); (case hv => omega))
  | ((with_reducible refine' o_mulL ?hv ?_); (case hv => omega))
  | ((with_reducible refine' o_div ?hv ?hw ?_); (case hv => omega); (case hw => omega))
  | ((with_reducible refine' o_pow _ ?hv ?hw ?hx ?_); (case hv => exact rfl); (case hw => decide); (case hx => decide)))
local macro_rules | `(tactic| walk_at "i") => `(tactic| (first
  | ((with_reducible refine' isi_int true ?hv ?_); (case hv => exact (by decide +kernel)))
  | ((with_reducible refine' isi_int false ?hv ?_); (case hv => exact (by decide +kernel)))
  | ((with_reducible refine' isi_non true ?hv ?_); (case hv => exact (by decide +kernel)))
  | ((with_reducible refine' isi_non false ?hv ?_); (case hv => exact (by decide +kernel)))
  | ((with_reducible refine' isi_str true ?hv ?_); (case hv => exact (by decide +kernel)))
  | ((with_reducible refine' isi_str false ?hv ?_); (case hv => exact (by decide +kernel)))
  | ((with_reducible refine' isi_bl true ?hv ?_); (case hv => exact (by decide +kernel)))
  | ((with_reducible refine' isi_bl false ?hv ?_); (case hv => exact (by decide +kernel)))
  | ((with_reducible refine' isi_t true ?hw ?hv ?_); (case hw => assumption); (case hv => exact (by decide +kernel)))
  | ((with_reducible refine' isi_t false ?hw ?hv ?_); (case hw => assumption); (case hv => exact (by decide +kernel)))
  | ((with_reducible refine' isi_l true ?hw ?hv ?_); (case hw => assumption); (case hv => exact (by decide +kernel)))
  | ((with_reducible refine' isi_l false ?hw ?hv ?_); (case hw => assumption); (case hv => exact (by decide +kernel)))
  | ((with_reducible refine' isi_tup true ?hw ?hv ?_); (case hw => assumption); (case hv => exact (by decide +kernel)))
  | ((with_reducible refine' isi_tup false ?hw ?hv ?_); (case hw => assumption); (case hv => exact (by decide +kernel)))
  | ((with_reducible refine' isi_lst true ?hw ?hv ?_); (case hw => assumption); (case hv => exact (by decide +kernel)))
  | ((with_reducible refine' isi_lst false ?hw ?hv ?_); (case hw => assumption); (case hv => exact (by decide +kernel)))))
local macro_rules | `(tactic| walk_at "om") => `(tactic| first | omega | (simp only [List.length_cons, List.length_nil, List.length_map, List.length_append, List.length_range]; omega))
local macro_rules | `(tactic| walk_at "d") => `(tactic| (first
  | ((with_reducible refine' i_dt ?hv ?_); (case hv => walk_at "om"))
  | ((with_reducible refine' i_df ?hv ?_); (case hv => walk_at "om"))
  | ((with_reducible refine' i_ndt ?hv ?_); (case hv => walk_at "om"))
  | ((with_reducible refine' i_ndf ?hv ?_); (case hv => walk_at "om"))))
local macro_rules | `(tactic| walk_at "x") => `(tactic| first
  | ((with_reducible refine' o_ixA ?hv ?hw ?_); (case hv => assumption); (case hw => exact rfl))
  | ((with_reducible refine' o_ixU ?hv ?hw ?_); (case hv => assumption); (case hw => exact rfl))
  | ((with_reducible refine' o_ixL ?hv ?hw ?_); (case hv => assumption); (case hw => exact rfl))
  | ((with_reducible refine' o_ixT ?hv ?hw ?_); (case hv => assumption); (case hw => exact rfl))
  | ((with_reducible refine' set_ ?hv ?hw ?_); (case hv => assumption); (case hw => exact rfl))
  | ((with_reducible refine' e_lenM ?hv ?_); (case hv => first | assumption | exact slO (by assumption)))
  | ((with_reducible refine' e_lenN ?hv ?_); (case hv => first | assumption | exact stO (by assumption)))
  | ((with_reducible refine' e_lenL ?hv ?_); (case hv => first | assumption | exact slO (by assumption)))
  | ((with_reducible refine' e_lenT ?hv ?_); (case hv => first | assumption | exact stO (by assumption))))
local macro_rules | `(tactic| walk_at "c") => `(tactic| first
  | ((with_reducible refine' c_listL ?hv ?_); (case hv => assumption))
  | ((with_reducible refine' c_listT ?hv ?_); (case hv => assumption))
  | ((with_reducible refine' c_tupL ?hv ?_); (case hv => first | assumption | exact slO (by assumption)))
  | ((with_reducible refine' c_tupT ?hv ?_); (case hv => assumption))
  | ((with_reducible refine' t_lst ?hv ?_); (case hv => first | assumption | exact slO (by assumption)))
  | ((with_reducible refine' t_tup ?hv ?_); (case hv => assumption))
  | ((with_reducible refine' r_sl ?hv ?_); (case hv => first | assumption | exact slO (by assumption)))
  | ((with_reducible refine' o_inL ?hv ?_); (case hv => first | assumption | exact slO (by assumption)))
  | ((with_reducible refine' o_inT ?hv ?_); (case hv => first | assumption | exact stO (by assumption)))
  | ((with_reducible refine' o_niL ?hv ?_); (case hv => first | assumption | exact slO (by assumption)))
  | ((with_reducible refine' o_niT ?hv ?_); (case hv => first | assumption | exact stO (by assumption)))
  | ((with_reducible refine' ty_lst ?hv ?_); (case hv => assumption)))
local macro_rules | `(tactic| walk_at "mo") => `(tactic| repeat' (first | exact m_yes | exact m_var | exact m_c | exact m_I0 | exact m_I | exact m_ix | exact m_add | exact m_in | exact m_int1 | exact m_abs | exact m_nil | refine' m_and ?_ ?_ | refine' m_test ?_ | refine' m_tB ?_ | refine' m_op ?_ ?_ ?_ | refine' m_cons ?_ ?_ | refine' m_cb ?_ ?_))
local macro_rules | `(tactic| walk_at "go") => `(tactic| repeat' (first | walk_at "s" | walk_at "v" | walk_at "a" | walk_at "x" | walk_at "m" | walk_at "c" | walk_at "i" | walk_at "d"))

section
variable {P : Program} {w : World} {K : PySem.W.Frag} {mg : Str → Option Value} {base : Heap}
theorem pairs_items {L : LD} (h : ∀ r ∈ L.kept, ∀ x ∈ r.1, itemB x = true) : ∀ r ∈ L.pairs, ∀ x ∈ r.2, itemB x = true := fun r hr x hx => by
  obtain ⟨i, hi, e⟩ := List.mem_map.mp hr
  rw [List.mem_range] at hi
  rw [← e] at hx
  have hx : x ∈ (L.kept.getD i ([], 0, 0)).1 := hx
  rw [List.getD_eq_getElem?_getD, List.getElem?_eq_getElem hi] at hx
  exact h _ (List.getElem_mem hi) x hx
def sp_told (K : PySem.W.Frag) (CL : Addr) : Sp := fun vs H Q _ => ∃ q p GL L m G, ∃ sure : Nat, vs = [.ref q, .ref m, .int sure] ∧ LS K CL H q p GL L ∧ MS K H m G L ∧ (∀ r ∈ L.kept, r.1.length ≤ 6000) ∧ (∀ r ∈ L.kept, ∀ x ∈ r.1, itemB x = true) ∧ L.kept.length ≤ 10000 ∧ L.nk = L.nkOf ∧ L.fo = some ((L.bg : Int) + sure - 1) ∧ ∀ H', Same H H' → Q (.bl true) H'
theorem ok_law_told_right (T : Txt K mg) : FnOk P w K mg base CX0 4 T.law_told_right.f T.law_told_right.fd ["log", "model", "sure"] ((sp_told K T.C_Log)) := by
  refine T.law_told_right.F.ok sc_law_told_right (fun vs H Q E h => ?_) (fun cdv A outer s H vs Q E hr h => ?_)
  · obtain ⟨q, p, GL, L, m, G, sure, rfl, _⟩ := h
    rfl
  · obtain ⟨q, p, GL, L, m, G, sure, rfl, hL, hM, hx, hit, hn, hnk, hfo, k⟩ := h
    refine ⟨_, (pss_cons (ps_if (PW.pt (pw_or (pt_cmpR (oNe (K := K) hr.units) (pe_meth0 (pv 0) T.k_Log.cl T.m_Log_records.i (ok_Log_records T) (hr.mono (by decide)) T.m_Log_records.b .nil pass0) (pe_call (ok_law_pairs T) (hr.mono (by decide)) (by rfl) T.law_pairs.g T.law_pairs.F.kp T.law_pairs.b .nil pass0 (pa_cons (pv 1) pa_nil)) (nomark _)) (pw_or1 (pt_cmpR (oNe (K := K) hr.units) (pe_meth0 (pv 0) T.k_Log.cl T.m_Log_room.i (ok_Log_room T) (hr.mono (by decide)) T.m_Log_room.b .nil pass0) (pe_call (ok_law_room T) (hr.mono (by decide)) (by rfl) T.law_room.g T.law_room.F.kp T.law_room.b .nil pass0 (pa_cons (pv 1) pa_nil)) (nomark _))))) (pss_one (ps_ret pe_bl)) pss_nil)
    (pss_cons (ps_set (i := 3) sc_law_told_right.nd rfl (Or.inl rfl) (pe_op op_sub (pe_op oAdd (pe_dget (hu_of hr) (pv 1) pe_str (fun _ _ => rfl)) (pe_callB (cLen (K := K)) (by rfl) T.z_len PySem.boot_len (pa_cons (pe_dget (hu_of hr) (pv 1) pe_str (fun _ _ => rfl)) pa_nil))) pe_int))
    (pss_one (ps_ret (pe_and (pe_cmpR (oEq (K := K) hr.units) (pe_meth0 (pv 0) T.k_Log.cl T.m_Log_last.i (ok_Log_last T) (hr.mono (by decide)) T.m_Log_last.b .nil pass0) (pv 3) (nomark _)) (pe_one (pe_cmpR (oEq (K := K) hr.units) (pe_meth0 (pv 0) T.k_Log.cl T.m_Log_forced.i (ok_Log_forced T) (hr.mono (by decide)) T.m_Log_forced.b .nil pass0) (pe_op op_sub (pe_op oAdd (pe_dget (hu_of hr) (pv 1) pe_str (fun _ _ => rfl)) (pv 2)) pe_int) (nomark _)))))))), ?_⟩
    have hx3 : ∀ r ∈ L.kept, r.1.length ≤ 30000 := fun r hr => by have := hx r hr; omega
    have hL0 := hL
    have hM0 := hM
    obtain ⟨kl, kts, eGL, ⟨dx, hob⟩, hkl, hka⟩ := hL
    obtain ⟨rl, ts, eG, hm, hr, hrows⟩ := hM
    walk_at "go"
    refine m_call0 ⟨dx, hob⟩ (lf_no _ _ _ (by decide +kernel)) ?_
    walk_at "go"
    refine ⟨q, p, GL, L, rfl, hL0, hn, fun D1 us H1 s1 n1 h1 p1 => ?_⟩
    walk_at "go"
    refine ⟨m, G, L, rfl, hM0.same s1, hn, fun D2 us2 H2 s2 n2 h2 p2 => ?_⟩
    have s12 := s1.trans s2
    refine o_neP (s2 _ _ h1) h2 (PairsTo.st p1 fun c ys h => st_ s2 h) p2 (pairs_items hit) ?_
    walk_at "go"
    refine m_call0 ⟨dx, s12 _ _ hob⟩ (lf_no _ _ _ (by decide +kernel)) ?_
    walk_at "go"
    refine ⟨q, p, GL, L, rfl, hL0.same s12, ?_⟩
    walk_at "go"
    refine ⟨m, G, L, rfl, hM0.same s12, hn, hx3, fun H3 s3 => ?_⟩
    rw [hnk]
    walk_at "go"
    have s13 := s12.trans s3
    refine e_dget ?_
    walk_at "go"
    refine o_dget (k := Sum.inr "record") (s13 _ _ hm) mkv_record ?_
    walk_at "go"
    refine e_dget ?_
    walk_at "go"
    refine o_dget (k := Sum.inr "rows") (s13 _ _ hm) mkv_rows ?_
    have hr3 := s13 _ _ hr
    walk_at "go"
    refine m_call0 ⟨dx, s13 _ _ hob⟩ (lf_no _ _ _ (by decide +kernel)) ?_
    walk_at "go"
    refine ⟨q, p, GL, L, rfl, hL0.same s13, hn, ?_⟩
    walk_at "go"
    have e1 : decide (L.last = (L.bg : Int) + (ts.length : Nat) - 1) = true := decide_eq_true (by unfold LD.last; rw [hrows.1])
    rw [e1]
    walk_at "go"
    refine m_call0 ⟨dx, s13 _ _ hob⟩ (lf_no _ _ _ (by decide +kernel)) ?_
    walk_at "go"
    refine ⟨q, p, GL, L, _, rfl, hL0.same s13, hfo, ?_⟩
    walk_at "go"
    refine e_dget ?_
    walk_at "go"
    refine o_dget (k := Sum.inr "record") (s13 _ _ hm) mkv_record ?_
    walk_at "go"
    have e2 : decide ((L.bg : Int) + (sure : Nat) - 1 = (L.bg : Int) + (sure : Nat) - 1) = true := decide_eq_true rfl
    rw [e2]
    exact k H3 s13
end
end Vw

set_option Elab.async false
set_option linter.all false
set_option maxRecDepth 100000
set_option maxHeartbeats 4000000
namespace Vw
open PySem PySem.Spec PyProof.Rows L2 RT
local macro_rules | `(tactic| walk_at "s") => `(tactic| with_reducible first
  | refine' s_seq ?_ | refine' s_next ?_ | refine' s_set ?_ | refine' s_ret ?_ | refine' s_retN ?_ | refine' s_drop ?_ | refine' s_if ?_ | refine' s_ipI ?_
  | refine' e_c ?_ | refine' e_op ?_ | refine' e_un ?_ | refine' e_neg ?_ | refine' e_test ?_ | refine' e_tB ?_ | refine' e_bl ?_ | refine' e_and ?_ | refine' e_or ?_ | refine' e_not ?_
  | refine' e_andV ?_ | refine' e_orV ?_ | refine' e_notV ?_ | refine' e_kV ?_ | refine' e_ife ?_ | refine' e_nil ?_ | refine' e_cons ?_ | refine' e_cb ?_ | refine' e_call ?_ | refine' e_chain ?_
  | refine' o_addI ?_ | refine' o_eqI ?_ | refine' o_neI ?_ | refine' o_I0 ?_ | refine' o_pow16 ?_ | refine' o_pow17 ?_ | refine' o_pow18 ?_ | refine' o_pow19 ?_ | refine' o_pow30 ?_ | refine' o_pow31 ?_ | refine' o_pow1 ?_ | refine' o_pow2 ?_ | refine' o_pow3 ?_ | refine' o_pow4 ?_ | refine' o_pow5 ?_ | refine' o_pow6 ?_ | refine' o_pow9 ?_ | refine' o_pow10 ?_ | refine' o_pow12 ?_ | refine' o_pow15 ?_ | refine' o_pow20 ?_ | refine' e_lst ?_ | refine' e_tup ?_ | refine' iteT ?_ | refine' i_nt ?_ | refine' i_nf ?_ | refine' iteF ?_ | refine' c_int ?_ | refine' c_abs ?_ | refine' c_min2 ?_ | refine' c_max2 ?_ | refine' e_tru ?_ | refine' t_bl ?_ | refine' t_non ?_ | refine' t_int ?_ | refine' isN_non ?_ | refine' isN_int ?_ | refine' isN_ref ?_ | refine' isN_str ?_ | refine' isN_bl ?_ | refine' noN_non ?_ | refine' noN_int ?_ | refine' noN_ref ?_ | refine' noN_str ?_ | refine' noN_bl ?_
  | refine' s_brk ?_ | refine' s_cont ?_ | refine' s_for ?_ | refine' e_lc ?_ | refine' e_dc ?_ | refine' e_yes ?_ | refine' i_rng1 ?_ | refine' i_lst0 ?_ | refine' i_tup0 ?_ | refine' e_bm ?_ | refine' e_sl ?_ | refine' e_np ?_ | refine' e_pt ?_ | refine' e_ptI ?_ | refine' e_din ?_ | refine' e_dnin ?_ | refine' e_methE ?_ | refine' p_cons ?_ | refine' p_nil ?_ | refine' s_dput ?_ | refine' e_dget2 ?_ | refine' e_dpop1 ?_ | refine' i_enum0 ?_ | refine' i_rev0 ?_ | refine' g_sub ?_ | refine' s_asg ?_ | refine' i_zip0 ?_ | refine' e_revT ?_ | refine' isB_bl ?_ | refine' notB_bl ?_ | refine' o_neB ?_ | refine' i_nrr ?_ | refine' e_meth ?_ | refine' s_setf ?_ | refine' e_fld ?_ | refine' e_bm0 ?_ | refine' r_tx ?_ | refine' o_eqStr ?_ | refine' o_neStr ?_)
local macro_rules | `(tactic| walk_at "v") => `(tactic| ((with_reducible refine' e_var ?hv ?_); (case hv => exact rfl)))
local macro_rules | `(tactic| walk_at "a") => `(tactic| ((with_reducible refine' s_aug ?hv ?_); (case hv => exact rfl)))
local macro_rules | `(tactic| walk_at "m") => `(tactic| first
  | ((with_reducible refine' o_mod ?hv ?_); (case hv => first | decide | omega))
  | ((with_reducible refine' o_mulR ?hv ?_); (case hv => omega))
  | ((with_reducible refine' o_mulL ?hv ?_); (case hv => omega))
  | ((with_reducible refine' o_div ?hv ?hw ?_); (case hv => omega); (case hw => omega))
  | ((with_reducible refine' o_pow _ ?hv ?hw ?hx ?_); (case hv => exact rfl); (case hw => decide); (case hx => decide)))
local macro_rules | `(tactic| walk_at "i") => `(tactic| (first
  | ((with_reducible refine' isi_int true ?hv ?_); (case hv => exact (by decide +kernel)))
  | ((with_reducible refine' isi_int false ?hv ?_); (case hv => exact (by decide +kernel)))
  | ((with_reducible refine' isi_non true ?hv ?_); (case hv => exact (by decide +kernel)))
  | ((with_reducible refine' isi_non false ?hv ?_); (case hv => exact (by decide +kernel)))
  | ((with_reducible refine' isi_str true ?hv ?_); (case hv => exact (by decide +kernel)))
  | ((with_reducible refine' isi_str false ?hv ?_); (case hv => exact (by decide +kernel)))
  | ((with_reducible refine' isi_bl true ?hv ?_); (case hv => exact (by decide +kernel)))
  | ((with_reducible refine' isi_bl false ?hv ?_); (case hv => exact (by decide +kernel)))
  | ((with_reducible refine' isi_t true ?hw ?hv ?_); (case hw => assumption); (case hv => exact (by decide +kernel)))
  | ((with_reducible refine' isi_t false ?hw ?hv ?_); (case hw => assumption); (case hv => exact (by decide +kernel)))
  | ((with_reducible refine' isi_l true ?hw ?hv ?_); (case hw => assumption); (case hv => exact (by decide +kernel)))
  | ((with_reducible refine' isi_l false ?hw ?hv ?_); (case hw => assumption); (case hv => exact (by decide +kernel)))
  | ((with_reducible refine' isi_tup true ?hw ?hv ?_); (case hw => assumption); (case hv => exact (by decide +kernel)))
  | ((with_reducible refine' isi_tup false ?hw ?hv ?_); (case hw => assumption); (case hv => exact (by decide +kernel)))
  | ((with_reducible refine' isi_lst true ?hw ?hv ?_); (case hw => assumption); (case hv => exact (by decide +kernel)))
  | ((with_reducible refine' isi_lst false ?hw ?hv ?_); (case hw => assumption); (case hv => exact (by decide +kernel)))))
local macro_rules | `(tactic| walk_at "om") => `(tactic| first | omega | (simp only [List.length_cons, List.length_nil, List.length_map, List.length_append, List.length_range]; omega))
local macro_rules | `(tactic| walk_at "d") => `(tactic| (first
  | ((with_reducible refine' i_dt ?hv ?_); (case hv => walk_at "om"))
  | ((with_reducible refine' i_df ?hv ?_); (case hv => walk_at "om"))
  | ((with_reducible refine' i_ndt ?hv ?_); (case hv => walk_at "om"))
  | ((with_reducible refine' i_ndf ?hv ?_); (case hv => walk_at "om"))))
local macro_rules | `(tactic| walk_at "x") => `(tactic| first
  | ((with_reducible refine' o_ixA ?hv ?hw ?_); (case hv => assumption); (case hw => exact rfl))
  | ((with_reducible refine' o_ixU ?hv ?hw ?_); (case hv => assumption); (case hw => exact rfl))
  | ((with_reducible refine' o_ixL ?hv ?hw ?_); (case hv => assumption); (case hw => exact rfl))
  | ((with_reducible refine' o_ixT ?hv ?hw ?_); (case hv => assumption); (case hw => exact rfl))
  | ((with_reducible refine' set_ ?hv ?hw ?_); (case hv => assumption); (case hw => exact rfl))
  | ((with_reducible refine' e_lenM ?hv ?_); (case hv => first | assumption | exact slO (by assumption)))
  | ((with_reducible refine' e_lenN ?hv ?_); (case hv => first | assumption | exact stO (by assumption)))
  | ((with_reducible refine' e_lenL ?hv ?_); (case hv => first | assumption | exact slO (by assumption)))
  | ((with_reducible refine' e_lenT ?hv ?_); (case hv => first | assumption | exact stO (by assumption))))
local macro_rules | `(tactic| walk_at "c") => `(tactic| first
  | ((with_reducible refine' c_listL ?hv ?_); (case hv => assumption))
  | ((with_reducible refine' c_listT ?hv ?_); (case hv => assumption))
  | ((with_reducible refine' c_tupL ?hv ?_); (case hv => first | assumption | exact slO (by assumption)))
  | ((with_reducible refine' c_tupT ?hv ?_); (case hv => assumption))
  | ((with_reducible refine' t_lst ?hv ?_); (case hv => first | assumption | exact slO (by assumption)))
  | ((with_reducible refine' t_tup ?hv ?_); (case hv => assumption))
  | ((with_reducible refine' r_sl ?hv ?_); (case hv => first | assumption | exact slO (by assumption)))
  | ((with_reducible refine' o_inL ?hv ?_); (case hv => first | assumption | exact slO (by assumption)))
  | ((with_reducible refine' o_inT ?hv ?_); (case hv => first | assumption | exact stO (by assumption)))
  | ((with_reducible refine' o_niL ?hv ?_); (case hv => first | assumption | exact slO (by assumption)))
  | ((with_reducible refine' o_niT ?hv ?_); (case hv => first | assumption | exact stO (by assumption)))
  | ((with_reducible refine' ty_lst ?hv ?_); (case hv => assumption)))
local macro_rules | `(tactic| walk_at "mo") => `(tactic| repeat' (first | exact m_yes | exact m_var | exact m_c | exact m_I0 | exact m_I | exact m_ix | exact m_add | exact m_in | exact m_int1 | exact m_abs | exact m_nil | refine' m_and ?_ ?_ | refine' m_test ?_ | refine' m_tB ?_ | refine' m_op ?_ ?_ ?_ | refine' m_cons ?_ ?_ | refine' m_cb ?_ ?_))
local macro_rules | `(tactic| walk_at "go") => `(tactic| repeat' (first | walk_at "s" | walk_at "v" | walk_at "a" | walk_at "x" | walk_at "m" | walk_at "c" | walk_at "i" | walk_at "d"))

section
variable {P : Program} {w : World} {K : PySem.W.Frag} {mg : Str → Option Value} {base : Heap}
def sp_started (K : PySem.W.Frag) : Sp := fun vs H Q _ => ∃ m G L, ∃ i : Nat, vs = [.ref m, .int ((L.bg : Int) + i)] ∧ MS K H m G L ∧ i ≤ L.kept.length ∧ L.nk = L.nkOf ∧ L.kept.length ≤ 10000 ∧ (∀ r ∈ L.kept, r.1.length ≤ 30000) ∧ ∀ m' G' H', MS K H' m' G' (L.start i) → (∀ x ∈ G', H x = none) → Same H H' → Q (.ref m') H'
theorem ok_law_started (T : Txt K mg) : FnOk P w K mg base CX0 3 T.law_started.f T.law_started.fd ["model", "number"] (sp_started K) := by
  refine T.law_started.F.ok sc_law_started (fun vs H Q E h => ?_) (fun cdv A outer s H vs Q E hr h => ?_)
  · obtain ⟨m, G, L, i, rfl, _⟩ := h
    rfl
  · obtain ⟨m, G, L, i, rfl, hM, hi, hnk, hn, hx, k⟩ := h
    refine ⟨_, (pss_cons (ps_set (i := 2) sc_law_started.nd rfl (Or.inl rfl) (pe_op op_sub (pv 1) (pe_dget (hu_of hr) (pv 0) pe_str (fun _ _ => rfl))))
    (Evl.pss_cut (ps_set (i := 3) sc_law_started.nd rfl (Or.inl rfl) (pe_ifExp (pt_cmpR oLt (pv 2) (pe_callB (cLen (K := K)) (by rfl) T.z_len PySem.boot_len (pa_cons (pe_dget (hu_of hr) (pv 0) pe_str (fun _ _ => rfl)) pa_nil)) (nomark _)) (pe_ix (ixLT (K := K)) (pe_ix (ixLT (K := K)) (pe_dget (hu_of hr) (pv 0) pe_str (fun _ _ => rfl)) (pv 2) (fun _ _ => rfl)) pe_int (fun _ _ => rfl)) (pe_call (ok_law_next_k T) (hr.mono (by decide)) (by rfl) T.law_next_k.g T.law_next_k.F.kp T.law_next_k.b .nil pass0 (pa_cons (pv 0) pa_nil))))
    (pss_one (ps_ret (pe_disp (pps_cons pe_str (pe_dget (hu_of hr) (pv 0) pe_str (fun _ _ => rfl)) (pps_cons pe_str (pe_dget (hu_of hr) (pv 0) pe_str (fun _ _ => rfl)) (pps_cons pe_str (pv 3) (pps_cons pe_str (pv 1) (pps_cons pe_str (pe_slice (slL (K := K)) (pe_dget (hu_of hr) (pv 0) pe_str (fun _ _ => rfl)) (po_some (pv 2)) po_none) pps_nil))))) (by rfl) (by rfl) (fun z => by cases z) (by decide)))))), ?_⟩
    have hM0 := hM
    obtain ⟨rl, ts, eG, hm, hr, hrows⟩ := hM
    have lts := hrows.1
    walk_at "go"
    refine e_dget ?_
    walk_at "go"
    refine o_dget (k := Sum.inr "record") hm mkv_record ?_
    walk_at "go"
    rw [show (L.bg : Int) + (i : Nat) - (L.bg : Int) = ((i : Nat) : Int) by omega]
    refine s_cut (fun σ' H' => σ' = [some (.ref m), some (.int ((L.bg : Int) + i)), some (.int (i : Nat)), some (.int (L.fk i : Nat))] ∧ Same H H') ?_ ?_
    · walk_at "go"
      refine e_dget ?_
      walk_at "go"
      refine o_dget (k := Sum.inr "rows") hm mkv_rows ?_
      walk_at "go"
      refine i_d (fun z => ?_) (fun z => ?_)
      · have hlt2 : i < ts.length := by omega
        have hlt : i < L.kept.length := by omega
        have hg := List.getElem?_eq_getElem hlt
        obtain ⟨a, ht, ha⟩ := hrows.2 i _ _ (List.getElem?_eq_getElem hlt2) hg
        have ef : L.fk i = (L.kept[i]).2.1 := fkL_at hg
        walk_at "go"
        refine e_dget ?_
        walk_at "go"
        refine o_dget (k := Sum.inr "rows") hm mkv_rows ?_
        walk_at "go"
        refine o_ixA hr (atI_in (j := i) rfl (by rw [List.getElem?_map, List.getElem?_eq_getElem hlt2]; rfl)) ?_
        walk_at "go"
        rw [← ef]
        exact ⟨rfl, Same.refl _⟩
      · have ei : i = L.kept.length := by omega
        have ef : L.fk i = L.nk := by rw [ei]; exact fkL_end
        walk_at "go"
        refine ⟨m, G, L, rfl, hM0, hn, hx, fun H1 s1 => ?_⟩
        rw [← hnk, ← ef]
        exact ⟨rfl, s1⟩
    rintro σ' H1 ⟨rfl, s1⟩
    have hm1 := s1 _ _ hm
    have hr1 := s1 _ _ hr
    walk_at "go"
    refine fun p np => ?_
    have sp : Same H1 (upd H1 p (.dK [])) := Same.new np
    have hp0 : upd H1 p (.dK []) p = some (.dK []) := upd_same
    generalize upd H1 p (.dK []) = H2 at *
    have hm2 := sp _ _ hm1
    have hr2 := sp _ _ hr1
    walk_at "go"
    refine e_dget ?_
    walk_at "go"
    refine o_dget (k := Sum.inr "ring") hm2 mkv_ring ?_
    walk_at "go"
    refine e_dget ?_
    walk_at "go"
    refine o_dget (k := Sum.inr "epoch") hm2 mkv_epoch ?_
    walk_at "go"
    refine e_dget ?_
    walk_at "go"
    refine o_dget (k := Sum.inr "rows") hm2 mkv_rows ?_
    walk_at "go"
    rw [cutV_from, ← List.map_drop]
    refine n_new0 fun l H3 n3 s3 h3 => ?_
    walk_at "go"
    have hp3 := s3 _ _ hp0
    have ebg : (L.bg : Int) + (i : Nat) = ((L.bg + i : Nat) : Int) := by omega
    refine ⟨hp3, mkv (L.start i) l, by rw [ebg]; rfl, by show 5 ≤ 15; decide, ?_⟩
    have nl : H l = none := free_ s1 (free_ sp n3)
    have nlp : l ≠ p := ne_of_none' hp0 n3
    have np0 : H p = none := free_ s1 np
    have s13 := (s1.trans sp).trans s3
    have hrows3 : RowsTo K H3 (ts.drop i) (L.kept.drop i) := by
      refine ⟨by rw [List.length_drop, List.length_drop, lts], fun j t r a b => ?_⟩
      rw [List.getElem?_drop] at a b
      obtain ⟨x, y1, y2⟩ := hrows.2 (i + j) t r a b
      exact ⟨x, st_ s13 y1, st_ s13 y2⟩
    have c4 : Ch [p] H3 (upd H3 p (.dK (mkv (L.start i) l))) := Ch.upd1 (by simp) fun o e => by rw [hp3] at e; cases e; rfl
    refine k p [p, l] _ ⟨l, ts.drop i, rfl, upd_same, (upd_ne nlp).trans h3, hrows3.st fun cc ys h => c4.st h⟩ (fun x hx => ?_) (upd_free s13 np0)
    rcases List.mem_cons.mp hx with z | z
    · rw [z]; exact np0
    · rw [List.mem_singleton.mp z]; exact nl
end
end Vw

set_option Elab.async false
set_option linter.all false
set_option maxRecDepth 100000
set_option maxHeartbeats 4000000
namespace Vw
open PySem PySem.Spec PyProof.Rows L2 RT
local macro_rules | `(tactic| walk_at "s") => `(tactic| with_reducible first
  | refine' s_seq ?_ | refine' s_next ?_ | refine' s_set ?_ | refine' s_ret ?_ | refine' s_retN ?_ | refine' s_drop ?_ | refine' s_if ?_ | refine' s_ipI ?_
  | refine' e_c ?_ | refine' e_op ?_ | refine' e_un ?_ | refine' e_neg ?_ | refine' e_test ?_ | refine' e_tB ?_ | refine' e_bl ?_ | refine' e_and ?_ | refine' e_or ?_ | refine' e_not ?_
  | refine' e_andV ?_ | refine' e_orV ?_ | refine' e_notV ?_ | refine' e_kV ?_ | refine' e_ife ?_ | refine' e_nil ?_ | refine' e_cons ?_ | refine' e_cb ?_ | refine' e_call ?_ | refine' e_chain ?_
  | refine' o_addI ?_ | refine' o_eqI ?_ | refine' o_neI ?_ | refine' o_I0 ?_ | refine' o_pow16 ?_ | refine' o_pow17 ?_ | refine' o_pow18 ?_ | refine' o_pow19 ?_ | refine' o_pow30 ?_ | refine' o_pow31 ?_ | refine' o_pow1 ?_ | refine' o_pow2 ?_ | refine' o_pow3 ?_ | refine' o_pow4 ?_ | refine' o_pow5 ?_ | refine' o_pow6 ?_ | refine' o_pow9 ?_ | refine' o_pow10 ?_ | refine' o_pow12 ?_ | refine' o_pow15 ?_ | refine' o_pow20 ?_ | refine' e_lst ?_ | refine' e_tup ?_ | refine' iteT ?_ | refine' i_nt ?_ | refine' i_nf ?_ | refine' iteF ?_ | refine' c_int ?_ | refine' c_abs ?_ | refine' c_min2 ?_ | refine' c_max2 ?_ | refine' e_tru ?_ | refine' t_bl ?_ | refine' t_non ?_ | refine' t_int ?_ | refine' isN_non ?_ | refine' isN_int ?_ | refine' isN_ref ?_ | refine' isN_str ?_ | refine' isN_bl ?_ | refine' noN_non ?_ | refine' noN_int ?_ | refine' noN_ref ?_ | refine' noN_str ?_ | refine' noN_bl ?_
  | refine' s_brk ?_ | refine' s_cont ?_ | refine' s_for ?_ | refine' e_lc ?_ | refine' e_dc ?_ | refine' e_yes ?_ | refine' i_rng1 ?_ | refine' i_lst0 ?_ | refine' i_tup0 ?_ | refine' e_bm ?_ | refine' e_sl ?_ | refine' e_np ?_ | refine' e_pt ?_ | refine' e_ptI ?_ | refine' e_din ?_ | refine' e_dnin ?_ | refine' e_methE ?_ | refine' p_cons ?_ | refine' p_nil ?_ | refine' s_dput ?_ | refine' e_dget2 ?_ | refine' e_dpop1 ?_ | refine' i_enum0 ?_ | refine' i_rev0 ?_ | refine' g_sub ?_ | refine' s_asg ?_ | refine' i_zip0 ?_ | refine' e_revT ?_ | refine' isB_bl ?_ | refine' notB_bl ?_ | refine' o_neB ?_ | refine' i_nrr ?_ | refine' e_meth ?_ | refine' s_setf ?_ | refine' e_fld ?_ | refine' e_bm0 ?_ | refine' r_tx ?_ | refine' o_eqStr ?_ | refine' o_neStr ?_)
local macro_rules | `(tactic| walk_at "v") => `(tactic| ((with_reducible refine' e_var ?hv ?_); (case hv => exact rfl)))
local macro_rules | `(tactic| walk_at "a") => `(tactic| ((with_reducible refine' s_aug ?hv ?_); (case hv => exact rfl)))
local macro_rules | `(tactic| walk_at "m") => `(tactic| first
  | ((with_reducible refine' o_mod ?hv ?_); (case hv => first | decide | omega))
  | ((with_reducible refine' o_mulR ?hv ?_); (case hv => omega))
  | ((with_reducible refine' o_mulL ?hv ?_); (case hv => omega))
  | ((with_reducible refine' o_div ?hv ?hw ?_); (case hv => omega); (case hw => omega))
  | ((with_reducible refine' o_pow _ ?hv ?hw ?hx ?_); (case hv => exact rfl); (case hw => decide); (case hx => decide)))
local macro_rules | `(tactic| walk_at "i") => `(tactic| (first
  | ((with_reducible refine' isi_int true ?hv ?_); (case hv => exact (by decide +kernel)))
  | ((with_reducible refine' isi_int false ?hv ?_); (case hv => exact (by decide +kernel)))
  | ((with_reducible refine' isi_non true ?hv ?_); (case hv => exact (by decide +kernel)))
  | ((with_reducible refine' isi_non false ?hv ?_); (case hv => exact (by decide +kernel)))
  | ((with_reducible refine' isi_str true ?hv ?_); (case hv => exact (by decide +kernel)))
  | ((with_reducible refine' isi_str false ?hv ?_); (case hv => exact (by decide +kernel)))
  | ((with_reducible refine' isi_bl true ?hv ?_); (case hv => exact (by decide +kernel)))
  | ((with_reducible refine' isi_bl false ?hv ?_); (case hv => exact (by decide +kernel)))
  | ((with_reducible refine' isi_t true ?hw ?hv ?_); (case hw => assumption); (case hv => exact (by decide +kernel)))
  | ((with_reducible refine' isi_t false ?hw ?hv ?_); (case hw => assumption); (case hv => exact (by decide +kernel)))
  | ((with_reducible refine' isi_l true ?hw ?hv ?_); (case hw => assumption); (case hv => exact (by decide +kernel)))
  | ((with_reducible refine' isi_l false ?hw ?hv ?_); (case hw => assumption); (case hv => exact (by decide +kernel)))
  | ((with_reducible refine' isi_tup true ?hw ?hv ?_); (case hw => assumption); (case hv => exact (by decide +kernel)))
  | ((with_reducible refine' isi_tup false ?hw ?hv ?_); (case hw => assumption); (case hv => exact (by decide +kernel)))
  | ((with_reducible refine' isi_lst true ?hw ?hv ?_); (case hw => assumption); (case hv => exact (by decide +kernel)))
  | ((with_reducible refine' isi_lst false ?hw ?hv ?_); (case hw => assumption); (case hv => exact (by decide +kernel)))))
local macro_rules | `(tactic| walk_at "om") => `(tactic| first | omega | (simp only [List.length_cons, List.length_nil, List.length_map, List.length_append, List.length_range]; omega))
local macro_rules | `(tactic| walk_at "d") => `(tactic| (first
  | ((with_reducible refine' i_dt ?hv ?_); (case hv => walk_at "om"))
  | ((with_reducible refine' i_df ?hv ?_); (case hv => walk_at "om"))
  | ((with_reducible refine' i_ndt ?hv ?_); (case hv => walk_at "om"))
  | ((with_reducible refine' i_ndf ?hv ?_); (case hv => walk_at "om"))))
local macro_rules | `(tactic| walk_at "x") => `(tactic| first
  | ((with_reducible refine' o_ixA ?hv ?hw ?_); (case hv => assumption); (case hw => exact rfl))
  | ((with_reducible refine' o_ixU ?hv ?hw ?_); (case hv => assumption); (case hw => exact rfl))
  | ((with_reducible refine' o_ixL ?hv ?hw ?_); (case hv => assumption); (case hw => exact rfl))
  | ((with_reducible refine' o_ixT ?hv ?hw ?_); (case hv => assumption); (case hw => exact rfl))
  | ((with_reducible refine' set_ ?hv ?hw ?_); (case hv => assumption); (case hw => exact rfl))
  | ((with_reducible refine' e_lenM ?hv ?_); (case hv => first | assumption | exact slO (by assumption)))
  | ((with_reducible refine' e_lenN ?hv ?_); (case hv => first | assumption | exact stO (by assumption)))
  | ((with_reducible refine' e_lenL ?hv ?_); (case hv => first | assumption | exact slO (by assumption)))
  | ((with_reducible refine' e_lenT ?hv ?_); (case hv => first | assumption | exact stO (by assumption))))
local macro_rules | `(tactic| walk_at "c") => `(tactic| first
  | ((with_reducible refine' c_listL ?hv ?_); (case hv => assumption))
  | ((with_reducible refine' c_listT ?hv ?_); (case hv => assumption))
  | ((with_reducible refine' c_tupL ?hv ?_); (case hv => first | assumption | exact slO (by assumption)))
  | ((with_reducible refine' c_tupT ?hv ?_); (case hv => assumption))
  | ((with_reducible refine' t_lst ?hv ?_); (case hv => first | assumption | exact slO (by assumption)))
  | ((with_reducible refine' t_tup ?hv ?_); (case hv => assumption))
  | ((with_reducible refine' r_sl ?hv ?_); (case hv => first | assumption | exact slO (by assumption)))
  | ((with_reducible refine' o_inL ?hv ?_); (case hv => first | assumption | exact slO (by assumption)))
  | ((with_reducible refine' o_inT ?hv ?_); (case hv => first | assumption | exact stO (by assumption)))
  | ((with_reducible refine' o_niL ?hv ?_); (case hv => first | assumption | exact slO (by assumption)))
  | ((with_reducible refine' o_niT ?hv ?_); (case hv => first | assumption | exact stO (by assumption)))
  | ((with_reducible refine' ty_lst ?hv ?_); (case hv => assumption)))
local macro_rules | `(tactic| walk_at "mo") => `(tactic| repeat' (first | exact m_yes | exact m_var | exact m_c | exact m_I0 | exact m_I | exact m_ix | exact m_add | exact m_in | exact m_int1 | exact m_abs | exact m_nil | refine' m_and ?_ ?_ | refine' m_test ?_ | refine' m_tB ?_ | refine' m_op ?_ ?_ ?_ | refine' m_cons ?_ ?_ | refine' m_cb ?_ ?_))
local macro_rules | `(tactic| walk_at "go") => `(tactic| repeat' (first | walk_at "s" | walk_at "v" | walk_at "a" | walk_at "x" | walk_at "m" | walk_at "c" | walk_at "i" | walk_at "d"))

section
variable {P : Program} {w : World} {K : PySem.W.Frag} {mg : Str → Option Value} {base : Heap}
theorem Inv.few {S : SD} {L : LD} {fi K0 n : Nat} {ks0 ks1 : List Kp} {c o : Nat → Option Pc} (h : Inv S L fi K0 ks0 ks1 c o n) (hr : L.ring ≤ 60) : Few S := by
  refine ⟨(List.range 60).map fun i : Nat => (i : Int) + 1, by rw [List.length_map, List.length_range]; decide, fun b hb => ?_⟩
  have := h.out b hb
  exact List.mem_map.mpr ⟨(b - 1).toNat, List.mem_range.mpr (by omega), by omega⟩
theorem wl_started {CD CL p m q m' : Addr} {H0 H H' : Hp} {B : Bg} {F G GL G' : List Addr} {S : SD} {LM LM' LL : LD} (h : WL K CD CL H0 H B p F S m G LM q GL LL) (s : Same H H') (ms : MS K H' m' G' LM') (g : ∀ x ∈ G', H x = none) : WL K CD CL H0 H' B p F S m' G' LM' q GL LL := by
  have h' := h.same s
  exact ⟨⟨h.w.b0, h'.w.al, h'.w.bag, h'.w.ds, ms, h.w.f0, fun x hx => h.w.al x (g x hx), fun x hx z => h.w.ds.there x hx (g x z)⟩, h'.ls, h.l0, h.fl, fun x hx z => h.ls.there x z (g x hx)⟩
theorem wd_take {CD p m l2 rl : Addr} {H0 H H' : Hp} {B : Bg} {F G : List Addr} {S : SD} {L : LD} {n : Nat} {ts : List Addr} (h : Wd K CD H0 H B p F S m G L) (hm : H m = some (.dK (mkv L rl))) (hrows : RowsTo K H ts L.kept) (s : Same H H') (n2 : H l2 = none) (h2 : H' l2 = some (.lst ((ts.take n).map V.ref))) : Wd K CD H0 (upd H' m (.dK (mkv L l2))) B p F S m [m, l2] (L.left n) := by
  have mG : m ∈ G := by
    obtain ⟨rl, ts, e, _⟩ := h.ms
    rw [e]; simp
  have hm' := s _ _ hm
  have c5 : Ch [m] H' (upd H' m (.dK (mkv L l2))) := Ch.upd1 (by simp) fun o e => by rw [hm'] at e; cases e; rfl
  have m0 : ∀ x ∈ [m], H0 x = none := fun x hx => by rw [List.mem_singleton.mp hx]; exact h.g0 m mG
  have mF : ∀ x ∈ F, x ∉ [m] := fun x hx z => h.dj x hx (by rw [List.mem_singleton.mp z]; exact mG)
  have nlm : l2 ≠ m := ne_of_none' hm n2
  have h' := h.same s
  refine ⟨h.b0, fun x e => ?_, bag_ch h.b0 h'.bag c5 m0, h'.ds.ch c5 mF, ⟨l2, ts.take n, rfl, upd_same, (upd_ne nlm).trans h2, ?_⟩, h.f0, fun x hx => ?_, fun x hx z => ?_⟩
  · rcases ch_free c5 e with y | y
    · exact m0 x y
    · exact h'.al x y
  · refine ⟨by show (ts.take n).length = (L.kept.take n).length; rw [List.length_take, List.length_take, hrows.1], fun i t r a b => ?_⟩
    have b : (L.kept.take n)[i]? = some r := b
    rw [List.getElem?_take] at a b
    split at a
    · next q =>
      rw [if_pos q] at b
      obtain ⟨x, y1, y2⟩ := hrows.2 i t r a b
      exact ⟨x, c5.st (st_ s y1), c5.st (st_ s y2)⟩
    · cases a
  · rcases List.mem_cons.mp hx with y | y
    · rw [y]; exact h.g0 m mG
    · rw [List.mem_singleton.mp y]; exact h.al l2 n2
  · rcases List.mem_cons.mp z with y | y
    · exact h.dj x hx (by rw [y]; exact mG)
    · exact h.ds.there x hx (by rw [List.mem_singleton.mp y]; exact n2)
theorem LyC.of_cut {S : SD} {L : LD} {n : Nat} (h : LyC S.cut L n) : LyC S L n := ⟨h.le, h.all, h.no⟩
theorem lost_ok {i t : Int} {n : Nat} (h1 : 0 ≤ i ∧ i ≤ 1000) (h2 : 0 ≤ t ∧ t ≤ 1000) (hn : n = 0 ∨ n = 36) : RecOk ([V.str "life", V.int i, V.int t] ++ (List.replicate n [V.int 0]).flatten) := by
  have hl : (List.replicate n [V.int 0]).flatten.length = n * 1 := PyProof.Rows.lm_len_rep_flat _ _
  have hm : ∀ z ∈ [V.str "life", V.int i, V.int t] ++ (List.replicate n [V.int 0]).flatten, smallV z = true ∧ itemB z = true := fun z hz => by
    rcases List.mem_append.mp hz with q | q
    · simp only [List.mem_cons, List.not_mem_nil, or_false] at q
      rcases q with rfl | rfl | rfl
      · exact ⟨by decide +kernel, by decide +kernel⟩
      · refine ⟨rfl, ?_⟩
        have := item_nat (n := i.toNat) (by omega)
        rw [show ((i.toNat : Nat) : Int) = i by omega] at this
        exact this
      · refine ⟨rfl, ?_⟩
        have := item_nat (n := t.toNat) (by omega)
        rw [show ((t.toNat : Nat) : Int) = t by omega] at this
        exact this
    · obtain ⟨l, hl, hz⟩ := List.mem_flatten.mp q
      rw [List.eq_of_mem_replicate hl] at hz
      rw [List.mem_singleton.mp hz]
      exact ⟨rfl, by decide +kernel⟩
  have ll : ([V.str "life", V.int i, V.int t] ++ (List.replicate n [V.int 0]).flatten).length = 3 + n := by
    rw [List.length_append, hl]; simp
  exact ⟨by omega, by omega, fun z hz => (hm z hz).1, fun z hz => (hm z hz).2⟩
theorem lost_n {i t : Int} {n pc : Nat} (hp : n = 36 * (pc - 1)) (h1 : 1 ≤ pc) (h2 : pc ≤ 2) : cutN ([V.str "life", V.int i, V.int t] ++ (List.replicate n [V.int 0]).flatten) = pc := by
  have hl : (List.replicate n [V.int 0]).flatten.length = n * 1 := PyProof.Rows.lm_len_rep_flat _ _
  unfold cutN
  rw [List.length_append, hl]
  simp only [List.length_cons, List.length_nil]
  omega
theorem puts_keep {x : Int} : ∀ {ws : List (Int × Ct)} {S : SD}, S.rows x ≠ [] → (S.puts ws).rows x ≠ []
  | [], S, h => h
  | w :: ws, S, h => puts_keep (ws := ws) (S := S.wrote w.1 w.2) (by
    show (if x = w.1 then S.rows w.1 ++ [w.2] else S.rows x) ≠ []
    split
    · simp
    · exact h)
section
variable {S T : SD} {L : LD} {fi K0 n : Nat} {ks0 ks1 : List Kp} {c o : Nat → Option Pc}
theorem force1 {b : Int} {x : Ct} {S : SD} (h : S.rows b = [x]) (p : S.pw = none) : (SD.forceL [b] S).1 = S.got b x [] := by
  have e : S.forceB b = (S.got b x [], true) := by
    unfold SD.forceB
    rw [h]
    show SD.fB b 1 S = _
    unfold SD.fB
    rw [h]
    show (if S.pw = some 0 then (S, false) else SD.fB b 0 (S.got b x [])) = _
    rw [if_neg (by rw [p]; simp)]; rfl
  rw [SD.forceL_cons, e]; rfl
theorem Inv.one {b : Int} (h : Inv S L fi K0 ks0 ks1 c o n) (e : S.rows b ≠ []) : ∃ x c', S.rows b = [x] ∧ (SD.forceL [b] S).1 = S.got b x [] ∧ Inv (SD.forceL [b] S).1 L fi K0 ks0 ks1 c' o n := by
  cases q : S.rows b with
  | nil => exact absurd q e
  | cons x cs =>
    obtain ⟨k, k1, k2, _, rfl, hv⟩ := h.reach q
    have f := force1 q h.pw
    exact ⟨x, _, rfl, f, by rw [f]; exact hv⟩
theorem LyC.uniq {m k : Nat} (a : LyC S L m) (b : LyC S L k) : m = k := by
  have h1 := a.le
  have h2 := b.le
  rcases Nat.lt_trichotomy m k with q | q | q
  · obtain ⟨w, hw, ne⟩ := a.no (by omega)
    exact absurd (b.all m q w hw) ne
  · exact q
  · obtain ⟨w, hw, ne⟩ := b.no (by omega)
    exact absurd (a.all k q w hw) ne
/-- what lies there, where just one block's write waits -/
theorem Inv.lost {lost : Nat} {away : Int × Ct} (h : Inv S L fi K0 ks0 ks1 c o n) (hl : lost < L.kept.length) (ha : away ∈ L.rp lost) (hr : ∀ x, S.rows x ≠ [] ↔ x = away.1) : LyC S L lost := by
  have hn := h.nk
  obtain ⟨k, p, k1, k2, k3, k4, hp, rfl⟩ := h.rp hl ha
  have there : ∀ j q, L.bk ≤ j → j < L.nk → tp L j = some q → (S.lies[(blk L.ring j).toNat]? = some q.ct ↔ j ≠ k) := fun j q j1 j2 hq => by
    rw [blk_nat, h.lieNe j1 j2 hq]
    constructor
    · intro e z
      subst z
      rcases h.dn j j1 j2 with d | d
      · exact ((hr _).mpr rfl) d.2
      · have pq : q = p := Option.some.inj (hq.symm.trans hp)
        subst pq
        rw [e] at d
        have t := h.tpK j1 j2 hp
        rw [filt_eq t.1] at d
        have := (h.ol j _ d.2.1.symm).2
        have := t.2.2.1 d.1
        omega
    · intro ne
      have re : S.rows (blk L.ring j) = [] := by
        cases z : S.rows (blk L.ring j) with
        | nil => rfl
        | cons a l => exact absurd ((hr _).mp (by rw [z]; simp)) (blk_ne j1 (by omega) k1 (by omega) ne)
      rcases h.dn j j1 j2 with d | d
      · exact d.1.trans hq
      · obtain ⟨_, _, p2, _, d2⟩ := d
        rw [re] at d2; cases d2
  refine ⟨Nat.le_of_lt hl, fun i hi wv hw => ?_, fun _ => ⟨_, ha, fun z => ?_⟩⟩
  · obtain ⟨j, q, j1, j2, j3, j4, hq, rfl⟩ := h.rp (by omega) hw
    refine (there j q j1 j2 hq).mpr fun z => ?_
    have := h.mono (i := i + 1) (j := lost) (by omega) (by omega)
    omega
  · exact (there k p k1 k2 hp).mp z rfl
theorem sd_cut {S : SD} (r : ∀ x, S.rows x = []) (p : S.pw = none) : S.cut = S := by
  obtain ⟨lies, rows, pw, rc⟩ := S
  have e : rows = fun _ => [] := funext r
  have p : pw = none := p
  subst e p
  rfl
theorem left_all : L.left L.kept.length = L := by
  show ({ L with kept := L.kept.take L.kept.length, nk := fkL L.kept L.nk L.kept.length } : LD) = L
  rw [List.take_length, fkL_end]
/-- nothing waits: as behind a cut -/
theorem Inv.still (h : Inv S L fi K0 ks0 ks1 c o n) (r : ∀ x, S.rows x = []) : Closed S L fi c := by
  have ly : LyC S L L.kept.length := ⟨Nat.le_refl _, fun i hi wv hw => by
    obtain ⟨j, q, j1, j2, _, _, hq, rfl⟩ := h.rp hi hw
    rw [blk_nat, h.lieNe j1 j2 hq]
    rcases h.dn j j1 j2 with d | d
    · exact d.1.trans hq
    · obtain ⟨_, _, p2, _, d2⟩ := d
      rw [r] at d2
      exact absurd d2 (by simp), fun z => absurd z (Nat.lt_irrefl _)⟩
  have := h.closed ly
  rw [left_all, sd_cut r h.pw] at this
  exact this
end
end
end Vw

set_option Elab.async false
set_option linter.all false
set_option maxRecDepth 100000
set_option maxHeartbeats 4000000
namespace Vw
open PySem PySem.Spec PyProof.Rows L2 RT
local macro_rules | `(tactic| walk_at "s") => `(tactic| with_reducible first
  | refine' s_seq ?_ | refine' s_next ?_ | refine' s_set ?_ | refine' s_ret ?_ | refine' s_retN ?_ | refine' s_drop ?_ | refine' s_if ?_ | refine' s_ipI ?_
  | refine' e_c ?_ | refine' e_op ?_ | refine' e_un ?_ | refine' e_neg ?_ | refine' e_test ?_ | refine' e_tB ?_ | refine' e_bl ?_ | refine' e_and ?_ | refine' e_or ?_ | refine' e_not ?_
  | refine' e_andV ?_ | refine' e_orV ?_ | refine' e_notV ?_ | refine' e_kV ?_ | refine' e_ife ?_ | refine' e_nil ?_ | refine' e_cons ?_ | refine' e_cb ?_ | refine' e_call ?_ | refine' e_chain ?_
  | refine' o_addI ?_ | refine' o_eqI ?_ | refine' o_neI ?_ | refine' o_I0 ?_ | refine' o_pow16 ?_ | refine' o_pow17 ?_ | refine' o_pow18 ?_ | refine' o_pow19 ?_ | refine' o_pow30 ?_ | refine' o_pow31 ?_ | refine' o_pow1 ?_ | refine' o_pow2 ?_ | refine' o_pow3 ?_ | refine' o_pow4 ?_ | refine' o_pow5 ?_ | refine' o_pow6 ?_ | refine' o_pow9 ?_ | refine' o_pow10 ?_ | refine' o_pow12 ?_ | refine' o_pow15 ?_ | refine' o_pow20 ?_ | refine' e_lst ?_ | refine' e_tup ?_ | refine' iteT ?_ | refine' i_nt ?_ | refine' i_nf ?_ | refine' iteF ?_ | refine' c_int ?_ | refine' c_abs ?_ | refine' c_min2 ?_ | refine' c_max2 ?_ | refine' e_tru ?_ | refine' t_bl ?_ | refine' t_non ?_ | refine' t_int ?_ | refine' isN_non ?_ | refine' isN_int ?_ | refine' isN_ref ?_ | refine' isN_str ?_ | refine' isN_bl ?_ | refine' noN_non ?_ | refine' noN_int ?_ | refine' noN_ref ?_ | refine' noN_str ?_ | refine' noN_bl ?_
  | refine' s_brk ?_ | refine' s_cont ?_ | refine' s_for ?_ | refine' e_lc ?_ | refine' e_dc ?_ | refine' e_yes ?_ | refine' i_rng1 ?_ | refine' i_lst0 ?_ | refine' i_tup0 ?_ | refine' e_bm ?_ | refine' e_sl ?_ | refine' e_np ?_ | refine' e_pt ?_ | refine' e_ptI ?_ | refine' e_din ?_ | refine' e_dnin ?_ | refine' e_methE ?_ | refine' p_cons ?_ | refine' p_nil ?_ | refine' s_dput ?_ | refine' e_dget2 ?_ | refine' e_dpop1 ?_ | refine' i_enum0 ?_ | refine' i_rev0 ?_ | refine' g_sub ?_ | refine' s_asg ?_ | refine' i_zip0 ?_ | refine' e_revT ?_ | refine' isB_bl ?_ | refine' notB_bl ?_ | refine' o_neB ?_ | refine' i_nrr ?_ | refine' e_meth ?_ | refine' s_setf ?_ | refine' e_fld ?_ | refine' e_bm0 ?_ | refine' r_tx ?_ | refine' o_eqStr ?_ | refine' o_neStr ?_)
local macro_rules | `(tactic| walk_at "v") => `(tactic| ((with_reducible refine' e_var ?hv ?_); (case hv => exact rfl)))
local macro_rules | `(tactic| walk_at "a") => `(tactic| ((with_reducible refine' s_aug ?hv ?_); (case hv => exact rfl)))
local macro_rules | `(tactic| walk_at "m") => `(tactic| first
  | ((with_reducible refine' o_mod ?hv ?_); (case hv => first | decide | omega))
  | ((with_reducible refine' o_mulR ?hv ?_); (case hv => omega))
  | ((with_reducible refine' o_mulL ?hv ?_); (case hv => omega))
  | ((with_reducible refine' o_div ?hv ?hw ?_); (case hv => omega); (case hw => omega))
  | ((with_reducible refine' o_pow _ ?hv ?hw ?hx ?_); (case hv => exact rfl); (case hw => decide); (case hx => decide)))
local macro_rules | `(tactic| walk_at "i") => `(tactic| (first
  | ((with_reducible refine' isi_int true ?hv ?_); (case hv => exact (by decide +kernel)))
  | ((with_reducible refine' isi_int false ?hv ?_); (case hv => exact (by decide +kernel)))
  | ((with_reducible refine' isi_non true ?hv ?_); (case hv => exact (by decide +kernel)))
  | ((with_reducible refine' isi_non false ?hv ?_); (case hv => exact (by decide +kernel)))
  | ((with_reducible refine' isi_str true ?hv ?_); (case hv => exact (by decide +kernel)))
  | ((with_reducible refine' isi_str false ?hv ?_); (case hv => exact (by decide +kernel)))
  | ((with_reducible refine' isi_bl true ?hv ?_); (case hv => exact (by decide +kernel)))
  | ((with_reducible refine' isi_bl false ?hv ?_); (case hv => exact (by decide +kernel)))
  | ((with_reducible refine' isi_t true ?hw ?hv ?_); (case hw => assumption); (case hv => exact (by decide +kernel)))
  | ((with_reducible refine' isi_t false ?hw ?hv ?_); (case hw => assumption); (case hv => exact (by decide +kernel)))
  | ((with_reducible refine' isi_l true ?hw ?hv ?_); (case hw => assumption); (case hv => exact (by decide +kernel)))
  | ((with_reducible refine' isi_l false ?hw ?hv ?_); (case hw => assumption); (case hv => exact (by decide +kernel)))
  | ((with_reducible refine' isi_tup true ?hw ?hv ?_); (case hw => assumption); (case hv => exact (by decide +kernel)))
  | ((with_reducible refine' isi_tup false ?hw ?hv ?_); (case hw => assumption); (case hv => exact (by decide +kernel)))
  | ((with_reducible refine' isi_lst true ?hw ?hv ?_); (case hw => assumption); (case hv => exact (by decide +kernel)))
  | ((with_reducible refine' isi_lst false ?hw ?hv ?_); (case hw => assumption); (case hv => exact (by decide +kernel)))))
local macro_rules | `(tactic| walk_at "om") => `(tactic| first | omega | (simp only [List.length_cons, List.length_nil, List.length_map, List.length_append, List.length_range]; omega))
local macro_rules | `(tactic| walk_at "d") => `(tactic| (first
  | ((with_reducible refine' i_dt ?hv ?_); (case hv => walk_at "om"))
  | ((with_reducible refine' i_df ?hv ?_); (case hv => walk_at "om"))
  | ((with_reducible refine' i_ndt ?hv ?_); (case hv => walk_at "om"))
  | ((with_reducible refine' i_ndf ?hv ?_); (case hv => walk_at "om"))))
local macro_rules | `(tactic| walk_at "x") => `(tactic| first
  | ((with_reducible refine' o_ixA ?hv ?hw ?_); (case hv => assumption); (case hw => exact rfl))
  | ((with_reducible refine' o_ixU ?hv ?hw ?_); (case hv => assumption); (case hw => exact rfl))
  | ((with_reducible refine' o_ixL ?hv ?hw ?_); (case hv => assumption); (case hw => exact rfl))
  | ((with_reducible refine' o_ixT ?hv ?hw ?_); (case hv => assumption); (case hw => exact rfl))
  | ((with_reducible refine' set_ ?hv ?hw ?_); (case hv => assumption); (case hw => exact rfl))
  | ((with_reducible refine' e_lenM ?hv ?_); (case hv => first | assumption | exact slO (by assumption)))
  | ((with_reducible refine' e_lenN ?hv ?_); (case hv => first | assumption | exact stO (by assumption)))
  | ((with_reducible refine' e_lenL ?hv ?_); (case hv => first | assumption | exact slO (by assumption)))
  | ((with_reducible refine' e_lenT ?hv ?_); (case hv => first | assumption | exact stO (by assumption))))
local macro_rules | `(tactic| walk_at "c") => `(tactic| first
  | ((with_reducible refine' c_listL ?hv ?_); (case hv => assumption))
  | ((with_reducible refine' c_listT ?hv ?_); (case hv => assumption))
  | ((with_reducible refine' c_tupL ?hv ?_); (case hv => first | assumption | exact slO (by assumption)))
  | ((with_reducible refine' c_tupT ?hv ?_); (case hv => assumption))
  | ((with_reducible refine' t_lst ?hv ?_); (case hv => first | assumption | exact slO (by assumption)))
  | ((with_reducible refine' t_tup ?hv ?_); (case hv => assumption))
  | ((with_reducible refine' r_sl ?hv ?_); (case hv => first | assumption | exact slO (by assumption)))
  | ((with_reducible refine' o_inL ?hv ?_); (case hv => first | assumption | exact slO (by assumption)))
  | ((with_reducible refine' o_inT ?hv ?_); (case hv => first | assumption | exact stO (by assumption)))
  | ((with_reducible refine' o_niL ?hv ?_); (case hv => first | assumption | exact slO (by assumption)))
  | ((with_reducible refine' o_niT ?hv ?_); (case hv => first | assumption | exact stO (by assumption)))
  | ((with_reducible refine' ty_lst ?hv ?_); (case hv => assumption)))
local macro_rules | `(tactic| walk_at "mo") => `(tactic| repeat' (first | exact m_yes | exact m_var | exact m_c | exact m_I0 | exact m_I | exact m_ix | exact m_add | exact m_in | exact m_int1 | exact m_abs | exact m_nil | refine' m_and ?_ ?_ | refine' m_test ?_ | refine' m_tB ?_ | refine' m_op ?_ ?_ ?_ | refine' m_cons ?_ ?_ | refine' m_cb ?_ ?_))
local macro_rules | `(tactic| walk_at "go") => `(tactic| repeat' (first | walk_at "s" | walk_at "v" | walk_at "a" | walk_at "x" | walk_at "m" | walk_at "c" | walk_at "i" | walk_at "d"))

section
variable {P : Program} {w : World} {K : PySem.W.Frag} {mg : Str → Option Value} {base : Heap}
def sp_law (K : PySem.W.Frag) : Sp := fun vs H Q _ => ∃ (a : Addr) (ns : List Int), vs = [.ref a] ∧ SqL K H a (ns.map V.int) ∧ ns.length ≤ 63 ∧ ∀ H', Q (.bl true) H'
theorem ok_law (F : Fun K "law" "law" s_law f fd) (T : Txt K mg) : FnOk P w K mg base CX0 10 f fd ["script"] (sp_law K) := by
  refine F.ok sc_law (fun vs H Q E h => ?_) (fun cdv A outer s H vs Q E hr h => ?_)
  · obtain ⟨a, ns, rfl, _⟩ := h
    rfl
  · obtain ⟨a, ns0, rfl, hS, hl, k⟩ := h
    refine ⟨_, (pss_cons (ps_set (i := 1) sc_law.nd rfl (Or.inl rfl) (pe_call (ok_law_hand T) (hr.mono (by decide)) (by rfl) T.law_hand.g T.law_hand.F.kp T.law_hand.b .nil pass0 (pa_cons (pv 0) pa_nil)))
    (pss_cons (ps_set (i := 2) sc_law.nd rfl (Or.inl rfl) (pe_op (oAddT (K := K)) pe_int (pe_call (ok_law_draw T) (hr.mono (by decide)) (by rfl) T.law_draw.g T.law_draw.F.kp T.law_draw.b .nil pass0 (pa_cons (pv 1) (pa_cons pe_int pa_nil)))))
    (pss_cons (ps_set (i := 3) sc_law.nd rfl (Or.inl rfl) (pe_call (ok_formatted T) (hr.mono (by decide)) (by rfl) T.formatted.g T.formatted.F.kp T.formatted.b .nil pass0 (pa_cons (pe_callB (cMax2 rfl) (by rfl) T.z_max (by decide +kernel) (pa_cons pe_int (pa_cons (pe_op (oAddT (K := K)) (pv 2) pe_int) pa_nil))) (pa_cons (pv 2) pa_nil))))
    (pss_cons (ps_set (i := 4) sc_law.nd rfl (Or.inl rfl) (pe_call (ok_law_new T) (hr.mono (by decide)) (by rfl) T.law_new.g T.law_new.F.kp T.law_new.b .nil pass0 (pa_cons (pv 2) pa_nil)))
    (pss_cons (ps_set (i := 5) sc_law.nd rfl (Or.inl rfl) (pe_op (oAddT (K := K)) pe_int (pe_call (ok_law_draw T) (hr.mono (by decide)) (by rfl) T.law_draw.g T.law_draw.F.kp T.law_draw.b .nil pass0 (pa_cons (pv 1) (pa_cons pe_int pa_nil)))))
    (pss_cons (ps_for PassesOwn.never rfl (pi_range1 (by rfl) T.z_range (pa_cons (pe_op (oAddT (K := K)) pe_int (pe_call (ok_law_draw T) (hr.mono (by decide)) (by rfl) T.law_draw.g T.law_draw.F.kp T.law_draw.b .nil pass0 (pa_cons (pv 1) (pa_cons pe_int pa_nil)))) pa_nil)) (pg_name (i := 6) sc_law.nd rfl (Or.inl rfl))
      (pss_cons (ps_set (i := 7) sc_law.nd rfl (Or.inl rfl) (pe_make (T.m_Log_init.made T.k_Log) (ok_Log_init T) (hr.mono (by decide)) (by rfl) T.k_Log.g T.m_Log_init.b .nil pass0 (pa_cons (pv 3) pa_nil)))
    (pss_cons (ps_dput (hu_of hr) (pv 4) pe_str (pe_op (oAddT (K := K)) (pe_dget (hu_of hr) (pv 4) pe_str (fun _ _ => rfl)) pe_int) rfl)
    (pss_cons (ps_if (pt_not (ptTruth (K := K) (pe_call (ok_law_told_right T) (hr.mono (by decide)) (by rfl) T.law_told_right.g T.law_told_right.F.kp T.law_told_right.b .nil pass0 (pa_cons (pv 7) (pa_cons (pv 4) (pa_cons (pe_callB (cLen (K := K)) (by rfl) T.z_len PySem.boot_len (pa_cons (pe_dget (hu_of hr) (pv 4) pe_str (fun _ _ => rfl)) pa_nil)) pa_nil)))) (by intro _; rfl))) (pss_one (ps_ret pe_bl)) pss_nil)
    (Evl.pss_cut (ps_if (pt_cmpR oLt (pe_call (ok_law_room T) (hr.mono (by decide)) (by rfl) T.law_room.g T.law_room.F.kp T.law_room.b .nil pass0 (pa_cons (pv 4) pa_nil)) (pe_op (oMulA (K := K)) pe_int (pv 5)) (nomark _)) (pss_cons (ps_expr (pe_meth (pv 7) T.k_Log.cl T.m_Log_begin_at.i (ok_Log_begin_at T) (hr.mono (by decide)) T.m_Log_begin_at.b .nil pass0 (pa_cons (pe_op (oAddT (K := K)) (pe_dget (hu_of hr) (pv 4) pe_str (fun _ _ => rfl)) (pe_callB (cLen (K := K)) (by rfl) T.z_len PySem.boot_len (pa_cons (pe_dget (hu_of hr) (pv 4) pe_str (fun _ _ => rfl)) pa_nil))) pa_nil)))
    (pss_one (ps_set (i := 4) sc_law.nd rfl (Or.inl rfl) (pe_call (ok_law_started T) (hr.mono (by decide)) (by rfl) T.law_started.g T.law_started.F.kp T.law_started.b .nil pass0 (pa_cons (pv 4) (pa_cons (pe_op (oAddT (K := K)) (pe_dget (hu_of hr) (pv 4) pe_str (fun _ _ => rfl)) (pe_callB (cLen (K := K)) (by rfl) T.z_len PySem.boot_len (pa_cons (pe_dget (hu_of hr) (pv 4) pe_str (fun _ _ => rfl)) pa_nil))) pa_nil)))))) pss_nil)
    (pss_cons (ps_set (i := 8) sc_law.nd rfl (Or.inl rfl) (pe_callB (cLen (K := K)) (by rfl) T.z_len PySem.boot_len (pa_cons (pe_dget (hu_of hr) (pv 4) pe_str (fun _ _ => rfl)) pa_nil)))
    (pss_cons (ps_set (i := 9) sc_law.nd rfl (Or.inl rfl) (pe_op (oAddT (K := K)) pe_int (pe_call (ok_law_draw T) (hr.mono (by decide)) (by rfl) T.law_draw.g T.law_draw.F.kp T.law_draw.b .nil pass0 (pa_cons (pv 1) (pa_cons pe_int pa_nil)))))
    (pss_cons (ps_for PassesOwn.never rfl (pi_range1 (by rfl) T.z_range (pa_cons (pv 9) pa_nil)) (pg_name (i := 10) sc_law.nd rfl (Or.inl rfl))
      (pss_cons (ps_set (i := 11) sc_law.nd rfl (Or.inl rfl) (pe_op (oAddT (K := K)) (pe_tup (pa_cons pe_str (pa_cons (pv 6) (pa_cons (pv 10) pa_nil)))) (pe_op (oMulA (K := K)) (pe_tup (pa_cons pe_int pa_nil)) (pe_op (oMulA (K := K)) pe_int (pe_op op_sub (pv 5) pe_int)))))
    (pss_one (ps_if (pt_cmpR (oNe (K := K) hr.units) (pe_meth (pv 7) T.k_Log.cl T.m_Log_append.i (ok_Log_append T) (hr.mono (by decide)) T.m_Log_append.b .nil pass0 (pa_cons (pv 11) pa_nil)) (pe_call (ok_law_added T) (hr.mono (by decide)) (by rfl) T.law_added.g T.law_added.F.kp T.law_added.b .nil pass0 (pa_cons (pv 4) (pa_cons (pv 11) pa_nil))) (nomark _)) (pss_one (ps_ret pe_bl)) pss_nil))))
    (pss_cons (ps_set (i := 12) sc_law.nd rfl (Or.inl rfl) (pe_op (oAddT (K := K)) (pv 8) (pe_call (ok_law_draw T) (hr.mono (by decide)) (by rfl) T.law_draw.g T.law_draw.F.kp T.law_draw.b .nil pass0 (pa_cons (pv 1) (pa_cons (pv 9) pa_nil)))))
    (pss_cons (ps_setLc (i := 13) (own := [("block", 15), ("content", 16)]) rfl sc_law.nd rfl rfl (sw_true rfl rfl rfl (by decide +kernel)) (piL (K := K) (pe_call (ok_law_contents T) (hr.mono (by decide)) (by rfl) T.law_contents.g T.law_contents.F.kp T.law_contents.b .nil pass0 (pa_cons (pv 4) (pa_cons (pv 12) pa_nil)))) (blkOk_by (N := n_law) (sc := defScope s_law) (by decide +kernel)) (fun _ _ _ _ _ => (pgTup (K := K) (n := 2) (pg_tup (n := 2) rfl (pgs_cons (pg_name (i := 15) sc_law.nd rfl (Or.inl rfl)) (pgs_cons (pg_name (i := 16) sc_law.nd rfl (Or.inl rfl)) pgs_nil))))) (fun _ _ _ _ _ => pts_nil) (fun _ _ _ _ _ => (pv 15)))
    (pss_cons (ps_set (i := 14) sc_law.nd rfl (Or.inl rfl) (pe_ix (ixLT (K := K)) (pv 13) (pe_call (ok_law_draw T) (hr.mono (by decide)) (by rfl) T.law_draw.g T.law_draw.F.kp T.law_draw.b .nil pass0 (pa_cons (pv 1) (pa_cons (pe_callB (cLen (K := K)) (by rfl) T.z_len PySem.boot_len (pa_cons (pv 13) pa_nil)) pa_nil))) (fun _ _ => rfl)))
    (pss_cons (ps_for PassesOwn.never rfl (piL (K := K) (pe_callB (call_sortedDI rfl) (by rfl) T.z_sorted (by decide +kernel) (pa_cons (pe_meth0 (pv 3) T.k_Disk.cl T.m_Disk_waiting.i (ok_Disk_waiting T) (hr.mono (by decide)) T.m_Disk_waiting.b .nil pass0) pa_nil))) (pg_name (i := 15) sc_law.nd rfl (Or.inl rfl))
      (pss_one (ps_if (pt_cmpR (oNe (K := K) hr.units) (pv 15) (pv 14) (nomark _)) (pss_one (ps_expr (pe_meth (pv 3) T.k_Disk.cl T.m_Disk_force.i (ok_Disk_force T) (hr.mono (by decide)) T.m_Disk_force.b .nil passL (pa_cons (pe_tup (pa_cons (pv 15) pa_nil)) pa_nil)))) pss_nil)))
    (pss_cons (ps_expr (pe_meth0 (pv 3) T.k_Disk.cl T.m_Disk_cut.i (ok_Disk_cut T) (hr.mono (by decide)) T.m_Disk_cut.b .nil pass0))
    (pss_cons (ps_if (pt_cmpR (oNe (K := K) hr.units) (pe_call (ok_law_lying T) (hr.mono (by decide)) (by rfl) T.law_lying.g T.law_lying.F.kp T.law_lying.b .nil pass0 (pa_cons (pv 3) (pa_cons (pv 4) pa_nil))) (pv 12) (nomark _)) (pss_one (ps_ret pe_bl)) pss_nil)
    (pss_one (ps_dput (hu_of hr) (pv 4) pe_str (pe_slice (slL (K := K)) (pe_dget (hu_of hr) (pv 4) pe_str (fun _ _ => rfl)) po_none (po_some (pv 12))) rfl))))))))))))))))
    (pss_cons (ps_set (i := 7) sc_law.nd rfl (Or.inl rfl) (pe_make (T.m_Log_init.made T.k_Log) (ok_Log_init T) (hr.mono (by decide)) (by rfl) T.k_Log.g T.m_Log_init.b .nil pass0 (pa_cons (pv 3) pa_nil)))
    (pss_cons (ps_dput (hu_of hr) (pv 4) pe_str (pe_op (oAddT (K := K)) (pe_dget (hu_of hr) (pv 4) pe_str (fun _ _ => rfl)) pe_int) rfl)
    (pss_cons (ps_if (pt_not (ptTruth (K := K) (pe_call (ok_law_told_right T) (hr.mono (by decide)) (by rfl) T.law_told_right.g T.law_told_right.F.kp T.law_told_right.b .nil pass0 (pa_cons (pv 7) (pa_cons (pv 4) (pa_cons (pe_callB (cLen (K := K)) (by rfl) T.z_len PySem.boot_len (pa_cons (pe_dget (hu_of hr) (pv 4) pe_str (fun _ _ => rfl)) pa_nil)) pa_nil)))) (by intro _; rfl))) (pss_one (ps_ret pe_bl)) pss_nil)
    (pss_one (ps_ret (pe_and (pe_cmpR oIsN (pe_meth (pv 7) T.k_Log.cl T.m_Log_begin_at.i (ok_Log_begin_at T) (hr.mono (by decide)) T.m_Log_begin_at.b .nil pass0 (pa_cons (pe_op (oAddT (K := K)) (pe_dget (hu_of hr) (pv 4) pe_str (fun _ _ => rfl)) (pe_callB (cLen (K := K)) (by rfl) T.z_len PySem.boot_len (pa_cons (pe_dget (hu_of hr) (pv 4) pe_str (fun _ _ => rfl)) pa_nil))) pa_nil)) pe_non (nomark _)) (pe_one (pe_cmpR (oEq (K := K) hr.units) (pe_meth0 (pe_make (T.m_Log_init.made T.k_Log) (ok_Log_init T) (hr.mono (by decide)) (by rfl) T.k_Log.g T.m_Log_init.b .nil pass0 (pa_cons (pv 3) pa_nil)) T.k_Log.cl T.m_Log_records.i (ok_Log_records T) (hr.mono (by decide)) T.m_Log_records.b .nil pass0) (pe_lst pa_nil) (nomark _))))))))))))))), ?_⟩
    walk_at "go"
    refine ⟨a, ns0, rfl, hS, hl, fun B H1 nB s1 b1 => ?_⟩
    walk_at "go"
    refine ⟨B, 20, rfl, b1, by omega, by omega, fun e H2 e0 e1 s2 => ?_⟩
    obtain ⟨r, er, hr0, hr1⟩ : ∃ r : Nat, 12 + e = (r : Int) ∧ 12 ≤ r ∧ r ≤ 31 := ⟨(12 + e).toNat, by omega, by omega, by omega⟩
    walk_at "go"
    rw [er]
    obtain ⟨b, eb, hb16, hb8, hb6⟩ : ∃ b : Nat, (if (r : Int) + 8 > 16 then (r : Int) + 8 else 16) = (b : Int) ∧ 16 ≤ b ∧ r + 8 ≤ b ∧ b ≤ 600 := by
      split
      · exact ⟨((r : Int) + 8).toNat, by omega, by omega, by omega, by omega⟩
      · exact ⟨16, rfl, by omega, by omega, by omega⟩
    rw [eb]
    refine ⟨b, r, rfl, hb16, hb6, by omega, hb8, fun p F3 H3 ns W d3 s3 f3 => ?_⟩
    walk_at "go"
    refine ⟨r, rfl, fun m G4 H4 m4 g4 s4 => ?_⟩
    have cl4 := closed_new W (by omega) hb8 hb6
    generalize (SD.forceL ns (SD.fm b r)).1 = S4 at *
    have w4 : Wd K T.C_Disk H1 H4 B p F3 S4 m G4 ⟨0, r, 0, 0, 0, none, []⟩ := ⟨b1, fun x e => s2.free ((s3.trans s4).free e), bag_same s2.b (s3.trans s4), d3.same s4, m4, fun x hx => s2.free (f3 x hx), fun x hx => s2.free (free_ s3 (g4 x hx)), fun x hx z => d3.there x hx (g4 x z)⟩
    walk_at "go"
    refine ⟨B, 2, rfl, w4.bag, by omega, by omega, fun pd H5 p0 p1 s5 => ?_⟩
    have w5 := w4.hs s5
    obtain ⟨pc, epc, hpc0, hpc1⟩ : ∃ pc : Nat, 1 + pd = (pc : Int) ∧ 1 ≤ pc ∧ pc ≤ 2 := ⟨(1 + pd).toNat, by omega, by omega, by omega⟩
    walk_at "go"
    rw [epc]
    refine ⟨B, 8, rfl, w5.bag, by omega, by omega, fun t H6 t0 t1 s6 => ?_⟩
    have w6 := w5.hs s6
    walk_at "go"
    refine i_rng (2 + t).toNat rfl (by omega) (by omega) ?_
    refine l_rng (fun i σ3 H10 => ∃ (y6 y7 y8 y9 y10 y11 y12 y13 y14 y15 y16 : Option V) (m : Addr) (F : List Addr) (S : SD) (G : List Addr) (L : LD) (fi : Nat) (c : Nat → Option Pc), σ3 = [some (.ref a), some (.ref B.hd), some (.int r), some (.ref p), some (.ref m), some (.int pc), y6, y7, y8, y9, y10, y11, y12, y13, y14, y15, y16] ∧ Wd K T.C_Disk H1 H10 B p F S m G L ∧ Closed S L fi c ∧ L.ring = r ∧ L.ep = i ∧ L.nk ≤ 8 * i ∧ L.bg + L.kept.length ≤ 4 * i) ⟨none, none, none, none, none, none, none, none, none, none, none, m, F3, S4, G4, _, 0, _, rfl, w6, cl4, rfl, rfl, Nat.zero_le _, Nat.zero_le _⟩ (fun σ3 H10 z => ?_) (fun i σ3 H10 hi z => ?_)
    · obtain ⟨y6, y7, y8, y9, y10, y11, y12, y13, y14, y15, y16, m, F, S, G, L, fi, c, rfl, w10, cl, hring, hep, hnk, hbg⟩ := z
      have ht9 : (2 + t).toNat ≤ 9 := by omega
      have hbk := cl.ch.ge
      walk_at "go"
      refine e_make ?_
      walk_at "go"
      refine mk_log w10 cl (by omega) (by omega) (by omega) fun q GL11 F11 S11 H11 wl11 hv11 rw11 kp11 => ?_
      walk_at "go"
      obtain ⟨rl, ts, hm, hrl, lts⟩ := ms_rows wl11.w.ms
      refine e_dget ?_
      walk_at "go"
      refine o_dget (k := Sum.inr "epoch") hm mkv_epoch ?_
      walk_at "go"
      obtain ⟨kvs, hm12, lm12, wl12, kp12⟩ := wl11.ep (e := L.ep + 1) (f := some ((L.bg : Int) + L.kept.length - 1))
      refine o_dput (k := Sum.inr "epoch") hm12 lm12 ?_
      rw [show (L.ep : Int) + 1 = ((L.ep + 1 : Nat) : Int) from rfl]
      generalize upd H11 m (.dK (putK kvs (Sum.inr "epoch") (.int (L.ep + 1 : Nat)))) = H12 at *
      have wl12 : WL K T.C_Disk T.C_Log H1 H12 B p F11 S11 m G L.up q GL11 L.up := wl12
      have fup : L.up.fo = some ((L.up.bg : Int) + (L.up.kept.length : Nat) - 1) := rfl
      have eup : L.up.ep = L.ep + 1 := rfl
      have nup : L.up.nk = L.nk := rfl
      have bup : L.up.bg + L.up.kept.length = L.bg + L.kept.length := rfl
      have kup : L.kept.length = L.up.kept.length := rfl
      rw [kup] at hv11
      generalize L.up = L12 at *
      clear hm12 hm hrl lts
      obtain ⟨rl, ts, hm, hrl, lts⟩ := ms_rows wl12.w.ms
      walk_at "go"
      refine e_dget ?_
      walk_at "go"
      refine o_dget (k := Sum.inr "rows") hm mkv_rows ?_
      walk_at "go"
      rw [lts]
      have fw12 := hv11.few1
      refine ⟨q, p, GL11, L12, m, G, L12.kept.length, rfl, wl12.ls, wl12.w.ms, hv11.len6, hv11.items, by omega, hv11.nkOf, fup, fun H13 s13 => ?_⟩
      have wl13 := wl12.same s13
      obtain ⟨rl, ts, hm, hrl, lts⟩ := ms_rows wl13.w.ms
      walk_at "go"
      obtain ⟨kl, dx, hob⟩ := wl_ins wl13
      refine m_call0 ⟨dx, hob⟩ (lf_no _ _ _ (by decide +kernel)) ?_
      walk_at "go"
      refine e_dget ?_
      walk_at "go"
      refine o_dget (k := Sum.inr "record") hm mkv_record ?_
      walk_at "go"
      refine e_dget ?_
      walk_at "go"
      refine o_dget (k := Sum.inr "rows") hm mkv_rows ?_
      walk_at "go"
      rw [lts]
      refine wl_begin wl13 hv11 fup (Nat.le_refl _) (by omega) (by omega) (by omega) (fun x => by rw [rw11]; exact Nat.zero_le _) fun F14 GL14 S14 L14 H14 wl14 v14 e14 r14 kp14 => ?_
      obtain ⟨fi', K', ks0', ks1', c', hv14⟩ := v14
      have rw14 : ∀ x, S14.rows x = [] := fun x => List.length_eq_zero_iff.mp (by have := r14 x; rw [rw11] at this; exact Nat.le_zero.mp this)
      have cl14 := hv14.still rw14
      have k14 : L14.kept = [] := by
        rw [e14]
        show L12.kept.drop L12.kept.length = []
        exact List.drop_eq_nil_of_le (Nat.le_refl _)
      have b14 : L14.bk ≤ 1000000 ∧ L14.ep ≤ 1000000 ∧ L14.bg ≤ 1000000 := by
        have f := hv11.fkE
        have e1 : L14.bk = L12.fk L12.kept.length := by rw [e14]; rfl
        have e2 : L14.ep = L12.ep := by rw [e14]; rfl
        have e3 : L14.bg = L12.bg + L12.kept.length := by rw [e14]; rfl
        omega
      walk_at "go"
      refine e_make ?_
      walk_at "go"
      refine mk_log wl14.w cl14 b14.1 b14.2.1 b14.2.2 fun q2 GL15 F15 S15 H15 wl15 hv15 rw15 kp15 => ?_
      walk_at "go"
      obtain ⟨kl, dx, hob⟩ := wl_ins wl15
      refine m_call0 ⟨dx, hob⟩ (lf_no _ _ _ (by decide +kernel)) ?_
      walk_at "go"
      refine ⟨q2, p, GL15, L14.up, rfl, wl15.ls, by show L14.kept.length ≤ _; rw [k14]; exact Nat.zero_le _, fun D1 us H16 s16 n16 h16 p16 => ?_⟩
      walk_at "go"
      refine n_new (le_size (by simp)) fun D2 H17 n17 s17 h17 => ?_
      have ep : L14.up.pairs = [] := by
        unfold LD.pairs
        show (List.range L14.kept.length).map _ = []
        rw [k14]; rfl
      rw [ep] at p16
      refine o_eqP (rs := []) (s17 _ _ h16) (us := []) h17 (PairsTo.st p16 fun c ys h => st_ s17 h) ⟨rfl, fun i t r a => by cases a⟩ (fun r hr => by cases hr) ?_
      exact k H17
    obtain ⟨y6, y7, y8, y9, y10, y11, y12, y13, y14, y15, y16, m, F, S, G, L, fi, c, rfl, w10, cl, hring, hep, hnk, hbg⟩ := z
    have hi9 : i < 9 := by omega
    have hbk := cl.ch.ge
    walk_at "go"
    refine e_make ?_
    walk_at "go"
    refine mk_log w10 cl (by omega) (by omega) (by omega) fun q GL11 F11 S11 H11 wl11 hv11 rw11 kp11 => ?_
    walk_at "go"
    obtain ⟨rl, ts, hm, hrl, lts⟩ := ms_rows wl11.w.ms
    refine e_dget ?_
    walk_at "go"
    refine o_dget (k := Sum.inr "epoch") hm mkv_epoch ?_
    walk_at "go"
    obtain ⟨kvs, hm12, lm12, wl12, kp12⟩ := wl11.ep (e := L.ep + 1) (f := some ((L.bg : Int) + L.kept.length - 1))
    refine o_dput (k := Sum.inr "epoch") hm12 lm12 ?_
    rw [show (L.ep : Int) + 1 = ((L.ep + 1 : Nat) : Int) from rfl]
    generalize upd H11 m (.dK (putK kvs (Sum.inr "epoch") (.int (L.ep + 1 : Nat)))) = H12 at *
    have wl12 : WL K T.C_Disk T.C_Log H1 H12 B p F11 S11 m G L.up q GL11 L.up := wl12
    have fup : L.up.fo = some ((L.up.bg : Int) + (L.up.kept.length : Nat) - 1) := rfl
    have rup : L.up.ring = r := hring
    have eup : L.up.ep = i + 1 := by show L.ep + 1 = _; omega
    have nup : L.up.nk ≤ 8 * i := hnk
    have bup : L.up.bg + L.up.kept.length ≤ 4 * i := hbg
    have kup : L.kept.length = L.up.kept.length := rfl
    rw [kup] at hv11
    clear hm12 hm hrl lts hring hep hnk hbg w10 kup
    generalize L.up = L12 at *
    obtain ⟨rl, ts, hm, hrl, lts⟩ := ms_rows wl12.w.ms
    walk_at "go"
    refine e_dget ?_
    walk_at "go"
    refine o_dget (k := Sum.inr "rows") hm mkv_rows ?_
    walk_at "go"
    rw [lts]
    have fw12 := hv11.few1
    refine ⟨q, p, GL11, L12, m, G, L12.kept.length, rfl, wl12.ls, wl12.w.ms, hv11.len6, hv11.items, by omega, hv11.nkOf, fup, fun H13 s13 => ?_⟩
    have wl13 := wl12.same s13
    walk_at "go"
    refine s_cut (fun σ4 H14 => ∃ (m : Addr) (F : List Addr) (S : SD) (G GL : List Addr) (L : LD) (fi K0 : Nat) (ks0 ks1 : List Kp) (c o : Nat → Option Pc), σ4 = [some (.ref a), some (.ref B.hd), some (.int r), some (.ref p), some (.ref m), some (.int pc), some (.int (i : Nat)), some (.ref q), y8, y9, y10, y11, y12, y13, y14, y15, y16] ∧ WL K T.C_Disk T.C_Log H1 H14 B p F S m G L q GL L ∧ Inv S L fi K0 ks0 ks1 c o L.kept.length ∧ L.ring = r ∧ L.ep = i + 1 ∧ L.nk ≤ 8 * i ∧ L.bg + L.kept.length ≤ 4 * i ∧ L.nk + 5 * pc ≤ L.bk + L.ring ∧ ∀ x, S.rows x = []) ?_ ?_
    · walk_at "go"
      refine ⟨m, G, L12, rfl, wl13.w.ms, by omega, fun r hr => by have := hv11.len6 r hr; omega, fun H14 s14 => ?_⟩
      have wl14 := wl13.same s14
      rw [← hv11.nkOf]
      walk_at "go"
      refine i_d (fun z => ?_) (fun z => ?_)
      · obtain ⟨rl, ts, hm, hrl, lts⟩ := ms_rows wl14.w.ms
        walk_at "go"
        obtain ⟨kl, dx, hob⟩ := wl_ins wl14
        refine m_call0 ⟨dx, hob⟩ (lf_no _ _ _ (by decide +kernel)) ?_
        walk_at "go"
        refine e_dget ?_
        walk_at "go"
        refine o_dget (k := Sum.inr "record") hm mkv_record ?_
        walk_at "go"
        refine e_dget ?_
        walk_at "go"
        refine o_dget (k := Sum.inr "rows") hm mkv_rows ?_
        walk_at "go"
        rw [lts]
        have bkk := hv11.ch.ge
        refine wl_begin wl14 hv11 fup (Nat.le_refl _) (by omega) (by omega) (by omega) (fun x => by rw [rw11]; exact Nat.zero_le _) fun F15 GL15 S15 L15 H15 wl15 v15 e15 r15 kp15 => ?_
        obtain ⟨fi', K', ks0', ks1', c', hv15⟩ := v15
        obtain ⟨rl, ts, hm, hrl, lts⟩ := ms_rows wl15.w.ms
        walk_at "go"
        refine e_dget ?_
        walk_at "go"
        refine o_dget (k := Sum.inr "record") hm mkv_record ?_
        walk_at "go"
        refine e_dget ?_
        walk_at "go"
        refine o_dget (k := Sum.inr "rows") hm mkv_rows ?_
        walk_at "go"
        rw [lts]
        refine ⟨m, G, L12, L12.kept.length, rfl, wl15.w.ms, Nat.le_refl _, hv11.nkOf, by omega, fun r hr => by have := hv11.len6 r hr; omega, fun m' G' H16 ms16 g16 s16 => ?_⟩
        have wl16 := wl_started (LM' := L15) wl15 s16 (by rw [e15]; exact ms16.fo) g16
        have k15 : L15.kept.length = 0 := by
          rw [e15]
          show (L12.kept.drop L12.kept.length).length = 0
          rw [List.length_drop]; omega
        have f := hv11.fkE
        have e1 : L15.bk = L12.nk := by rw [e15]; exact f
        have e2 : L15.ep = i + 1 := by rw [e15]; exact eup
        have e3 : L15.bg = L12.bg + L12.kept.length := by rw [e15]; rfl
        have e4 : L15.nk = L12.nk := by rw [e15]; rfl
        have e5 : L15.ring = r := by rw [e15]; exact rup
        rw [show max L12.kept.length L12.kept.length - L12.kept.length = L15.kept.length by omega] at hv15
        walk_at "go"
        exact ⟨m', F15, S15, G', GL15, L15, fi', K', ks0', ks1', c', _, rfl, wl16, hv15, e5, e2, by omega, by omega, by omega, fun x => List.length_eq_zero_iff.mp (by have := r15 x; rw [rw11] at this; exact Nat.le_zero.mp this)⟩
      · walk_at "go"
        exact ⟨m, F11, S11, G, GL11, L12, _, _, _, _, _, _, rfl, wl14, hv11, rup, eup, nup, bup, by omega, rw11⟩
    rintro σ4 H14 ⟨m, F, S, G, GL, L, fi, K0, ks0, ks1, c, o, rfl, wl14, hv14, hring, hep, hnk, hbg, hroom, rw14⟩
    clear wl13 wl12 hv11 rw11 kp11 hm hrl lts fup rup eup nup bup fw12
    have k0 : L.kept.length = L.kept.length := rfl
    obtain ⟨rl, ts, hm, hrl, lts⟩ := ms_rows wl14.w.ms
    have fw14 := hv14.few1
    walk_at "go"
    refine e_dget ?_
    walk_at "go"
    refine o_dget (k := Sum.inr "rows") hm mkv_rows ?_
    walk_at "go"
    rw [lts]
    refine ⟨B, 3, rfl, wl14.w.bag, by omega, by omega, fun md H15 md0 md1 s15 => ?_⟩
    have wl15 := wl14.hs s15
    obtain ⟨many, em, hm0, hm1⟩ : ∃ many : Nat, 2 + md = (many : Int) ∧ 2 ≤ many ∧ many ≤ 4 := ⟨(2 + md).toNat, by omega, by omega, by omega⟩
    walk_at "go"
    rw [em]
    refine i_rng many (by omega) (by omega) (by omega) ?_
    have hsure : ∀ x : Nat, L.bk ≤ x → x < L.nk → S.rows (blk L.ring x) = [] := fun x _ _ => rw14 _
    refine l_rng (fun j σ5 H16 => ∃ (y10 y11 : Option V) (F : List Addr) (S : SD) (G : List Addr) (L' : LD) (ks1 : List Kp), σ5 = [some (.ref a), some (.ref B.hd), some (.int r), some (.ref p), some (.ref m), some (.int pc), some (.int (i : Nat)), some (.ref q), some (.int L.kept.length), some (.int many), y10, y11, y12, y13, y14, y15, y16] ∧ WL K T.C_Disk T.C_Log H1 H16 B p F S m G L' q GL L' ∧ Inv S L' fi K0 ks0 ks1 c o L.kept.length ∧ L'.ring = r ∧ L'.ep = i + 1 ∧ L'.bk = L.bk ∧ L'.bg = L.bg ∧ L'.nk = L.nk + pc * j ∧ L'.kept.length = L.kept.length + j ∧ L'.fk L.kept.length = L.nk ∧ (∀ x, (S.rows x).length ≤ 2 * j) ∧ (∀ x : Nat, L.nk ≤ x → x < L'.nk → S.rows (blk r x) ≠ []) ∧ (∀ x, S.rows x ≠ [] → ∃ y : Nat, L.nk ≤ y ∧ y < L'.nk ∧ x = blk r y)) ⟨_, _, F, S, G, L, ks1, rfl, wl15, hv14, hring, hep, rfl, rfl, rfl, rfl, hv14.fkE, fun x => by rw [rw14]; exact Nat.zero_le _, fun x h1 h2 => absurd h2 (by omega), fun x hx => absurd (rw14 x) hx⟩ (fun σ5 H16 z => ?_) (fun j σ5 H16 hj z => ?_)
    rotate_left 1
    · obtain ⟨y10, y11, F', S', G', L', ks1', rfl, wl16, hv16, hring', hep', hbk', hbg', hnk', hkl', hfk', hrow', hnew', hold'⟩ := z
      have hj4 : j < 4 := by omega
      have fw16 := hv16.few1
      walk_at "go"
      refine n_new (le_size (by simp)) fun t1 H17 n17 s17 h17 => ?_
      walk_at "go"
      refine n_new (le_size (by simp)) fun t2 H18 n18 s18 h18 => ?_
      walk_at "go"
      obtain ⟨nz, enz, hnz⟩ : ∃ nz : Nat, (36 : Int) * ((pc : Int) - 1) = (nz : Int) ∧ nz = 36 * (pc - 1) := ⟨36 * (pc - 1), by omega, rfl⟩
      refine o_timesA (stO h18) (by simp) enz (by omega) (by omega) (by simp) fun t3 H19 n19 s19 h19 => ?_
      walk_at "go"
      have s79 := s18.trans s19
      refine o_catA (stO (s79 _ _ h17)) (stO h19) (by rw [PyProof.Rows.lm_len_rep_flat]; simp only [List.length_cons, List.length_nil]; omega) fun t4 H20 s20 h20 => ?_
      have wl20 := wl16.same (s17.trans (s79.trans s20))
      have ok := lost_ok (i := (i : Nat)) (t := (j : Nat)) (n := nz) (by omega) (by omega) (by omega)
      have cn := lost_n (i := (i : Nat)) (t := (j : Nat)) hnz hpc0 hpc1
      generalize [V.str "life", V.int (i : Nat), V.int (j : Nat)] ++ (List.replicate nz [V.int 0]).flatten = xs at *
      have hpj : pc * j ≤ pc * 3 := Nat.mul_le_mul_left _ (by omega)
      obtain ⟨kl, dx, hob⟩ := wl_ins wl20
      walk_at "go"
      refine m_call0 ⟨dx, hob⟩ (lf_no _ _ _ (by decide +kernel)) ?_
      walk_at "go"
      refine wl_append wl20 hv16 ok h20 (by omega) (by omega) (by omega) (by omega) (fun x => by have := hrow' x; omega) fun F21 H21 wl21 hv21 kp21 => ?_
      walk_at "go"
      refine wl_added wl21 (kp21 _ _ h20) (by omega) (fun r hr => by have := hv16.len6 r hr; omega) hv16.nkOf fun G22 H22 wl22 kp22 => ?_
      walk_at "go"
      have lp : (L'.puts xs).length = cutN xs := rp_len
      have e0 : ∀ w ∈ L'.puts xs, ∃ jj, jj < cutN xs ∧ w.1 = blk L'.ring (L'.nk + jj) := fun w hw => by
        obtain ⟨jj, hjj, e⟩ := List.mem_map.mp hw
        exact ⟨jj, List.mem_range.mp hjj, by rw [← e]; rfl⟩
      refine ⟨_, _, F21, _, G22, _, _, rfl, wl22, hv21, hring', hep', hbk', hbg', ?_, ?_, ?_, fun x => ?_, fun x h1 h2 => ?_, fun x hx => ?_⟩
      · show L'.nk + cutN xs = _
        rw [cn, hnk', Nat.mul_succ]; omega
      · show (L'.kept ++ [(xs, L'.nk, L'.ep)]).length = _
        rw [List.length_append, List.length_singleton]; omega
      · show fkL (L'.kept ++ [(xs, L'.nk, L'.ep)]) _ L.kept.length = _
        have h0 : fkL L'.kept L'.nk L.kept.length = L.nk := hfk'
        by_cases qq : L.kept.length < L'.kept.length
        · unfold fkL at h0 ⊢
          rw [List.getElem?_append_left qq]
          rw [List.getElem?_eq_getElem qq] at h0 ⊢
          exact h0
        · have : j = 0 := by omega
          subst this
          have el : L.kept.length = L'.kept.length := by omega
          unfold fkL
          rw [el, List.getElem?_append_right (Nat.le_refl _), Nat.sub_self]
          show L'.nk = L.nk
          omega
      · have h1 := SD.puts_len (x := x) (ws := L'.puts xs) (S := S')
        have h3 := hrow' x
        omega
      · have h2 : x < L'.nk + cutN xs := h2
        by_cases qq : x < L'.nk
        · exact puts_keep (hnew' x h1 qq)
        · have hm : (blk r x, (L'.pc xs (x - L'.nk)).ct) ∈ L'.puts xs := by
            refine List.mem_map.mpr ⟨x - L'.nk, List.mem_range.mpr (by omega), ?_⟩
            rw [show L'.nk + (x - L'.nk) = x by omega, ← hring']; rfl
          have nd : ((L'.puts xs).map (·.1)).Nodup := by
            unfold LD.puts
            rw [List.map_map]
            refine List.pairwise_map.mpr (List.Pairwise.imp_of_mem (fun {i j} hi hj hne q => hne ?_) List.nodup_range)
            have hi := List.mem_range.mp hi
            have hj := List.mem_range.mp hj
            have q : (1 : Int) + (((L'.nk + i) % L'.ring : Nat) : Int) = 1 + (((L'.nk + j) % L'.ring : Nat) : Int) := q
            exact mod_inj (r := L'.ring) (a := L'.nk) (by omega) (by omega) (by omega)
          have := puts_rows (S := S') nd _ hm
          rw [this]
          simp
      · by_cases qq : ∃ w ∈ L'.puts xs, w.1 = x
        · obtain ⟨w, hw, e⟩ := qq
          obtain ⟨jj, hjj, e2⟩ := e0 w hw
          exact ⟨L'.nk + jj, by omega, by show L'.nk + jj < L'.nk + cutN xs; omega, by rw [← e, e2, hring']⟩
        · rw [puts_off fun w hw e => qq ⟨w, hw, e⟩] at hx
          obtain ⟨y, y1, y2, y3⟩ := hold' x hx
          exact ⟨y, y1, by show y < L'.nk + cutN xs; omega, y3⟩
    · obtain ⟨y10, y11, F', S', G', L', ks1', rfl, wl16, hv16, hring', hep', hbk', hbg', hnk', hkl', hfk', hrow', hnew', hold'⟩ := z
      clear wl14 wl15
      have fw16 := hv16.few1
      have hpm : pc * many ≤ pc * 4 := Nat.mul_le_mul_left _ hm1
      walk_at "go"
      refine ⟨B, many, rfl, wl16.w.bag, by omega, by omega, fun ld H17 ld0 ld1 s17 => ?_⟩
      have wl17 := wl16.hs s17
      obtain ⟨lost, el, hl0, hl1⟩ : ∃ lost : Nat, (L.kept.length : Int) + ld = (lost : Int) ∧ L.kept.length ≤ lost ∧ lost < L'.kept.length := ⟨((L.kept.length : Int) + ld).toNat, by omega, by omega, by omega⟩
      walk_at "go"
      rw [el]
      refine ⟨m, G', L', lost, rfl, wl17.w.ms, hl1, hv16.len6, by omega, by omega, fun D us H18 s18 n18 h18 p18 => ?_⟩
      have wl18 := wl17.same s18
      refine i_lst (slO h18) ?_
      refine c_it (walk_list (xs := us.map V.ref)) (fun j acc H19 => Same H18 H19 ∧ acc = (((L'.rp lost).take j).map (·.1)).map V.int) (fun D2 hD2 => ⟨upd_free (Same.refl _) hD2, rfl⟩) (fun j acc H19 hj z => slO (z.1 _ _ h18)) (fun acc D2 H19 nD2 hD2 z => ?_) (fun j x acc H19 H20 D2 hj nD2 hD2 z y => ?_)
      rotate_left 1
      · obtain ⟨s19, rfl⟩ := z
        obtain ⟨rfl, ex⟩ := y
        have hj' : j < us.length := by simpa using hj
        have ex2 : x = .ref us[j] := by
          rw [List.getElem?_map, List.getElem?_eq_getElem hj'] at ex
          exact (Option.some.inj ex).symm
        subst ex2
        have hj2 : j < (L'.rp lost).length := by rw [← p18.1]; exact hj'
        obtain ⟨aa, ht, ha⟩ := p18.2 j _ _ (List.getElem?_eq_getElem hj') (List.getElem?_eq_getElem hj2)
        have hrl2 := LD.rp_len (i := lost) hv16.len6
        refine g_pairS (st_ s19 ht) ⟨rfl, ?_⟩
        walk_at "go"
        refine ⟨_, hD2, lt_size (by simp only [List.length_map, List.length_take]; omega), _, upd_same, upd_free s19 nD2, ?_⟩
        rw [List.take_add_one, List.getElem?_eq_getElem hj2, List.map_append, List.map_append]; rfl
      obtain ⟨s19, rfl⟩ := z
      rw [List.length_map, p18.1, List.take_length] at hD2
      have wl19 := wl18.same s19
      have hrl2 := LD.rp_len (i := lost) hv16.len6
      have hpos : 0 < (L'.rp lost).length := by
        have hg := List.getElem?_eq_getElem hl1
        unfold LD.rp
        rw [hg, rp_len]
        exact cutN_pos (hv16.recs _ (List.getElem_mem hl1)).1
      walk_at "go"
      rw [List.length_map]
      refine ⟨B, (L'.rp lost).length, rfl, wl19.w.bag, by omega, by omega, fun ad H20 ad0 ad1 s20 => ?_⟩
      have wl20 := wl19.hs s20
      have h20 := s20.ls (new_ne wl18.w.bag nD2) hD2
      have had : ad.toNat < (L'.rp lost).length := by omega
      have hga := List.getElem?_eq_getElem had
      have hmw := List.getElem_mem had
      refine o_ixA h20 (atI_in (j := ad.toNat) (by omega) (by rw [List.getElem?_map, List.getElem?_map, hga]; rfl)) ?_
      generalize (L'.rp lost)[ad.toNat] = away at *
      have hnea : S'.rows away.1 ≠ [] := by
        obtain ⟨kk, pp, k1, k2, k3, k4, hp, rfl⟩ := hv16.rp hl1 hmw
        have := hv16.mono (i := L.kept.length) (j := lost) hl0 (by omega)
        rw [hring']
        exact hnew' kk (by omega) k2
      walk_at "go"
      obtain ⟨fs, hdo, no⟩ := ins_of_ds wl20.w.ds
      refine m_call0 hdo (no _ (by decide +kernel)) ?_
      walk_at "go"
      have few := hv16.few (by omega)
      refine ⟨p, F', S', rfl, wl20.w.ds, few, fun x => by have := hrow' x; omega, fun nw dq H21 W s21 n21 h21 => ?_⟩
      have wl21 := wl20.same s21
      have l64 : nw.length < 64 := by
        obtain ⟨LL, hl1, hl2⟩ := few
        have := len_le_of_sub (W.asc.imp (fun {a b} h => by intro z; omega)) (L := LL) fun x hx => hl2 x ((W.mem x).mp hx)
        omega
      walk_at "go"
      refine ⟨dq, _, nw, rfl, .inl h21, by unfold waitKvs; rw [List.map_map]; rfl, l64, fun ys bl p1 p2 nbl => ?_⟩
      have s22 : Same H21 (upd H21 bl (.lst (ys.map V.int))) := Same.new nbl
      have h22 : upd H21 bl (.lst (ys.map V.int)) bl = some (.lst (ys.map V.int)) := upd_same
      generalize upd H21 bl (.lst (ys.map V.int)) = H22 at *
      have wl22 := wl21.same s22
      have ynd : ys.Nodup := p1.nodup_iff.mpr (W.asc.imp (fun {a b} h => by intro z; omega))
      have ymem : ∀ x, x ∈ ys ↔ S'.rows x ≠ [] := fun x => (p1.mem_iff).trans (W.mem x)
      have bl0 : H1 bl = none := wl21.w.al bl nbl
      clear wl20 wl19 wl18 wl17 wl16
      walk_at "go"
      refine i_lst (slO h22) ?_
      refine l_lst (xs := ys.map V.int) (fun j σ6 H23 => ∃ (y15 : Option V) (F : List Addr) (S : SD) (c : Nat → Option Pc), σ6 = [some (.ref a), some (.ref B.hd), some (.int r), some (.ref p), some (.ref m), some (.int pc), some (.int (i : Nat)), some (.ref q), some (.int L.kept.length), some (.int many), y10, y11, some (.int lost), some (.ref D2), some (.int away.1), y15, y16] ∧ H23 bl = some (.lst (ys.map V.int)) ∧ bl ∉ F ∧ WL K T.C_Disk T.C_Log H1 H23 B p F S m G' L' q GL L' ∧ Inv S L' fi K0 ks0 ks1' c o L.kept.length ∧ ∀ x, S.rows x ≠ [] ↔ (x ∈ ys.drop j ∨ x = away.1)) ⟨_, F', S', c, rfl, h22, fun z => wl21.w.ds.there bl z nbl, wl22, hv16, fun x => ⟨fun z => .inl ((ymem x).mpr z), fun z => z.elim (fun z => (ymem x).mp z) fun z => by rw [z]; exact hnea⟩⟩ (fun j σ6 H23 hj z => ?_) (fun σ6 H23 z => ?_) (fun j x σ6 H23 hx z => ?_)
      · obtain ⟨y15, F, S, c, _, hb, _⟩ := z
        exact slO hb
      · obtain ⟨y15, F, S, c, rfl, hb, hbF, wl23, hv23, hr23⟩ := z
        have hr23 : ∀ x, S.rows x ≠ [] ↔ x = away.1 := fun x => by
          have := hr23 x
          rw [List.length_map, List.drop_length] at this
          simpa using this
        have ly0 := hv23.lost hl1 hmw hr23
        walk_at "go"
        obtain ⟨fs, hdo, no⟩ := ins_of_ds wl23.w.ds
        refine m_call0 hdo (no _ (by decide +kernel)) ?_
        walk_at "go"
        refine wd_cut wl23.w fun F24 H24 w24 kp24 => ?_
        walk_at "go"
        have r4 := hv23.r4
        have r8 := hv23.r8
        refine ⟨p, F24, S.cut, m, G', L', rfl, w24.ds, w24.ms, hv23.len6, by omega, by omega, by show L'.ring < S.lies.length; omega, hv23.ctOk (by omega) (by omega) (by omega), fun n25 H25 ly s25 => ?_⟩
        have e25 : n25 = lost := LyC.uniq ly.of_cut ly0
        subst e25
        have w25 := w24.same s25
        have cl25 := hv23.closed ly0
        obtain ⟨rl, ts, eG, hm, hrl, hrows⟩ := id w25.ms
        walk_at "go"
        refine e_dget ?_
        walk_at "go"
        refine o_dget (k := Sum.inr "rows") hm mkv_rows ?_
        walk_at "go"
        rw [cut_to, ← List.map_take]
        refine n_new0 fun l2 H26 n26 s26 h26 => ?_
        walk_at "go"
        refine o_dput (k := Sum.inr "rows") (s26 _ _ hm) (by show 5 < 100000; decide) ?_
        rw [mkv_pr]
        have w27 := wd_take (n := n25) w25 hm hrows s26 n26 h26
        have fkn := hv23.mono (i := n25) (j := L'.kept.length) (by omega) (Nat.le_refl _)
        rw [hv23.fkE] at fkn
        walk_at "go"
        refine ⟨_, _, _, _, _, _, _, _, _, _, _, m, F24, S.cut, [m, l2], L'.left n25, fi, c, rfl, w27, cl25, hring', hep', ?_, ?_⟩
        · show L'.fk n25 ≤ _
          omega
        · show L'.bg + (L'.kept.take n25).length ≤ _
          rw [List.length_take]
          omega
      · obtain ⟨y15, F, S, c, rfl, hb, hbF, wl23, hv23, hr23⟩ := z
        have hjy : j < ys.length := by
          have := (List.getElem?_eq_some_iff.mp hx).1
          simpa using this
        have ex : x = .int ys[j] := by
          rw [List.getElem?_map, List.getElem?_eq_getElem hjy] at hx
          exact (Option.some.inj hx).symm
        subst ex
        have ed : ys.drop j = ys[j] :: ys.drop (j + 1) := List.drop_eq_getElem_cons hjy
        have nin : ys[j] ∉ ys.drop (j + 1) := by
          have := ynd.sublist (List.drop_sublist j ys)
          rw [ed] at this
          exact (List.nodup_cons.mp this).1
        rw [ed] at hr23
        generalize ys[j] = bb at *
        walk_at "go"
        refine i_d (fun z => ?_) (fun z => ?_)
        · walk_at "go"
          obtain ⟨fs, hdo, no⟩ := ins_of_ds wl23.w.ds
          refine m_call0 hdo (no _ (by decide +kernel)) ?_
          walk_at "go"
          refine n_new (le_size (by simp)) fun t24 H24 n24 s24 h24 => ?_
          have wl24 := wl23.same s24
          have hne : S.rows bb ≠ [] := (hr23 bb).mpr (.inl (by simp))
          have ob := hv23.out bb hne
          have r8 := hv23.r8
          obtain ⟨xx, c', hx1, hx2, hv24⟩ := hv23.one hne
          walk_at "go"
          refine ⟨p, F, S, t24, [bb], rfl, wl24.w.ds, stO h24, by show 1 ≤ 1000; decide, lotB_of (fun n hn => by rw [List.mem_singleton.mp hn]; omega) (List.pairwise_singleton _ _), fun nn hn => by rw [List.mem_singleton.mp hn]; omega, fun H25 F25 d25 c25 f25 => ?_⟩
          rw [if_pos (SD.forceL_true [bb] S hv23.pw).1]
          walk_at "go"
          refine ⟨_, F25, _, c', rfl, c25.at_ hbF (s24 _ _ hb), fun z2 => ?_, wl24.disk d25 c25 f25, hv24, fun x => ?_⟩
          · rcases f25 bl z2 with y | y
            · exact hbF y
            · rw [s24 _ _ hb] at y; cases y
          · rw [hx2]
            show (if x = bb then ([] : List Ct) else S.rows x) ≠ [] ↔ _
            by_cases qx : x = bb
            · rw [if_pos qx]
              constructor
              · intro y; exact absurd rfl y
              · intro y
                rcases y with y | y
                · exact absurd (qx ▸ y) nin
                · exact absurd (qx.symm.trans y) z
            · rw [if_neg qx, hr23 x]
              constructor
              · intro y
                rcases y with y | y
                · rcases List.mem_cons.mp y with u | u
                  · exact absurd u qx
                  · exact .inl u
                · exact .inr y
              · intro y
                exact y.imp (fun u => List.mem_cons_of_mem _ u) id
        · have z : bb = away.1 := by omega
          walk_at "go"
          refine ⟨_, F, S, c, rfl, hb, hbF, wl23, hv23, fun x => ?_⟩
          rw [hr23 x]
          constructor
          · intro y
            rcases y with y | y
            · rcases List.mem_cons.mp y with u | u
              · exact .inr (u.trans z)
              · exact .inl u
            · exact .inr y
          · intro y
            exact y.imp (fun u => List.mem_cons_of_mem _ u) id
end
theorem law_mk {l : PySem.W.OpenLaw} {w : World} {K : PySem.W.Frag} {h : Heap} {mg : Str → Option Value} {fa f : Addr} {od an : Option Addr} {sl : Array (Option Value)} {oc kV dc pm cd ct : Value} (X : K.In h) (G : h.Ns mainGlobals mg) (hfa : mg "law" = some (.ref fa))
    (a : PySem.W.nsIn K mainGlobals "law" = some (some (.ref f))) (lk : K.lookup f = some ⟨oc, od, .func (PySem.W.fnOf "law" "law" (defArgs s_law) (defBody s_law) (defScope s_law) .none kV dc pm an cd ct), sl⟩) (c : PySem.W.codeIn K cd "law" = true) (kp : PySem.W.keepIn K (.ref f) = true) (T : Txt K mg) :
    ∃ fd : FuncData, (∀ (s : Shared) (v : Value), BindsTo s fd ⟨[v], []⟩ [("script", v)]) ∧ ∀ base : Heap, K.In base → base.Ns mainGlobals mg → FnOk l.prog w K mg base CX0 10 fa fd ["script"] (sp_law K) := by
  have e := hfa.symm.trans (PySem.W.mg_of X G a)
  cases e
  have F := fun_mk (st := s_law) lk c kp
  exact ⟨PySem.W.fnOf "law" "law" (defArgs s_law) (defBody s_law) (defScope s_law) .none kV dc pm an cd ct, fun s v => .of_eq rfl, fun base _ _ => ok_law F T⟩
end Vw

set_option Elab.async false
open PySem PySem.W PyProof.Rows
set_option maxRecDepth 100000 in
set_option maxHeartbeats 0 in
theorem PySem.Challenge.cw_wholeways_k09_whole_leftovers_never_come_holds : PySem.Challenge.rw_wholeways_k09_whole_leftovers_never_come.Holds := by
  w_on; o_law; k_head; (case hw => w_witness2)
  k_fill
  refine L2.walk_of (l := PySem.Challenge.rw_wholeways_k09_whole_leftovers_never_come) (n := 63) (k := 10) (x := "script") (CX := fun _ => L2.CX0) (sp := fun w => Vw.sp_law _) rfl (by decide) rfl ⟨rfl, by decide, by decide⟩ (fun w h Y => PySem.W.kIn_of Y) ?F (fun _ _ a ns hl _ hS => ⟨a, ns, rfl, hS, hl, fun _ => rfl⟩) (fun _ _ _ _ _ h => h)
  case F =>
    intro w mg fa h KX G hmg
    refine' Vw.law_mk KX G hmg ?aL ?lL ?cL ?kL (T := {
      wall := (Vw.defAt_mk KX G ?a0 ?l0 ?c0 ?k0 (fun _ _ _ _ _ _ us hl => match us, hl with | [_], _ => rfl)),
      is_integer := (Vw.defAt_mk KX G ?a1 ?l1 ?c1 ?k1 (fun _ _ _ _ _ _ us hl => match us, hl with | [_], _ => rfl)),
      is_within := (Vw.defAt_mk KX G ?a2 ?l2 ?c2 ?k2 (fun _ _ _ _ _ _ us hl => match us, hl with | [_, _, _], _ => rfl)),
      is_number := (Vw.defAt_mk KX G ?a3 ?l3 ?c3 ?k3 (fun _ _ _ _ _ _ us hl => match us, hl with | [_], _ => rfl)),
      is_word := (Vw.defAt_mk KX G ?a4 ?l4 ?c4 ?k4 (fun _ _ _ _ _ _ us hl => match us, hl with | [_], _ => rfl)),
      is_item := (Vw.defAt_mk KX G ?a5 ?l5 ?c5 ?k5 (fun _ _ _ _ _ _ us hl => match us, hl with | [_], _ => rfl)),
      is_ascending := (Vw.defAt_mk KX G ?a6 ?l6 ?c6 ?k6 (fun _ _ _ _ _ _ us hl => match us, hl with | [_], _ => rfl)),
      is_lot := (Vw.defAt_mk KX G ?a7 ?l7 ?c7 ?k7 (fun _ _ _ _ _ _ us hl => match us, hl with | [_], _ => rfl)),
      is_items := (Vw.defAt_mk KX G ?a8 ?l8 ?c8 ?k8 (fun _ _ _ _ _ _ us hl => match us, hl with | [_, _, _], _ => rfl)),
      formatted := (Vw.defAt_mk KX G ?a9 ?l9 ?c9 ?k9 (fun _ _ _ _ _ _ us hl => match us, hl with | [_, _], _ => rfl)),
      is_ring_size := (Vw.defAt_mk KX G ?a10 ?l10 ?c10 ?k10 (fun _ _ _ _ _ _ us hl => match us, hl with | [_, _], _ => rfl)),
      is_master := (Vw.defAt_mk KX G ?a11 ?l11 ?c11 ?k11 (fun _ _ _ _ _ _ us hl => match us, hl with | [_, _], _ => rfl)),
      pieces_of := (Vw.defAt_mk KX G ?a12 ?l12 ?c12 ?k12 (fun _ _ _ _ _ _ us hl => match us, hl with | [_], _ => rfl)),
      master_of := (Vw.defAt_mk KX G ?a13 ?l13 ?c13 ?k13 (fun _ _ _ _ _ _ us hl => match us, hl with | [_], _ => rfl)),
      counted := (Vw.defAt_mk KX G ?a14 ?l14 ?c14 ?k14 (fun _ _ _ _ _ _ us hl => match us, hl with | [_, _], _ => rfl)),
      is_piece := (Vw.defAt_mk KX G ?a15 ?l15 ?c15 ?k15 (fun _ _ _ _ _ _ us hl => match us, hl with | [_, _], _ => rfl)),
      begins := (Vw.defAt_mk KX G ?a16 ?l16 ?c16 ?k16 (fun _ _ _ _ _ _ us hl => match us, hl with | [_, _], _ => rfl)),
      goes_on := (Vw.defAt_mk KX G ?a17 ?l17 ?c17 ?k17 (fun _ _ _ _ _ _ us hl => match us, hl with | [_, _], _ => rfl)),
      read_prefix := (Vw.defAt_mk KX G ?a18 ?l18 ?c18 ?k18 (fun _ _ _ _ _ _ us hl => match us, hl with | [_, _], _ => rfl)),
      law_hand := (Vw.defAt_mk KX G ?a19 ?l19 ?c19 ?k19 (fun _ _ _ _ _ _ us hl => match us, hl with | [_], _ => rfl)),
      law_draw := (Vw.defAt_mk KX G ?a20 ?l20 ?c20 ?k20 (fun _ _ _ _ _ _ us hl => match us, hl with | [_, _], _ => rfl)),
      law_cut_up := (Vw.defAt_mk KX G ?a21 ?l21 ?c21 ?k21 (fun _ _ _ _ _ _ us hl => match us, hl with | [_], _ => rfl)),
      law_new := (Vw.defAt_mk KX G ?a22 ?l22 ?c22 ?k22 (fun _ _ _ _ _ _ us hl => match us, hl with | [_], _ => rfl)),
      law_next_k := (Vw.defAt_mk KX G ?a23 ?l23 ?c23 ?k23 (fun _ _ _ _ _ _ us hl => match us, hl with | [_], _ => rfl)),
      law_room := (Vw.defAt_mk KX G ?a24 ?l24 ?c24 ?k24 (fun _ _ _ _ _ _ us hl => match us, hl with | [_], _ => rfl)),
      law_added := (Vw.defAt_mk KX G ?a25 ?l25 ?c25 ?k25 (fun _ _ _ _ _ _ us hl => match us, hl with | [_, _], _ => rfl)),
      law_contents := (Vw.defAt_mk KX G ?a26 ?l26 ?c26 ?k26 (fun _ _ _ _ _ _ us hl => match us, hl with | [_, _], _ => rfl)),
      law_lying := (Vw.defAt_mk KX G ?a27 ?l27 ?c27 ?k27 (fun _ _ _ _ _ _ us hl => match us, hl with | [_, _], _ => rfl)),
      law_pairs := (Vw.defAt_mk KX G ?a28 ?l28 ?c28 ?k28 (fun _ _ _ _ _ _ us hl => match us, hl with | [_], _ => rfl)),
      law_told_right := (Vw.defAt_mk KX G ?a29 ?l29 ?c29 ?k29 (fun _ _ _ _ _ _ us hl => match us, hl with | [_, _, _], _ => rfl)),
      law_started := (Vw.defAt_mk KX G ?a30 ?l30 ?c30 ?k30 (fun _ _ _ _ _ _ us hl => match us, hl with | [_, _], _ => rfl)),
      z_ValueError := PySem.W.mg_none_of KX G ?z_ValueError,
      z_abs := PySem.W.mg_none_of KX G ?z_abs,
      z_all := PySem.W.mg_none_of KX G ?z_all,
      z_any := PySem.W.mg_none_of KX G ?z_any,
      z_bool := PySem.W.mg_none_of KX G ?z_bool,
      z_enumerate := PySem.W.mg_none_of KX G ?z_enumerate,
      z_int := PySem.W.mg_none_of KX G ?z_int,
      z_isinstance := PySem.W.mg_none_of KX G ?z_isinstance,
      z_len := PySem.W.mg_none_of KX G ?z_len,
      z_max := PySem.W.mg_none_of KX G ?z_max,
      z_range := PySem.W.mg_none_of KX G ?z_range,
      z_sorted := PySem.W.mg_none_of KX G ?z_sorted,
      z_str := PySem.W.mg_none_of KX G ?z_str,
      z_tuple := PySem.W.mg_none_of KX G ?z_tuple,
      c_GREATEST_ITEM := Vw.cAt_mk KX G ?q_GREATEST_ITEM ?r_GREATEST_ITEM,
      c_LONGEST_WORD := Vw.cAt_mk KX G ?q_LONGEST_WORD ?r_LONGEST_WORD,
      c_LEAST_BLOCKS := Vw.cAt_mk KX G ?q_LEAST_BLOCKS ?r_LEAST_BLOCKS,
      c_MOST_BLOCKS := Vw.cAt_mk KX G ?q_MOST_BLOCKS ?r_MOST_BLOCKS,
      c_MOST_ITEMS := Vw.cAt_mk KX G ?q_MOST_ITEMS ?r_MOST_ITEMS,
      c_MOST_POWER := Vw.cAt_mk KX G ?q_MOST_POWER ?r_MOST_POWER,
      c_MASTER := Vw.cAt_mk KX G ?q_MASTER ?r_MASTER,
      c_LEAST_RING := Vw.cAt_mk KX G ?q_LEAST_RING ?r_LEAST_RING,
      c_OTHER_BLOCKS := Vw.cAt_mk KX G ?q_OTHER_BLOCKS ?r_OTHER_BLOCKS,
      c_PIECE := Vw.cAt_mk KX G ?q_PIECE ?r_PIECE,
      c_HEAD := Vw.cAt_mk KX G ?q_HEAD ?r_HEAD,
      c_MOST_RECORD := Vw.cAt_mk KX G ?q_MOST_RECORD ?r_MOST_RECORD,
      C_Disk := ?C_Disk,
      k_Disk := Vw.clsAt_mk KX G ?ka_Disk ?kb_Disk ?kc_Disk ?kd_Disk ?ke_Disk ?kf_Disk ?kg_Disk,
      i_Disk := ⟨⟨?ib_Disk, ?ic_Disk, ?id_Disk, ?ie_Disk⟩, ?if_Disk, ?ig_Disk, ?ih_Disk, ?ii_Disk, ?ij_Disk⟩,
      C_Log := ?C_Log,
      k_Log := Vw.clsAt_mk KX G ?ka_Log ?kb_Log ?kc_Log ?kd_Log ?ke_Log ?kf_Log ?kg_Log,
      m_Disk_init := Vw.methAt_mk ?ma_Disk_init ?mi_Disk_init ?ml_Disk_init ?mc_Disk_init ?mk_Disk_init (fun _ _ _ _ _ _ us hl => match us, hl with | [_, _], _ => rfl),
      m_Disk_blocks := Vw.methAt_mk ?ma_Disk_blocks ?mi_Disk_blocks ?ml_Disk_blocks ?mc_Disk_blocks ?mk_Disk_blocks (fun _ _ _ _ _ _ us hl => match us, hl with | [_], _ => rfl),
      m_Disk_write := Vw.methAt_mk ?ma_Disk_write ?mi_Disk_write ?ml_Disk_write ?mc_Disk_write ?mk_Disk_write (fun _ _ _ _ _ _ us hl => match us, hl with | [_, _, _], _ => rfl),
      m_Disk_read := Vw.methAt_mk ?ma_Disk_read ?mi_Disk_read ?ml_Disk_read ?mc_Disk_read ?mk_Disk_read (fun _ _ _ _ _ _ us hl => match us, hl with | [_, _], _ => rfl),
      m_Disk_reach := Vw.methAt_mk ?ma_Disk_reach ?mi_Disk_reach ?ml_Disk_reach ?mc_Disk_reach ?mk_Disk_reach (fun _ _ _ _ _ _ us hl => match us, hl with | [_, _], _ => rfl),
      m_Disk_force := Vw.methAt_mk ?ma_Disk_force ?mi_Disk_force ?ml_Disk_force ?mc_Disk_force ?mk_Disk_force (fun _ _ _ _ _ _ us hl => match us, hl with | [_, _], _ => rfl),
      m_Disk_calm := Vw.methAt_mk ?ma_Disk_calm ?mi_Disk_calm ?ml_Disk_calm ?mc_Disk_calm ?mk_Disk_calm (fun _ _ _ _ _ _ us hl => match us, hl with | [_], _ => rfl),
      m_Disk_power := Vw.methAt_mk ?ma_Disk_power ?mi_Disk_power ?ml_Disk_power ?mc_Disk_power ?mk_Disk_power (fun _ _ _ _ _ _ us hl => match us, hl with | [_, _], _ => rfl),
      m_Disk_cut := Vw.methAt_mk ?ma_Disk_cut ?mi_Disk_cut ?ml_Disk_cut ?mc_Disk_cut ?mk_Disk_cut (fun _ _ _ _ _ _ us hl => match us, hl with | [_], _ => rfl),
      m_Disk_waiting := Vw.methAt_mk ?ma_Disk_waiting ?mi_Disk_waiting ?ml_Disk_waiting ?mc_Disk_waiting ?mk_Disk_waiting (fun _ _ _ _ _ _ us hl => match us, hl with | [_], _ => rfl),
      m_Disk_lying := Vw.methAt_mk ?ma_Disk_lying ?mi_Disk_lying ?ml_Disk_lying ?mc_Disk_lying ?mk_Disk_lying (fun _ _ _ _ _ _ us hl => match us, hl with | [_, _], _ => rfl),
      m_Disk_reached := Vw.methAt_mk ?ma_Disk_reached ?mi_Disk_reached ?ml_Disk_reached ?mc_Disk_reached ?mk_Disk_reached (fun _ _ _ _ _ _ us hl => match us, hl with | [_], _ => rfl),
      m_Disk_copy := Vw.methAt_mk ?ma_Disk_copy ?mi_Disk_copy ?ml_Disk_copy ?mc_Disk_copy ?mk_Disk_copy (fun _ _ _ _ _ _ us hl => match us, hl with | [_], _ => rfl),
      m_Disk__need_block := Vw.methAt_mk ?ma_Disk__need_block ?mi_Disk__need_block ?ml_Disk__need_block ?mc_Disk__need_block ?mk_Disk__need_block (fun _ _ _ _ _ _ us hl => match us, hl with | [_, _], _ => rfl),
      m_Disk__reach_one := Vw.methAt_mk ?ma_Disk__reach_one ?mi_Disk__reach_one ?ml_Disk__reach_one ?mc_Disk__reach_one ?mk_Disk__reach_one (fun _ _ _ _ _ _ us hl => match us, hl with | [_, _], _ => rfl),
      m_Log_init := Vw.methAt_mk ?ma_Log_init ?mi_Log_init ?ml_Log_init ?mc_Log_init ?mk_Log_init (fun _ _ _ _ _ _ us hl => match us, hl with | [_, _], _ => rfl),
      m_Log__keep := Vw.methAt_mk ?ma_Log__keep ?mi_Log__keep ?ml_Log__keep ?mc_Log__keep ?mk_Log__keep (fun _ _ _ _ _ _ us hl => match us, hl with | [_, _, _], _ => rfl),
      m_Log_append := Vw.methAt_mk ?ma_Log_append ?mi_Log_append ?ml_Log_append ?mc_Log_append ?mk_Log_append (fun _ _ _ _ _ _ us hl => match us, hl with | [_, _], _ => rfl),
      m_Log__block := Vw.methAt_mk ?ma_Log__block ?mi_Log__block ?ml_Log__block ?mc_Log__block ?mk_Log__block (fun _ _ _ _ _ _ us hl => match us, hl with | [_, _], _ => rfl),
      m_Log_force := Vw.methAt_mk ?ma_Log_force ?mi_Log_force ?ml_Log_force ?mc_Log_force ?mk_Log_force (fun _ _ _ _ _ _ us hl => match us, hl with | [_, _], _ => rfl),
      m_Log__first_k := Vw.methAt_mk ?ma_Log__first_k ?mi_Log__first_k ?ml_Log__first_k ?mc_Log__first_k ?mk_Log__first_k (fun _ _ _ _ _ _ us hl => match us, hl with | [_, _], _ => rfl),
      m_Log_forced := Vw.methAt_mk ?ma_Log_forced ?mi_Log_forced ?ml_Log_forced ?mc_Log_forced ?mk_Log_forced (fun _ _ _ _ _ _ us hl => match us, hl with | [_], _ => rfl),
      m_Log_last := Vw.methAt_mk ?ma_Log_last ?mi_Log_last ?ml_Log_last ?mc_Log_last ?mk_Log_last (fun _ _ _ _ _ _ us hl => match us, hl with | [_], _ => rfl),
      m_Log_records := Vw.methAt_mk ?ma_Log_records ?mi_Log_records ?ml_Log_records ?mc_Log_records ?mk_Log_records (fun _ _ _ _ _ _ us hl => match us, hl with | [_], _ => rfl),
      m_Log_room := Vw.methAt_mk ?ma_Log_room ?mi_Log_room ?ml_Log_room ?mc_Log_room ?mk_Log_room (fun _ _ _ _ _ _ us hl => match us, hl with | [_], _ => rfl),
      m_Log_ring_size := Vw.methAt_mk ?ma_Log_ring_size ?mi_Log_ring_size ?ml_Log_ring_size ?mc_Log_ring_size ?mk_Log_ring_size (fun _ _ _ _ _ _ us hl => match us, hl with | [_], _ => rfl),
      m_Log_begin_at := Vw.methAt_mk ?ma_Log_begin_at ?mi_Log_begin_at ?ml_Log_begin_at ?mc_Log_begin_at ?mk_Log_begin_at (fun _ _ _ _ _ _ us hl => match us, hl with | [_, _], _ => rfl),
      n_Disk__lies := Vw.noAttr_mk ?na_Disk__lies,
      n_Disk__waits := Vw.noAttr_mk ?na_Disk__waits,
      n_Disk__power := Vw.noAttr_mk ?na_Disk__power,
      n_Disk__reached := Vw.noAttr_mk ?na_Disk__reached,
      n_Log__disk := Vw.noAttr_mk ?na_Log__disk,
      n_Log__epoch := Vw.noAttr_mk ?na_Log__epoch,
      n_Log__ring := Vw.noAttr_mk ?na_Log__ring,
      n_Log__begin := Vw.noAttr_mk ?na_Log__begin,
      n_Log__kept := Vw.noAttr_mk ?na_Log__kept,
      n_Log__begin_k := Vw.noAttr_mk ?na_Log__begin_k,
      n_Log__next_k := Vw.noAttr_mk ?na_Log__next_k,
      n_Log__forced := Vw.noAttr_mk ?na_Log__forced,
      m_StoreError_init := Vw.initAt_mk ?il ?ic ?ik (fun _ _ _ _ _ _ us hl => match us, hl with | [_], _ => rfl),
      vV := ?vV,
      e_Stopped := Vw.excAt_mk KX G ?ea_Stopped ?el_Stopped ?eb_Stopped ?es_Stopped ?ex_Stopped ?et_Stopped ?ek_Stopped ?ei_Stopped ?ef_Stopped ?eh_Stopped ?ec_Stopped ?ee_Stopped })
    (case aL => k_is); (case lL => k_is); (case cL => k_is); (case kL => k_is)
    (case ka_Disk => k_is); (case kb_Disk => k_is); (case kc_Disk => k_is); (case kd_Disk => k_is); (case ke_Disk => k_is); (case kf_Disk => k_is); (case kg_Disk => k_is)
    (case ib_Disk => k_is); (case ic_Disk => k_is); (case id_Disk => k_is); (case ie_Disk => k_is); (case if_Disk => k_is); (case ig_Disk => k_is); (case ih_Disk => k_is); (case ii_Disk => k_is); (case ij_Disk => unfold PySem.W.kitOne; rw [if_pos (beq_self_eq_true _)])
    (case ka_Log => k_is); (case kb_Log => k_is); (case kc_Log => k_is); (case kd_Log => k_is); (case ke_Log => k_is); (case kf_Log => k_is); (case kg_Log => k_is)
    (case ma_Disk_init => k_is); (case mi_Disk_init => k_is); (case ml_Disk_init => k_is); (case mc_Disk_init => k_is); (case mk_Disk_init => k_is)
    (case ma_Disk_blocks => k_is); (case mi_Disk_blocks => k_is); (case ml_Disk_blocks => k_is); (case mc_Disk_blocks => k_is); (case mk_Disk_blocks => k_is)
    (case ma_Disk_write => k_is); (case mi_Disk_write => k_is); (case ml_Disk_write => k_is); (case mc_Disk_write => k_is); (case mk_Disk_write => k_is)
    (case ma_Disk_read => k_is); (case mi_Disk_read => k_is); (case ml_Disk_read => k_is); (case mc_Disk_read => k_is); (case mk_Disk_read => k_is)
    (case ma_Disk_reach => k_is); (case mi_Disk_reach => k_is); (case ml_Disk_reach => k_is); (case mc_Disk_reach => k_is); (case mk_Disk_reach => k_is)
    (case ma_Disk_force => k_is); (case mi_Disk_force => k_is); (case ml_Disk_force => k_is); (case mc_Disk_force => k_is); (case mk_Disk_force => k_is)
    (case ma_Disk_calm => k_is); (case mi_Disk_calm => k_is); (case ml_Disk_calm => k_is); (case mc_Disk_calm => k_is); (case mk_Disk_calm => k_is)
    (case ma_Disk_power => k_is); (case mi_Disk_power => k_is); (case ml_Disk_power => k_is); (case mc_Disk_power => k_is); (case mk_Disk_power => k_is)
    (case ma_Disk_cut => k_is); (case mi_Disk_cut => k_is); (case ml_Disk_cut => k_is); (case mc_Disk_cut => k_is); (case mk_Disk_cut => k_is)
    (case ma_Disk_waiting => k_is); (case mi_Disk_waiting => k_is); (case ml_Disk_waiting => k_is); (case mc_Disk_waiting => k_is); (case mk_Disk_waiting => k_is)
    (case ma_Disk_lying => k_is); (case mi_Disk_lying => k_is); (case ml_Disk_lying => k_is); (case mc_Disk_lying => k_is); (case mk_Disk_lying => k_is)
    (case ma_Disk_reached => k_is); (case mi_Disk_reached => k_is); (case ml_Disk_reached => k_is); (case mc_Disk_reached => k_is); (case mk_Disk_reached => k_is)
    (case ma_Disk_copy => k_is); (case mi_Disk_copy => k_is); (case ml_Disk_copy => k_is); (case mc_Disk_copy => k_is); (case mk_Disk_copy => k_is)
    (case ma_Disk__need_block => k_is); (case mi_Disk__need_block => k_is); (case ml_Disk__need_block => k_is); (case mc_Disk__need_block => k_is); (case mk_Disk__need_block => k_is)
    (case ma_Disk__reach_one => k_is); (case mi_Disk__reach_one => k_is); (case ml_Disk__reach_one => k_is); (case mc_Disk__reach_one => k_is); (case mk_Disk__reach_one => k_is)
    (case ma_Log_init => k_is); (case mi_Log_init => k_is); (case ml_Log_init => k_is); (case mc_Log_init => k_is); (case mk_Log_init => k_is)
    (case ma_Log__keep => k_is); (case mi_Log__keep => k_is); (case ml_Log__keep => k_is); (case mc_Log__keep => k_is); (case mk_Log__keep => k_is)
    (case ma_Log_append => k_is); (case mi_Log_append => k_is); (case ml_Log_append => k_is); (case mc_Log_append => k_is); (case mk_Log_append => k_is)
    (case ma_Log__block => k_is); (case mi_Log__block => k_is); (case ml_Log__block => k_is); (case mc_Log__block => k_is); (case mk_Log__block => k_is)
    (case ma_Log_force => k_is); (case mi_Log_force => k_is); (case ml_Log_force => k_is); (case mc_Log_force => k_is); (case mk_Log_force => k_is)
    (case ma_Log__first_k => k_is); (case mi_Log__first_k => k_is); (case ml_Log__first_k => k_is); (case mc_Log__first_k => k_is); (case mk_Log__first_k => k_is)
    (case ma_Log_forced => k_is); (case mi_Log_forced => k_is); (case ml_Log_forced => k_is); (case mc_Log_forced => k_is); (case mk_Log_forced => k_is)
    (case ma_Log_last => k_is); (case mi_Log_last => k_is); (case ml_Log_last => k_is); (case mc_Log_last => k_is); (case mk_Log_last => k_is)
    (case ma_Log_records => k_is); (case mi_Log_records => k_is); (case ml_Log_records => k_is); (case mc_Log_records => k_is); (case mk_Log_records => k_is)
    (case ma_Log_room => k_is); (case mi_Log_room => k_is); (case ml_Log_room => k_is); (case mc_Log_room => k_is); (case mk_Log_room => k_is)
    (case ma_Log_ring_size => k_is); (case mi_Log_ring_size => k_is); (case ml_Log_ring_size => k_is); (case mc_Log_ring_size => k_is); (case mk_Log_ring_size => k_is)
    (case ma_Log_begin_at => k_is); (case mi_Log_begin_at => k_is); (case ml_Log_begin_at => k_is); (case mc_Log_begin_at => k_is); (case mk_Log_begin_at => k_is)
    (case na_Disk__lies => k_is)
    (case na_Disk__waits => k_is)
    (case na_Disk__power => k_is)
    (case na_Disk__reached => k_is)
    (case na_Log__disk => k_is)
    (case na_Log__epoch => k_is)
    (case na_Log__ring => k_is)
    (case na_Log__begin => k_is)
    (case na_Log__kept => k_is)
    (case na_Log__begin_k => k_is)
    (case na_Log__next_k => k_is)
    (case na_Log__forced => k_is)
    (case ea_Stopped => k_is); (case ei_Stopped => k_is); (case eh_Stopped => exact rfl); (case il => k_is); (case ic => k_is); (case ik => k_is); (case vV => k_is)
    (case el_Stopped => k_is); (case eb_Stopped => decide +kernel); (case es_Stopped => k_is); (case ex_Stopped => k_is); (case et_Stopped => k_is); (case ek_Stopped => k_is); (case ef_Stopped => k_is); (case ec_Stopped => k_is); (case ee_Stopped => k_is)
    (case a0 => k_is); (case l0 => k_is); (case c0 => k_is); (case k0 => k_is)
    (case a1 => k_is); (case l1 => k_is); (case c1 => k_is); (case k1 => k_is)
    (case a2 => k_is); (case l2 => k_is); (case c2 => k_is); (case k2 => k_is)
    (case a3 => k_is); (case l3 => k_is); (case c3 => k_is); (case k3 => k_is)
    (case a4 => k_is); (case l4 => k_is); (case c4 => k_is); (case k4 => k_is)
    (case a5 => k_is); (case l5 => k_is); (case c5 => k_is); (case k5 => k_is)
    (case a6 => k_is); (case l6 => k_is); (case c6 => k_is); (case k6 => k_is)
    (case a7 => k_is); (case l7 => k_is); (case c7 => k_is); (case k7 => k_is)
    (case a8 => k_is); (case l8 => k_is); (case c8 => k_is); (case k8 => k_is)
    (case a9 => k_is); (case l9 => k_is); (case c9 => k_is); (case k9 => k_is)
    (case a10 => k_is); (case l10 => k_is); (case c10 => k_is); (case k10 => k_is)
    (case a11 => k_is); (case l11 => k_is); (case c11 => k_is); (case k11 => k_is)
    (case a12 => k_is); (case l12 => k_is); (case c12 => k_is); (case k12 => k_is)
    (case a13 => k_is); (case l13 => k_is); (case c13 => k_is); (case k13 => k_is)
    (case a14 => k_is); (case l14 => k_is); (case c14 => k_is); (case k14 => k_is)
    (case a15 => k_is); (case l15 => k_is); (case c15 => k_is); (case k15 => k_is)
    (case a16 => k_is); (case l16 => k_is); (case c16 => k_is); (case k16 => k_is)
    (case a17 => k_is); (case l17 => k_is); (case c17 => k_is); (case k17 => k_is)
    (case a18 => k_is); (case l18 => k_is); (case c18 => k_is); (case k18 => k_is)
    (case a19 => k_is); (case l19 => k_is); (case c19 => k_is); (case k19 => k_is)
    (case a20 => k_is); (case l20 => k_is); (case c20 => k_is); (case k20 => k_is)
    (case a21 => k_is); (case l21 => k_is); (case c21 => k_is); (case k21 => k_is)
    (case a22 => k_is); (case l22 => k_is); (case c22 => k_is); (case k22 => k_is)
    (case a23 => k_is); (case l23 => k_is); (case c23 => k_is); (case k23 => k_is)
    (case a24 => k_is); (case l24 => k_is); (case c24 => k_is); (case k24 => k_is)
    (case a25 => k_is); (case l25 => k_is); (case c25 => k_is); (case k25 => k_is)
    (case a26 => k_is); (case l26 => k_is); (case c26 => k_is); (case k26 => k_is)
    (case a27 => k_is); (case l27 => k_is); (case c27 => k_is); (case k27 => k_is)
    (case a28 => k_is); (case l28 => k_is); (case c28 => k_is); (case k28 => k_is)
    (case a29 => k_is); (case l29 => k_is); (case c29 => k_is); (case k29 => k_is)
    (case a30 => k_is); (case l30 => k_is); (case c30 => k_is); (case k30 => k_is)
    (case z_ValueError => k_is)
    (case z_abs => k_is)
    (case z_all => k_is)
    (case z_any => k_is)
    (case z_bool => k_is)
    (case z_enumerate => k_is)
    (case z_int => k_is)
    (case z_isinstance => k_is)
    (case z_len => k_is)
    (case z_max => k_is)
    (case z_range => k_is)
    (case z_sorted => k_is)
    (case z_str => k_is)
    (case z_tuple => k_is)
    (case q_GREATEST_ITEM => k_is); (case r_GREATEST_ITEM => exact ⟨_, rfl⟩)
    (case q_LONGEST_WORD => k_is); (case r_LONGEST_WORD => exact ⟨_, rfl⟩)
    (case q_LEAST_BLOCKS => k_is); (case r_LEAST_BLOCKS => exact ⟨_, rfl⟩)
    (case q_MOST_BLOCKS => k_is); (case r_MOST_BLOCKS => exact ⟨_, rfl⟩)
    (case q_MOST_ITEMS => k_is); (case r_MOST_ITEMS => exact ⟨_, rfl⟩)
    (case q_MOST_POWER => k_is); (case r_MOST_POWER => exact ⟨_, rfl⟩)
    (case q_MASTER => k_is); (case r_MASTER => exact ⟨_, rfl⟩)
    (case q_LEAST_RING => k_is); (case r_LEAST_RING => exact ⟨_, rfl⟩)
    (case q_OTHER_BLOCKS => k_is); (case r_OTHER_BLOCKS => exact ⟨_, rfl⟩)
    (case q_PIECE => k_is); (case r_PIECE => exact ⟨_, rfl⟩)
    (case q_HEAD => k_is); (case r_HEAD => exact ⟨_, rfl⟩)
    (case q_MOST_RECORD => k_is); (case r_MOST_RECORD => exact ⟨_, rfl⟩)

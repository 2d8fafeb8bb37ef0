import PyProof.Rows.All
import Wide.All
import OpenK.AllK
import Wide.FinOn
import HandS.ForMost
import HandS.IsInst
import HandS.SortInts
import HandS.DictComp
import HandS.Rev
import HandS.Strs
import HandS.SetFor
import HandS.Wide
import HandS.TupAny
import HandS.Evl
import KE.GoesEnum
import HandS.Walk
import HandS.Style
import HandS.Zip
import HandS.Zip0
import HandS.WordsDict
import HandS.Dict
import HandS.StrMore
import HandS.SetKeys
import HandS.Text
import HandS.ExcInit
import HandS.ExcOwn
import HandS.WordsExc
import HandS.TryOnly
import HandS.Small
import HandS.Codes
import PyProof.AutoSeq1
import HandS.TupMul
import HandS.Lambda
import HandS.TryMany
import HandS.EndOwn
import KE.KNest
import HandS.More
import HandS.ExcIs
import HandS.Conv
import PySem.Challenge.RW_wholeways_k02_disks_refused
set_option Elab.async false
set_option linter.all false
set_option maxRecDepth 100000
set_option maxHeartbeats 4000000
namespace Vw
open PySem PySem.Spec PyProof.Rows L2 RT

/-! ### operators of more than one kind -/
section
variable {X : Cx}
def rOr (r r' : R2) : R2 := fun x y H Q => r x y H Q ∨ r' x y H Q
theorem oOr {f : Value → Value → Sem Value} {r r' : R2} (a : OpR X f r) (b : OpR X f r') : OpR X f (rOr r r') := by
  intro pins s σ H x y v u Q I rx ry q
  cases q with
  | inl q => exact a pins s σ H x y v u Q I rx ry q
  | inr q => exact b pins s σ H x y v u Q I rx ry q
def cOr (r r' : List V → Hp → VK → Prop) : List V → Hp → VK → Prop := fun x H Q => r x H Q ∨ r' x H Q
theorem kOr {f : Value} {r r' : List V → Hp → VK → Prop} (a : CallR X f r) (b : CallR X f r') : CallR X f (cOr r r') := by
  intro pins s σ H xs us Q I rx q
  cases q with
  | inl q => exact a pins s σ H xs us Q I rx q
  | inr q => exact b pins s σ H xs us Q I rx q
abbrev rIAdd : R2 := rI0 fun i j => .int (i + j)
abbrev rSAdd' : R2 := fun x y H Q => ∃ i j, x = .str i ∧ y = .str j ∧ i.length + j.length ≤ sizeLine ∧ Q (.str (i ++ j)) H
theorem oAdd : OpR X (binaryOp .Add) (rOr rIAdd (rOr rCat rSAdd')) := oOr op_add (oOr op_cat op_add_str)
abbrev rIMul : R2 := rI CMul fun i j => .int (i * j)
theorem oMul : OpR X (binaryOp .Mult) (rOr rIMul rRep) := oOr op_mul op_rep
theorem oLt : OpR X (compareOp .Lt) (rI0 fun i j => .bl (decide (i < j))) := op_lt
variable {K : PySem.W.Frag}
theorem oEq (hu : X.A.units + 64 < cLine) (e : X.K = K := by rfl) : OpR X (compareOp .Eq) (rOr rEq (rEqD K)) := by cases e; exact oOr op_eq (op_eqD hu)
theorem oNe (hu : X.A.units + 64 < cLine) (e : X.K = K := by rfl) : OpR X (compareOp .NotEq) (rOr rNe (rNeD K)) := by cases e; exact oOr op_ne (op_neD hu)
theorem oIn (e : X.K = K := by rfl) : OpR X (compareOp .In) (rIn K false) := by cases e; exact op_in_seq
theorem oNotIn (e : X.K = K := by rfl) : OpR X (compareOp .NotIn) (rIn K true) := by cases e; exact op_notIn_seq
abbrev rIxLT (K : PySem.W.Frag) : R2 := fun x y H Q => rIxL K x y H Q ∨ rIxT K x y H Q
theorem ixLT (e : X.K = K := by rfl) : IxR X (rIxLT K) := by cases e; exact IxR.or ix_list ix_tup
def rLen' (K : PySem.W.Frag) : List V → Hp → VK → Prop := fun xs H Q => ∃ x n, xs = [x] ∧ LenV K x H n ∧ Q (.int n) H
theorem cLen (e : X.K = K := by rfl) : CallR X (.builtin "len") (rLen' K) := by cases e; exact call_len
theorem cIsi (e : X.K = K := by rfl) : CallR X (.builtin "isinstance") (rIsi K) := by cases e; exact call_isi
theorem cIsiT (e : X.K = K := by rfl) : CallR X (.builtin "isinstance") (rIsiT K) := by cases e; exact call_isiT
def rIsN0 : R2 := fun x y H Q => y = .non ∧ Q (.bl (decide (x = .non))) H
def rNoN0 : R2 := fun x y H Q => y = .non ∧ Q (.bl (!decide (x = .non))) H
theorem oIsN : OpR X (compareOp .Is) rIsN0 := op_isN
theorem oNotN : OpR X (compareOp .IsNot) rNoN0 := op_notN
theorem cAll (hc : X.calm = true) (e : X.K = K := by rfl) : CallR X (.builtin "all") (rAll K) := by cases e; exact cr_all hc
theorem cAny (hc : X.calm = true) (e : X.K = K := by rfl) : CallR X (.builtin "any") (rAny K) := by cases e; exact cr_any hc
theorem cSortI (e : X.K = K := by rfl) : CallR X (.builtin "sorted") (rSortedI K) := by cases e; exact cr_sortedI
def rListOf (K : PySem.W.Frag) : List V → Hp → VK → Prop := fun xs H Q => ∃ p ys, xs = [.ref p] ∧ (SqL K H p ys ∨ SqT K H p ys) ∧ ∀ l, H l = none → Q (.ref l) (upd H l (.lst ys))
theorem cListOf (e : X.K = K := by rfl) : CallR X (.type "list") (rListOf K) := by cases e; exact call_list_of
def rTupOf (K : PySem.W.Frag) : List V → Hp → VK → Prop := fun xs H Q => ∃ p ys, xs = [.ref p] ∧ ((SqL K H p ys ∧ ∀ l, H l = none → Q (.ref l) (upd H l (.tup ys))) ∨ (SqT K H p ys ∧ Q (.ref p) H))
theorem cTupOf (e : X.K = K := by rfl) : CallR X (.type "tuple") (rTupOf K) := by cases e; exact call_tuple_of
def rInt1 : List V → Hp → VK → Prop := fun xs H Q => (∃ i, xs = [.int i] ∧ Q (.int i) H) ∨ ∃ k, xs = [.bl k] ∧ Q (.int (if k then 1 else 0)) H
theorem cInt : CallR X (.type "int") rInt1 := call_int1
def rAbs : List V → Hp → VK → Prop := fun xs H Q => ∃ i, xs = [.int i] ∧ Q (.int (if i < 0 then -i else i)) H
theorem cAbs : CallR X (.builtin "abs") rAbs := call_abs
def rMin2 : List V → Hp → VK → Prop := fun xs H Q => ∃ i j, xs = [.int i, .int j] ∧ Q (.int (if j < i then j else i)) H
theorem cMin2 (hc : X.calm = true) : CallR X (.builtin "min") rMin2 := call_min2 hc
def rMax2 : List V → Hp → VK → Prop := fun xs H Q => ∃ i j, xs = [.int i, .int j] ∧ Q (.int (if j > i then j else i)) H
theorem cMax2 (hc : X.calm = true) : CallR X (.builtin "max") rMax2 := call_max2 hc
theorem slL (e : X.K = K := by rfl) : SlR X (rSlL K) := by cases e; exact sl_list
theorem piL {tg l : Expr} {tl : TE} (hl : PE X l tl) (e : X.K = K := by rfl) : PI X tg l (iList K tl) := by cases e; exact pi_list hl
theorem piT {tg l : Expr} {tl : TE} (hl : PE X l tl) (e : X.K = K := by rfl) : PI X tg l (iTup K tl) := by cases e; exact pi_tup hl
theorem piEnum {ex : Expr} {ta : TA} {p pos tpos : Pos} {elts : List Expr} {kk : Nat} (hg : Gl X "enumerate") (hm : X.mg "enumerate" = none) (ha : PA X [ex] ta) (e : X.K = K := by rfl) (hs : starEach [ex] X.env = [(false, eval ex X.env)] := by rfl) :
    PI X (.Tuple elts kk tpos) (.Call (.Name "enumerate" p) [ex] [] pos) (iEnum K ta) := by cases e; exact pi_enum hg hm ha hs
theorem piRev {tg ex : Expr} {te : TE} {p pos : Pos} (hg : Gl X "reversed") (hm : X.mg "reversed" = none) (he : PE X ex te) (e : X.K = K := by rfl) (hs : starEach [ex] X.env = (false, eval ex X.env) :: starEach [] X.env := by rfl) :
    PI X tg (.Call (.Name "reversed" p) [ex] [] pos) (iRevA K te) := by cases e; exact pi_revA hg hm he hs
theorem pgTup {es : List Expr} {k : Nat} {t : TGs} {n : Nat} {p : Pos} (h : PG X (.Tuple es k p) (gTup X.K n t)) (e : X.K = K := by rfl) : PG X (.Tuple es k p) (gTup K n t) := by cases e; exact h
theorem peApp {o ex : Expr} {to te : TE} {apos cpos : Pos} (h : PE X (.Call (.Attribute o "append" apos) [ex] [] cpos) (tBM X.K "list" rAppend to (tCons te tNil))) (e : X.K = K := by rfl) :
    PE X (.Call (.Attribute o "append" apos) [ex] [] cpos) (tBM K "list" rAppend to (tCons te tNil)) := by cases e; exact h
def tTruE (K : PySem.W.Frag) (ta : TE) : TT := fun σ H Q => ta σ H fun x H' => ∃ k, TruV K x H' k ∧ Q k H'
theorem ptTruth {a : Expr} {ta : TE} (ha : PE X a ta) (he : ∀ whole, isTrue a X.env whole = (do let v ← whole; standAt a.pos; holding [v] (truthy v))) (e : X.K = K := by rfl) : PT X a (tTruE K ta) := by cases e; exact pt_truth ha he
end

/-! ### heaps -/
theorem Same.new {H : Hp} {p : Addr} {o : HO} (h : H p = none) : Same H (upd H p o) := fun b x e => by
  rw [upd_ne (ne_of_none e h)]; exact e
theorem at_ {H H' : Hp} {a : Addr} {o : HO} (s : Same H H') (h : H a = some o) : H' a = some o := s a o h
theorem rd_ {H H' : Hp} {a : Addr} {o : HO} (s : Same H H') (h : Rd H a o) : Rd H' a o := by
  cases h with
  | inl h => exact .inl (s _ _ h)
  | inr h => exact .inr (h.elim fun u q => ⟨u, s _ _ q⟩)
section
variable {K : PySem.W.Frag} {H H' : Hp} {a p : Addr} {xs : List V} {o : HO}
theorem sl_ (s : Same H H') (h : SqL K H a xs) : SqL K H' a xs := h.elim (fun q => .inl (rd_ s q)) .inr
theorem st_ (s : Same H H') (h : SqT K H a xs) : SqT K H' a xs := h.elim (fun q => .inl (rd_ s q)) .inr
theorem slO (h : H a = some (.lst xs)) : SqL K H a xs := .inl (.inl h)
theorem stO (h : H a = some (.tup xs)) : SqT K H a xs := .inl (.inl h)
theorem ne_new (h : H a = some o) (n : H p = none) : a ≠ p := ne_of_none h n
theorem free_ (s : Same H H') (n : H' p = none) : H p = none := s.free n
end
theorem lt_size {n : Nat} (h : n < 100000) : n < sizeLine := Nat.lt_of_lt_of_le h (by decide)
theorem le_size {n : Nat} (h : n < 100000) : n ≤ sizeLine := Nat.le_of_lt (lt_size h)
/-- a new object, wherever -/
def NewQ (o : HO) (H : Hp) (Q : VK) : Prop := ∀ p, H p = none → Q (.ref p) (upd H p o)
/-- all but one object is as it was -/
def Oth (hd : Addr) (H H' : Hp) : Prop := ∀ b o, b ≠ hd → H b = some o → H' b = some o
theorem oth_sl {K : PySem.W.Frag} {hd a : Addr} {H H' : Hp} {xs : List V} (o : Oth hd H H') (n : a ≠ hd) (s : SqL K H a xs) : SqL K H' a xs := by
  rcases s with (s | ⟨u, s⟩) | s
  · exact .inl (.inl (o _ _ n s))
  · exact .inl (.inr ⟨u, o _ _ n s⟩)
  · exact .inr s
theorem oth_st {K : PySem.W.Frag} {hd a : Addr} {H H' : Hp} {xs ys : List V} (o : Oth hd H H') (n : H hd = some (.lst ys)) (s : SqT K H a xs) : SqT K H' a xs := by
  rcases s with (s | ⟨u, s⟩) | s
  · exact .inl (.inl (o _ _ (fun z => by rw [z, n] at s; cases s) s))
  · exact .inl (.inr ⟨u, o _ _ (fun z => by rw [z, n] at s; cases s) s⟩)
  · exact .inr s
theorem Oth.trans {hd : Addr} {H H1 H2 : Hp} (a : Oth hd H H1) (b : Oth hd H1 H2) : Oth hd H H2 := fun c o n h => b c o n (a c o n h)
theorem Same.oth {hd : Addr} {H H' : Hp} (s : Same H H') : Oth hd H H' := fun c o _ h => s c o h

/-! ### one step of a reading -/
section
variable {K : PySem.W.Frag} {σ : L2.St} {H : Hp} {Q : VK} {QB : Bool → Hp → Prop} {QA : List V → Hp → Prop} {D : Ends} {ta tb te : TE} {t u : TS} {c d : TT} {i : Nat} {v : V} {b : Bool}
theorem s_seq (h : t { D with nx := u D } σ H) : tSeq t u D σ H := h
theorem s_cut (M : L2.St → Hp → Prop) (h : t { D with nx := M } σ H) (k : ∀ σ' H', M σ' H' → u D σ' H') : Evl.tCut t u D σ H := ⟨M, h, k⟩
theorem s_next (h : D.nx σ H) : tNext D σ H := h
theorem s_brk (h : D.bk σ H) : tBreak D σ H := h
theorem s_cont (h : D.ct σ H) : tCont D σ H := h
theorem s_set (h : te σ H fun x H1 => D.nx (σ.set i (some x)) H1) : tAsg te (gName i) D σ H := h
theorem s_asg {g : TG} (h : te σ H fun x H1 => g x σ H1 D.nx) : tAsg te g D σ H := h
theorem s_ret (h : te σ H D.rt) : tRet te D σ H := h
theorem s_retN (h : D.rt .non H) : tRetN D σ H := h
theorem s_drop (h : te σ H fun _ H1 => D.nx σ H1) : tDrop te D σ H := h
theorem s_if (h : c σ H fun b H1 => if b = true then t D σ H1 else u D σ H1) : tIfS c t u D σ H := h
theorem s_aug {ti : TIp} {x : V} (e : σ[i]? = some (some x)) (h : te σ H fun y H1 => ti x y H1 fun z H2 => D.nx (σ.set i (some z)) H2) : tAug i te ti D σ H := ⟨x, e, h⟩
theorem s_ipI {f : Int → Int → Int} {a b : Int} (h : Q (.int (f a b)) H) : ipI f (.int a) (.int b) H Q := ⟨a, b, rfl, rfl, h⟩
theorem e_var (h : σ[i]? = some (some v)) (q : Q v H) : tVar i σ H Q := ⟨v, h, q⟩
theorem e_c (q : Q v H) : tC v σ H Q := q
theorem e_op {r : R2} (h : ta σ H fun x H1 => tb σ H1 fun y H2 => r x y H2 Q) : tOp r ta tb σ H Q := h
theorem e_un {r : V → Hp → VK → Prop} (h : ta σ H fun x H1 => r x H1 Q) : tUn r ta σ H Q := h
theorem e_neg {a : Int} (h : Q (.int (-a)) H) : rU (fun i => V.int (-i)) (.int a) H Q := ⟨a, rfl, h⟩
theorem e_test (h : te σ H fun x H1 => ∃ k, x = .bl k ∧ QB k H1) : tTest te σ H QB := h
theorem e_tB (h : te σ H fun x H1 => ∃ k, x = .bl k ∧ QB k H1) : tB te σ H QB := h
theorem e_bl (q : QB b H) : ∃ k, V.bl b = .bl k ∧ QB k H := ⟨b, rfl, q⟩
theorem e_and (h : c σ H fun b H1 => if b = true then d σ H1 QB else QB false H1) : tAnd c d σ H QB := h
theorem e_or (h : c σ H fun b H1 => if b = true then QB true H1 else d σ H1 QB) : tOr c d σ H QB := h
theorem e_not (h : c σ H fun b H1 => QB (!b) H1) : tNot c σ H QB := h
theorem e_andV (h : ta σ H fun x H1 => ∃ k, x = .bl k ∧ if k = true then tb σ H1 Q else Q (.bl false) H1) : tAndV ta tb σ H Q := h
theorem e_orV (h : ta σ H fun x H1 => ∃ k, x = .bl k ∧ if k = true then Q (.bl true) H1 else tb σ H1 Q) : tOrV ta tb σ H Q := h
theorem e_notV (h : ta σ H fun x H1 => ∃ k, x = .bl k ∧ Q (.bl (!k)) H1) : tNotV ta σ H Q := h
theorem e_kV {P : Bool → Prop} (q : P b) : ∃ k, V.bl b = .bl k ∧ P k := ⟨b, rfl, q⟩
theorem e_ife (h : c σ H fun b H1 => if b = true then ta σ H1 Q else tb σ H1 Q) : tIf c ta tb σ H Q := h
theorem e_nil (q : QA [] H) : tNil σ H QA := q
theorem e_cons {tr : TA} (h : ta σ H fun x H1 => tr σ H1 fun xs H2 => QA (x :: xs) H2) : tCons ta tr σ H QA := h
theorem e_cb {r : List V → Hp → VK → Prop} {tt : TA} (h : tt σ H fun vs H1 => r vs H1 Q) : tCB r tt σ H Q := h
theorem e_call {sp : Sp} {dvs : List V} {E : XK} {tt : TA} (h : tt σ H fun vs H1 => sp (vs ++ dvs) H1 Q E) : tCall sp dvs E tt σ H Q := h
theorem e_chain {r r' : R2} {tc : TE} (h : ta σ H fun x H1 => tb σ H1 fun y H2 => r x y H2 fun z H3 => ∃ k, z = .bl k ∧ if k = true then tc σ H3 fun w H4 => r' y w H4 Q else Q (.bl false) H3) : tChain r r' ta tb tc σ H Q := h
theorem o_l {r r' : R2} {x y : V} (h : r x y H Q) : rOr r r' x y H Q := .inl h
theorem o_r {r r' : R2} {x y : V} (h : r' x y H Q) : rOr r r' x y H Q := .inr h
theorem o_I0 {g : Int → Int → V} {a b : Int} (h : Q (g a b) H) : rI0 g (.int a) (.int b) H Q := ⟨a, b, rfl, rfl, h⟩
theorem o_addI {r' : R2} {a b : Int} (h : Q (.int (a + b)) H) : rOr rIAdd r' (.int a) (.int b) H Q := .inl ⟨a, b, rfl, rfl, h⟩
theorem o_mod {a b : Int} (hb : 0 < b) (h : Q (.int (a % b)) H) : rI (fun _ j => 0 < j) (fun i j => V.int (i % j)) (.int a) (.int b) H Q := ⟨a, b, rfl, rfl, hb, h⟩
theorem o_modL {a b : Int} (hb : 0 < b) (h : ∀ r, 0 ≤ r → r < b → Q (.int r) H) : rI (fun _ j => 0 < j) (fun i j => V.int (i % j)) (.int a) (.int b) H Q := o_mod hb (h _ (Int.emod_nonneg _ (by omega)) (Int.emod_lt_of_pos _ hb))
theorem o_mulR {r' : R2} {a b : Int} (hb : -(2 ^ 64) < b ∧ b < 2 ^ 64) (h : Q (.int (a * b)) H) : rOr rIMul r' (.int a) (.int b) H Q := .inl ⟨a, b, rfl, rfl, .inr hb, h⟩
theorem o_mulL {r' : R2} {a b : Int} (ha : -(2 ^ 64) < a ∧ a < 2 ^ 64) (h : Q (.int (a * b)) H) : rOr rIMul r' (.int a) (.int b) H Q := .inl ⟨a, b, rfl, rfl, .inl ha, h⟩
theorem o_divW {a b : Int} (n : Nat) (hb : 0 < b) (h1 : b < 2 ^ n) (h2 : 0 < n) (h3 : n ≤ 9000) (h : Q (.int (a / b)) H) : rI CDivW (fun i j => V.int (i / j)) (.int a) (.int b) H Q := ⟨a, b, rfl, rfl, wide_div (b := n) hb (by
  have e : ((2 ^ n : Nat) : Int) = (2 : Int) ^ n := by rw [Int.natCast_pow]; rfl
  have : (b.natAbs : Int) = b := by omega
  have h4 : ((b.natAbs : Nat) : Int) < ((2 ^ n : Nat) : Int) := by rw [this, e]; exact h1
  exact Int.ofNat_lt.mp h4) h2 h3, h⟩
theorem o_div {a b : Int} (hb : 0 < b) (h1 : b < 2 ^ 100) (h : Q (.int (a / b)) H) : rI CDivW (fun i j => V.int (i / j)) (.int a) (.int b) H Q := o_divW 100 hb h1 (by decide) (by decide) h
theorem o_pow {a b : Int} (n : Nat) (e : b = (n : Nat)) (h0 : n ≤ 1000000) (h1 : a.natAbs < 2 ^ 64) (h : Q (.int (a ^ n)) H) : rI CPow (fun i j => V.int (i ^ j.toNat)) (.int a) (.int b) H Q := ⟨a, b, rfl, rfl, ⟨by omega, by omega, h1⟩, by
  have e2 : b.toNat = n := by omega
  show Q (.int (a ^ b.toNat)) H
  rw [e2]; exact h⟩
theorem o_pow1 (h : Q (.int 10) H) : rI CPow (fun i j => V.int (i ^ j.toNat)) (.int 10) (.int 1) H Q := o_pow 1 rfl (by decide) (by decide) (by rw [(by decide : (10 : Int) ^ 1 = 10)]; exact h)
theorem o_pow2 (h : Q (.int 100) H) : rI CPow (fun i j => V.int (i ^ j.toNat)) (.int 10) (.int 2) H Q := o_pow 2 rfl (by decide) (by decide) (by rw [(by decide : (10 : Int) ^ 2 = 100)]; exact h)
theorem o_pow3 (h : Q (.int 1000) H) : rI CPow (fun i j => V.int (i ^ j.toNat)) (.int 10) (.int 3) H Q := o_pow 3 rfl (by decide) (by decide) (by rw [(by decide : (10 : Int) ^ 3 = 1000)]; exact h)
theorem o_pow4 (h : Q (.int 10000) H) : rI CPow (fun i j => V.int (i ^ j.toNat)) (.int 10) (.int 4) H Q := o_pow 4 rfl (by decide) (by decide) (by rw [(by decide : (10 : Int) ^ 4 = 10000)]; exact h)
theorem o_pow5 (h : Q (.int 100000) H) : rI CPow (fun i j => V.int (i ^ j.toNat)) (.int 10) (.int 5) H Q := o_pow 5 rfl (by decide) (by decide) (by rw [(by decide : (10 : Int) ^ 5 = 100000)]; exact h)
theorem o_pow6 (h : Q (.int 1000000) H) : rI CPow (fun i j => V.int (i ^ j.toNat)) (.int 10) (.int 6) H Q := o_pow 6 rfl (by decide) (by decide) (by rw [(by decide : (10 : Int) ^ 6 = 1000000)]; exact h)
theorem o_pow9 (h : Q (.int 1000000000) H) : rI CPow (fun i j => V.int (i ^ j.toNat)) (.int 10) (.int 9) H Q := o_pow 9 rfl (by decide) (by decide) (by rw [(by decide : (10 : Int) ^ 9 = 1000000000)]; exact h)
theorem o_pow10 (h : Q (.int 10000000000) H) : rI CPow (fun i j => V.int (i ^ j.toNat)) (.int 10) (.int 10) H Q := o_pow 10 rfl (by decide) (by decide) (by rw [(by decide : (10 : Int) ^ 10 = 10000000000)]; exact h)
theorem o_pow12 (h : Q (.int 1000000000000) H) : rI CPow (fun i j => V.int (i ^ j.toNat)) (.int 10) (.int 12) H Q := o_pow 12 rfl (by decide) (by decide) (by rw [(by decide : (10 : Int) ^ 12 = 1000000000000)]; exact h)
theorem o_pow15 (h : Q (.int 1000000000000000) H) : rI CPow (fun i j => V.int (i ^ j.toNat)) (.int 10) (.int 15) H Q := o_pow 15 rfl (by decide) (by decide) (by rw [(by decide : (10 : Int) ^ 15 = 1000000000000000)]; exact h)
theorem o_pow16 (h : Q (.int 10000000000000000) H) : rI CPow (fun i j => V.int (i ^ j.toNat)) (.int 10) (.int 16) H Q := o_pow 16 rfl (by decide) (by decide) (by rw [(by decide : (10 : Int) ^ 16 = 10000000000000000)]; exact h)
theorem o_pow17 (h : Q (.int 100000000000000000) H) : rI CPow (fun i j => V.int (i ^ j.toNat)) (.int 10) (.int 17) H Q := o_pow 17 rfl (by decide) (by decide) (by rw [(by decide : (10 : Int) ^ 17 = 100000000000000000)]; exact h)
theorem o_pow18 (h : Q (.int 1000000000000000000) H) : rI CPow (fun i j => V.int (i ^ j.toNat)) (.int 10) (.int 18) H Q := o_pow 18 rfl (by decide) (by decide) (by rw [(by decide : (10 : Int) ^ 18 = 1000000000000000000)]; exact h)
theorem o_pow19 (h : Q (.int 10000000000000000000) H) : rI CPow (fun i j => V.int (i ^ j.toNat)) (.int 10) (.int 19) H Q := o_pow 19 rfl (by decide) (by decide) (by rw [(by decide : (10 : Int) ^ 19 = 10000000000000000000)]; exact h)
theorem o_pow20 (h : Q (.int 100000000000000000000) H) : rI CPow (fun i j => V.int (i ^ j.toNat)) (.int 10) (.int 20) H Q := o_pow 20 rfl (by decide) (by decide) (by rw [(by decide : (10 : Int) ^ 20 = 100000000000000000000)]; exact h)
theorem o_pow30 (h : Q (.int 1000000000000000000000000000000) H) : rI CPow (fun i j => V.int (i ^ j.toNat)) (.int 10) (.int 30) H Q := o_pow 30 rfl (by decide) (by decide) (by rw [(by decide : (10 : Int) ^ 30 = 1000000000000000000000000000000)]; exact h)
theorem o_pow31 (h : Q (.int 10000000000000000000000000000000) H) : rI CPow (fun i j => V.int (i ^ j.toNat)) (.int 10) (.int 31) H Q := o_pow 31 rfl (by decide) (by decide) (by rw [(by decide : (10 : Int) ^ 31 = 10000000000000000000000000000000)]; exact h)
theorem set_ {p : Addr} {xs : List V} {k : Int} {j : Nat} {R : Hp → Prop} (h : H p = some (.lst xs)) (e : ixN xs.length k = some j) (q : ∀ H2, Oth p H H2 → H2 p = some (.lst (xs.set j v)) → R H2) : rSetL (.ref p) (.int k) v H R :=
  ⟨p, xs, k, j, rfl, rfl, h, e, q _ (fun b o n z => by rw [upd_ne n]; exact z) upd_same⟩
theorem g_sub {to ti : TE} {tset : TSet} {R : L2.St → Hp → Prop} (h : to σ H fun o H1 => ti σ H1 fun i H2 => tset o i v H2 fun H3 => R σ H3) : gSub to ti tset v σ H R := h
theorem o_eqS {r' : R2} {x y : V} (s : scal x y = true) (h : Q (.bl (decide (x = y))) H) : rOr rEq r' x y H Q := .inl ⟨s, h⟩
theorem o_eqI {r' : R2} {a b : Int} (h : Q (.bl (decide (a = b))) H) : rOr rEq r' (.int a) (.int b) H Q := .inl ⟨rfl, by
  have e : decide (V.int a = V.int b) = decide (a = b) := by
    by_cases q : a = b
    · rw [decide_eq_true q, q]; exact decide_eq_true rfl
    · rw [decide_eq_false q]; exact decide_eq_false fun z => q (V.int.inj z)
  rw [e]; exact h⟩
theorem o_neI {r' : R2} {a b : Int} (h : Q (.bl (decide (a ≠ b))) H) : rOr rNe r' (.int a) (.int b) H Q := .inl ⟨rfl, by
  have e : (!decide (V.int a = V.int b)) = decide (a ≠ b) := by
    by_cases q : a = b
    · rw [decide_eq_false (show ¬ a ≠ b from fun z => z q), q, decide_eq_true rfl] <;> rfl
    · rw [decide_eq_true (show a ≠ b from q), decide_eq_false fun z => q (V.int.inj z)] <;> rfl
  rw [e]; exact h⟩
theorem o_ixL {p : Addr} {xs : List V} {a : Int} (s : SqL K H p xs) (e : atI xs a = some v) (q : Q v H) : rIxLT K (.ref p) (.int a) H Q := .inl ⟨p, xs, a, v, rfl, rfl, s, e, q⟩
theorem o_ixT {p : Addr} {xs : List V} {a : Int} (s : SqT K H p xs) (e : atI xs a = some v) (q : Q v H) : rIxLT K (.ref p) (.int a) H Q := .inr ⟨p, xs, a, v, rfl, rfl, s, e, q⟩
theorem o_ixA {p : Addr} {xs : List V} {a : Int} (s : H p = some (.lst xs)) (e : atI xs a = some v) (q : Q v H) : rIxLT K (.ref p) (.int a) H Q := o_ixL (slO s) e q
theorem o_ixU {p : Addr} {xs : List V} {a : Int} (s : H p = some (.tup xs)) (e : atI xs a = some v) (q : Q v H) : rIxLT K (.ref p) (.int a) H Q := o_ixT (stO s) e q
theorem ixN_in {n : Nat} {z : Int} {j : Nat} (e : z = (j : Nat)) (h : j < n) : ixN n z = some j := by
  unfold ixN
  rw [if_pos (by omega), if_pos (by omega)]
  congr 1; omega
theorem atI_in {α : Type} {xs : List α} {z : Int} {j : Nat} {x : α} (e : z = (j : Nat)) (h : xs[j]? = some x) : atI xs z = some x := by
  have hj : j < xs.length := (List.getElem?_eq_some_iff.mp h).1
  unfold atI
  rw [ixN_in e hj]
  exact h
theorem e_lenL {p : Addr} {xs : List V} (s : SqL K H p xs) (q : Q (.int (xs.length : Nat)) H) : rLen' K [.ref p] H Q := ⟨_, xs.length, rfl, .inl ⟨xs, s, rfl⟩, q⟩
theorem e_lenM {α : Type} {f : α → V} {p : Addr} {xs : List α} (s : SqL K H p (xs.map f)) (q : Q (.int (xs.length : Nat)) H) : rLen' K [.ref p] H Q := e_lenL s (by rw [List.length_map]; exact q)
theorem e_lenN {α : Type} {f : α → V} {p : Addr} {xs : List α} (s : SqT K H p (xs.map f)) (q : Q (.int (xs.length : Nat)) H) : rLen' K [.ref p] H Q := ⟨_, xs.length, rfl, .inr ⟨_, s, by rw [List.length_map]⟩, q⟩
theorem e_lenT {p : Addr} {xs : List V} (s : SqT K H p xs) (q : Q (.int (xs.length : Nat)) H) : rLen' K [.ref p] H Q := ⟨_, xs.length, rfl, .inr ⟨xs, s, rfl⟩, q⟩
theorem i_t {A B : Prop} (hb : b = true) (q : A) : if b = true then A else B := by rw [if_pos hb]; exact q
theorem i_f {A B : Prop} (hb : b = false) (q : B) : if b = true then A else B := by rw [hb]; exact iteF q
theorem i_nt {A B : Prop} (q : B) : if (!true) = true then A else B := q
theorem i_nf {A B : Prop} (q : A) : if (!false) = true then A else B := q
theorem i_dt {p A B : Prop} [Decidable p] (hp : p) (q : A) : if decide p = true then A else B := i_t (decide_eq_true hp) q
theorem i_df {p A B : Prop} [Decidable p] (hp : ¬ p) (q : B) : if decide p = true then A else B := i_f (decide_eq_false hp) q
theorem i_ndt {p A B : Prop} [Decidable p] (hp : ¬ p) (q : A) : if (!decide p) = true then A else B := i_t (by rw [decide_eq_false hp]; rfl) q
theorem i_ndf {p A B : Prop} [Decidable p] (hp : p) (q : B) : if (!decide p) = true then A else B := i_f (by rw [decide_eq_true hp]; rfl) q
theorem i_d {p A B : Prop} [Decidable p] (h1 : p → A) (h2 : ¬ p → B) : if decide p = true then A else B := by
  by_cases hp : p
  · exact i_dt hp (h1 hp)
  · exact i_df hp (h2 hp)
/-- a new list, a new tuple -/
theorem e_lst {tt : TA} (h : tt σ H fun xs H1 => xs.length ≤ sizeLine ∧ NewQ (.lst xs) H1 Q) : tLst tt σ H Q := h
theorem e_tup {tt : TA} (h : tt σ H fun xs H1 => xs.length ≤ sizeLine ∧ NewQ (.tup xs) H1 Q) : tTup tt σ H Q := h
theorem n_new {n : Nat} {o : HO} (hl : n ≤ sizeLine) (h : ∀ p H2, H p = none → Same H H2 → H2 p = some o → Q (.ref p) H2) : n ≤ sizeLine ∧ NewQ o H Q := ⟨hl, fun p hp => h p _ hp (Same.new hp) upd_same⟩
theorem n_new0 {o : HO} (h : ∀ p H2, H p = none → Same H H2 → H2 p = some o → Q (.ref p) H2) : NewQ o H Q := fun p hp => h p _ hp (Same.new hp) upd_same
theorem c_listL {p : Addr} {xs : List V} (s : SqL K H p xs) (q : NewQ (.lst xs) H Q) : rListOf K [.ref p] H Q := ⟨p, xs, rfl, .inl s, q⟩
theorem c_listT {p : Addr} {xs : List V} (s : SqT K H p xs) (q : NewQ (.lst xs) H Q) : rListOf K [.ref p] H Q := ⟨p, xs, rfl, .inr s, q⟩
theorem c_tupL {p : Addr} {xs : List V} (s : SqL K H p xs) (q : NewQ (.tup xs) H Q) : rTupOf K [.ref p] H Q := ⟨p, xs, rfl, .inl ⟨s, q⟩⟩
theorem c_tupT {p : Addr} {xs : List V} (s : SqT K H p xs) (q : Q (.ref p) H) : rTupOf K [.ref p] H Q := ⟨p, xs, rfl, .inr ⟨s, q⟩⟩
theorem isi_ {x : V} {t n : String} {b : Bool} (ty : TyX K H x (.type t)) (e : kitB t n = some b) (q : Q (.bl b) H) : rIsi K [x, .ty n] H Q := ⟨x, .ty n, .type t, .type n, b, rfl, .ty n, ty, kit_ty e, q⟩
theorem isi_int {a : Int} {n : String} (b : Bool) (e : kitB "int" n = some b) (q : Q (.bl b) H) : rIsi K [.int a, .ty n] H Q := isi_ (.base (.int a)) e q
theorem isi_non {n : String} (b : Bool) (e : kitB "NoneType" n = some b) (q : Q (.bl b) H) : rIsi K [.non, .ty n] H Q := isi_ (.base .non) e q
theorem isi_str {z : Str} {n : String} (b : Bool) (e : kitB "str" n = some b) (q : Q (.bl b) H) : rIsi K [.str z, .ty n] H Q := isi_ (.base (.str z)) e q
theorem isi_bl {z : Bool} {n : String} (b : Bool) (e : kitB "bool" n = some b) (q : Q (.bl b) H) : rIsi K [.bl z, .ty n] H Q := isi_ (.base (.bl z)) e q
theorem isi_tup {a : Addr} {xs : List V} {n : String} (b : Bool) (h : H a = some (.tup xs)) (e : kitB "tuple" n = some b) (q : Q (.bl b) H) : rIsi K [.ref a, .ty n] H Q := isi_ (.base (.tup h)) e q
theorem isi_lst {a : Addr} {xs : List V} {n : String} (b : Bool) (h : H a = some (.lst xs)) (e : kitB "list" n = some b) (q : Q (.bl b) H) : rIsi K [.ref a, .ty n] H Q := isi_ (.base (.lst h)) e q
theorem t_bl {PB : Bool → Prop} (q : PB b) : ∃ k, TruV K (.bl b) H k ∧ PB k := ⟨b, rfl, q⟩
theorem t_non {PB : Bool → Prop} (q : PB false) : ∃ k, TruV K .non H k ∧ PB k := ⟨false, rfl, q⟩
theorem t_int {PB : Bool → Prop} {a : Int} (q : PB (decide (a ≠ 0))) : ∃ k, TruV K (.int a) H k ∧ PB k := ⟨_, rfl, by
  have e : (a != 0) = decide (a ≠ 0) := by
    by_cases h : a = 0
    · subst h; rfl
    · rw [decide_eq_true h]; simpa using h
  rw [e]; exact q⟩
theorem t_lst {PB : Bool → Prop} {p : Addr} {xs : List V} (s : SqL K H p xs) (q : PB (!xs.isEmpty)) : ∃ k, TruV K (.ref p) H k ∧ PB k := ⟨_, .inl ⟨xs, s, rfl⟩, q⟩
theorem t_tup {PB : Bool → Prop} {p : Addr} {xs : List V} (s : SqT K H p xs) (q : PB (!xs.isEmpty)) : ∃ k, TruV K (.ref p) H k ∧ PB k := ⟨_, .inr (.inl ⟨xs, s, rfl⟩), q⟩
theorem isN_non (q : Q (.bl true) H) : rIsN0 .non .non H Q := ⟨rfl, q⟩
theorem isN_int {a : Int} (q : Q (.bl false) H) : rIsN0 (.int a) .non H Q := ⟨rfl, q⟩
theorem isN_ref {a : Addr} (q : Q (.bl false) H) : rIsN0 (.ref a) .non H Q := ⟨rfl, q⟩
theorem isN_str {a : Str} (q : Q (.bl false) H) : rIsN0 (.str a) .non H Q := ⟨rfl, q⟩
theorem isN_bl {a : Bool} (q : Q (.bl false) H) : rIsN0 (.bl a) .non H Q := ⟨rfl, q⟩
theorem noN_non (q : Q (.bl false) H) : rNoN0 .non .non H Q := ⟨rfl, q⟩
theorem noN_int {a : Int} (q : Q (.bl true) H) : rNoN0 (.int a) .non H Q := ⟨rfl, q⟩
theorem noN_ref {a : Addr} (q : Q (.bl true) H) : rNoN0 (.ref a) .non H Q := ⟨rfl, q⟩
theorem noN_str {a : Str} (q : Q (.bl true) H) : rNoN0 (.str a) .non H Q := ⟨rfl, q⟩
theorem noN_bl {a : Bool} (q : Q (.bl true) H) : rNoN0 (.bl a) .non H Q := ⟨rfl, q⟩
theorem tyx_st {a : Addr} {xs : List V} (s : SqT K H a xs) : TyX K H (.ref a) (.type "tuple") := by
  rcases s with (s | ⟨o, s⟩) | ⟨o, its, n, hk, hc, _⟩
  · exact .base (.tup s)
  · exact .fTuple s
  · exact .kTuple hk hc
theorem tyx_sl {a : Addr} {xs : List V} (s : SqL K H a xs) : TyX K H (.ref a) (.type "list") := by
  rcases s with (s | ⟨o, s⟩) | ⟨o, its, n, hk, hc, _⟩
  · exact .base (.lst s)
  · exact .base (.frz s)
  · exact .kList hk hc
theorem isi_t {a : Addr} {xs : List V} {n : String} (b : Bool) (s : SqT K H a xs) (e : kitB "tuple" n = some b) (q : Q (.bl b) H) : rIsi K [.ref a, .ty n] H Q := isi_ (tyx_st s) e q
theorem isi_l {a : Addr} {xs : List V} {n : String} (b : Bool) (s : SqL K H a xs) (e : kitB "list" n = some b) (q : Q (.bl b) H) : rIsi K [.ref a, .ty n] H Q := isi_ (tyx_sl s) e q
theorem e_allB {p : Addr} {bs : List Bool} (s : H p = some (.lst (bs.map V.bl))) (q : Q (.bl (bs.all id)) H) : rAll K [.ref p] H Q := ⟨p, bs, rfl, slO s, q⟩
theorem c_int {a : Int} (q : Q (.int a) H) : rInt1 [V.int a] H Q := .inl ⟨a, rfl, q⟩
theorem c_abs {a : Int} (q : Q (.int (if a < 0 then -a else a)) H) : rAbs [V.int a] H Q := ⟨a, rfl, q⟩
theorem c_min2 {a b : Int} (q : Q (.int (if b < a then b else a)) H) : rMin2 [V.int a, V.int b] H Q := ⟨a, b, rfl, q⟩
theorem c_max2 {a b : Int} (q : Q (.int (if b > a then b else a)) H) : rMax2 [V.int a, V.int b] H Q := ⟨a, b, rfl, q⟩
theorem e_tru (h : te σ H fun x H1 => ∃ k, TruV K x H1 k ∧ QB k H1) : tTruE K te σ H QB := h
theorem e_app {to : TE} (h : to σ H fun x H1 => ∃ l xs, x = .ref l ∧ SqL K H1 l xs ∧ te σ H1 fun y H2 => ∃ ys, H2 l = some (.lst ys) ∧ ys.length < sizeLine ∧ Q .non (upd H2 l (.lst (ys ++ [y])))) (mono : ∀ (H : Hp) (R R' : V → Hp → Prop), (∀ x H1, R x H1 → R' x H1) → to σ H R → to σ H R') (mono2 : ∀ (H : Hp) (R R' : V → Hp → Prop), (∀ x H1, R x H1 → R' x H1) → te σ H R → te σ H R') :
    tBM K "list" rAppend to (tCons te tNil) σ H Q := by
  refine mono H _ _ (fun x H1 q => ?_) h
  obtain ⟨l, xs, rfl, s, q⟩ := q
  refine ⟨.inl ⟨rfl, xs, s⟩, ?_⟩
  exact mono2 H1 _ _ (fun y H2 ⟨ys, h1, h2, h3⟩ => ⟨l, ys, y, rfl, rfl, h1, h2, h3⟩) q
end
/-- a def of the text as it stands, a constant of the text -/
structure DefAt (K : PySem.W.Frag) (mg : Str → Option Value) (x qual : Str) (st : Stmt) (ps : List Str) where
  f : Addr
  fd : FuncData
  F : Fun K x qual st f fd
  b : Binds K fd ps []
  g : mg x = some (.ref f)
structure CAt (mg : Str → Option Value) (x : Str) (v : V) where
  u : Value
  h : mg x = some u
  r : RelV v u
def defAt_mk {K : PySem.W.Frag} {mg : Str → Option Value} {h : Heap} {x qual : Str} {st : Stmt} {ps : List Str} {f : Addr} {od an : Option Addr} {sl : Array (Option Value)} {oc kV dc pm cd ct : Value} (X : K.In h) (G : h.Ns mainGlobals mg)
    (a : PySem.W.nsIn K mainGlobals x = some (some (.ref f))) (l : K.lookup f = some ⟨oc, od, .func (PySem.W.fnOf x qual (defArgs st) (defBody st) (defScope st) .none kV dc pm an cd ct), sl⟩) (c : PySem.W.codeIn K cd qual = true) (k : PySem.W.keepIn K (.ref f) = true)
    (b : ∀ (kV doc pm : Value) (an : Option Addr) (cdv ct : Value) (us : List Value), us.length = ps.length → bindArgs (PySem.W.fnOf x qual (defArgs st) (defBody st) (defScope st) .none kV doc pm an cdv ct) ⟨us, []⟩ = pure (ps.zip us)) : DefAt K mg x qual st ps :=
  ⟨f, _, fun_mk l c k, (fun_mk (st := st) l c k).binds b, PySem.W.mg_of X G a⟩
def cAt_mk {K : PySem.W.Frag} {mg : Str → Option Value} {h : Heap} {x : Str} {u : Value} {v : V} (X : K.In h) (G : h.Ns mainGlobals mg) (a : PySem.W.nsIn K mainGlobals x = some (some u)) (r : RelV v u) : CAt mg x v := ⟨u, PySem.W.mg_of X G a, r⟩
end Vw

set_option Elab.async false
set_option linter.all false
set_option maxRecDepth 100000
set_option maxHeartbeats 4000000
namespace Vw
open PySem PySem.Spec PyProof.Rows L2
/-! ### enumerate of a tuple -/
abbrev ti0 (t : Addr) : Obj := { cls := .type "tuple_iterator", data := .fields #[.ref t, .int 0 0] }
abbrev en0 (i : Addr) : Obj := { cls := .type "enumerate", data := .fields #[.none, .bool false, .ref i, rawInt 0, .none, .none] }
theorem new_enumT (t : Addr) (items : Array Value) :
    Meets (Builtin.«enumerate.__new__» ⟨[.type "enumerate", .ref t], []⟩) (fun _ R s => s.heap.IsTuple t items ∧
      R (.ok (.ret (.ref (s.heap.push (ti0 t)).objs.size))) { s with heap := (s.heap.push (ti0 t)).push (en0 s.heap.objs.size) }) :=
  .of_wp fun prog w A R s h => by
    obtain ⟨hp, g, d, tk, os⟩ := s
    obtain ⟨hL, h⟩ := h
    have hsub := sub_enumerate
    have hL2 := hL
    obtain ⟨⟨oc, od, odt, osl⟩, hl, hc, n, hd⟩ := hL2
    simp only at hc hd
    subst hc hd
    have hL : Heap.IsTuple (Shared.heap ⟨hp, g, d, tk, os⟩) t items := hL
    wp_walk using wpAny_loadPart' hl
    refine wpAny_stack_any fun st => wpAny_pure ?_
    split
    · rename_i c _ _ _ _ _
      cases (c == Value.type "enumerate")
      · wp_walk using wpAny_loadPart' hl, wpAny_pyIter_tuple hL
        exact ⟨_, rfl, h⟩
      · wp_walk using wpAny_loadPart' hl, wpAny_pyIter_tuple hL
        exact ⟨_, rfl, h⟩
    · wp_walk using wpAny_loadPart' hl, wpAny_pyIter_tuple hL
      exact ⟨_, rfl, h⟩
theorem call_enumT {prog : Program} {w : World} {A : Around} {E : Value → Shared → Prop} {s : Shared} {t : Addr} {items : Array Value} {Q : Value → Shared → Prop} (hL : s.heap.IsTuple t items)
    (h : ∀ h', IsEnum h' (s.heap.objs.size + 1) s.heap.objs.size 0 .none → h'.IsTupleIter s.heap.objs.size t 0 →
      (∀ b o, s.heap.get? b = some o → h'.get? b = some o) → Q (.ref (s.heap.objs.size + 1)) { s with heap := h' }) :
    wpAny (model prog w) A (call (.type "enumerate") [.ref t]) Q E s := by
  refine callType_new F.called_enumerate (by decide) (F.typeCall_enumerate_1 _) (F.newCall_enumerate_1 _) (fun obj => F.args_object_init_2 obj _) F.entry_enumerate_new (new_enumT t items) ⟨hL, ?_⟩
  have hz : (s.heap.push (ti0 t)).objs.size = s.heap.objs.size + 1 := Heap.size_push ..
  show _ ∧ _
  rw [hz]
  have he : IsEnum ((s.heap.push (ti0 t)).push (en0 s.heap.objs.size)) (s.heap.objs.size + 1) s.heap.objs.size 0 .none := by
    have q := Heap.get?_push_size (s.heap.push (ti0 t)) (o := en0 s.heap.objs.size) rfl
    rw [hz] at q; exact q
  exact ⟨⟨_, he, rfl⟩, h _ he ⟨_, Heap.get?_push_of_some _ (Heap.get?_push_size _ rfl), rfl, rfl⟩ fun b o x => Heap.get?_push_of_some _ (Heap.get?_push_of_some _ x)⟩
/-- the tuple at a, each item in a new pair -/
def ItEt (K : PySem.W.Frag) (a : Addr) : It :=
  ⟨fun i H => ∃ (xs : List V) (x : V), SqT K H a xs ∧ xs[i]? = some x, fun i H v H' => ∃ T x, v = .ref T ∧ H T = none ∧ H' = upd H T (.tup [.int (i : Nat), x]) ∧ ∀ xs, SqT K H a xs → xs[i]? = some x, fun i H => ∃ xs : List V, SqT K H a xs ∧ xs.length ≤ i⟩
theorem turn_enumT {P : Program} {w : World} {K : PySem.W.Frag} {elts : List Expr} {kk : Nat} {tpos : Pos} (a e it : Addr) :
    Turn P w K (.Tuple elts kk tpos) (ItEt K a) [e, it] e (fun i h => (∃ old, IsEnum h e it ((i : Nat) : Int) old) ∧ h.IsTupleIter it a i ∧ e ≠ it) where
  mem := List.mem_cons_self
  obj := fun i h st b hb => by
    obtain ⟨⟨old, he⟩, ⟨o, ho, hc, hd⟩, _⟩ := st
    rcases List.mem_cons.mp hb with z | z
    · rw [z]; exact ⟨_, he, fun v q => nomatch q⟩
    · rw [List.mem_singleton.mp z]; exact ⟨o, ho, fun v q => by rw [hd] at q; cases q⟩
  keep := fun i h h' ⟨⟨old, he⟩, hi, hne⟩ k => ⟨⟨old, k e List.mem_cons_self _ he⟩, hi.at fun o q => k it (List.mem_cons_of_mem _ List.mem_cons_self) o q, hne⟩
  item := by
    intro X hP hw hK hc i pins s σ H E I hf st hg
    subst hP hw hK
    obtain ⟨⟨old, he⟩, hit, hne⟩ := st
    obtain ⟨xs, x, hq, hx⟩ := hg
    obtain ⟨its, rv, p, hz⟩ := I.tuple hq
    obtain ⟨u, hu, ru⟩ := rv.get hx
    have pt : s.heap.IsTuple a its.toArray := p
    have hel : e < s.heap.objs.size := Heap.lt_size he
    have hil : it < s.heap.objs.size := by obtain ⟨_, q, _⟩ := hit; exact Heap.lt_size q
    have hai : a ≠ it := fun z => by
      obtain ⟨o1, g1, c1, _⟩ := pt
      obtain ⟨o2, g2, c2, _⟩ := hit
      rw [z, g2] at g1
      cases g1
      rw [c2] at c1
      exact absurd c1 (by decide)
    have hae : a ≠ e := fun z => by
      obtain ⟨o1, g1, c1, _⟩ := pt
      rw [z, show s.heap.get? e = _ from he] at g1
      cases g1
      have c2 : Value.type "enumerate" = Value.type "tuple" := c1
      exact absurd c2 (by decide)
    have hlt : i < its.toArray.size := by
      have := (List.getElem?_eq_some_iff.mp hu).1
      simpa using this
    refine wpAny_pyNext_enum_itemD (Draws.tuple (by rw [Around.in1_handled]; exact I.ok.hd hc) it a hai its.toArray) he ⟨hit, pt⟩ hlt hne (by simp [hne, Ne.symm hae]) fun y h' tk hy ho hst' hT hsz hk => ?_
    have ey : y = u := by
      have q : its.toArray[i]? = some u := by simpa using hu
      rw [q] at hy
      exact (Option.some.inj hy).symm
    subst ey
    refine ⟨_, rfl, wpAny_letOwnedTupleGo_enum (s := { s with heap := h', toks := tk + 1 }) ho fun h'' he' sb => ?_⟩
    have hT2 := (sb.2 _ (Nat.ne_of_gt hel)).trans hT
    have new : ObjOk X.prog X.w (upd H s.heap.objs.size (.tup [.int (i : Nat), x])) h'' s.heap.objs.size (.tup [.int (i : Nat), x]) := ⟨by show 2 ≤ sizeLine; decide, [.int i tk, y], .cons ⟨_, rfl⟩ (.cons ru .nil), ⟨_, hT2, rfl, _, rfl⟩⟩
    have I1 : Inv X pins σ (upd H s.heap.objs.size (.tup [.int (i : Nat), x])) { s with heap := h'', toks := tk + 1 } :=
      I.turnedNew (ch := [e, it]) (fun b ob hb q => (sb.2 b (fun z => hb (by simp [z]))).trans (hk b ob (fun z => hb (by simp [z])) (fun z => hb (by simp [z])) q)) hf (Nat.le_refl _) new
    refine ⟨.ref s.heap.objs.size, _, I1, rfl, ⟨_, x, rfl, I.hok.fresh (Nat.le_refl _), rfl, fun ys hy => ?_⟩, ⟨⟨y, ?_⟩, hst'.1.at fun o q => (sb.2 it (Ne.symm hne)).trans q, hne⟩, fun b hb => ?_⟩
    · rw [I.tuple_inj hy hq]; exact hx
    · rw [show ((i + 1 : Nat) : Int) = (i : Int) + 1 by omega]; exact he'
    · have hb' : b < s.heap.objs.size := by
        rcases List.mem_cons.mp hb with z | z
        · rw [z]; exact hel
        · rw [List.mem_singleton.mp z]; exact hil
      rw [upd_ne (Nat.ne_of_lt hb')]; exact (hf b hb).1
  done := by
    intro X hP hw hK hc i pins s σ H E I hf st hg
    subst hP hw hK
    obtain ⟨⟨old, he⟩, hit, hne⟩ := st
    obtain ⟨xs, hq, hx⟩ := hg
    obtain ⟨its, rv, p, hz⟩ := I.tuple hq
    obtain ⟨f0, f1, f2, f3, f4, f5⟩ := hf it (List.mem_cons_of_mem _ List.mem_cons_self)
    have pt : s.heap.IsTuple a its.toArray := p
    have hai : a ≠ it := fun z => by
      obtain ⟨o1, g1, c1, _⟩ := pt
      obtain ⟨o2, g2, c2, _⟩ := hit
      rw [z, g2] at g1
      cases g1
      rw [c2] at c1
      exact absurd c1 (by decide)
    have hl := rv.length
    have D : Draws X.prog X.w X.A.in1 it [it, a] i (fun _ _ => False) (fun j h => j = i ∧ h.IsTupleIter it a i ∧ h.IsTuple a its.toArray) := by
      refine ⟨fun j h st => let ⟨o, ho, _⟩ := st.2.1; ⟨o, ho⟩, fun j h h' st k => ⟨st.1, st.2.1.at fun o q => k it (by simp) o q, st.2.2.at fun o q => k a (by simp) o q⟩, fun j s Q E hj st _ => absurd st.1 (Nat.ne_of_lt hj), fun s Q E st hE => ?_⟩
      exact wpAny_nextOf_tuple_end (by rw [Around.in1_handled]; exact I.ok.hd hc) st.2.1 st.2.2 (by simp; omega) hE
    exact wpAny_pyNext_enum_endD D he ⟨rfl, hit, pt⟩ fun h' eb => ⟨rfl, I.turned (t' := s.toks) (fun b o hb q => eb b o hb q) f0 f1 f3 f4 f5⟩
  self := fun A i s Q E ⟨⟨_, he⟩, _⟩ h => wpAny_pyIter_enum he h
def iEnumT (K : PySem.W.Frag) (ta : TA) : TI := fun σ H R => ta σ H fun vs H1 => ∃ a xs, vs = [.ref a] ∧ ((SqL K H1 a xs ∧ R (Ite K a) H1) ∨ (SqT K H1 a xs ∧ R (ItEt K a) H1))
theorem piEnumT {K : PySem.W.Frag} {X : Cx} {e : Expr} {ta : TA} {p pos tpos : Pos} {elts : List Expr} {kk : Nat} (hg : Gl X "enumerate") (hm : X.mg "enumerate" = none) (ha : PA X [e] ta) (eK : X.K = K := by rfl) (hs : starEach [e] X.env = [(false, eval e X.env)] := by rfl) :
    PI X (.Tuple elts kk tpos) (.Call (.Name "enumerate" p) [e] [] pos) (iEnumT K ta) := by
  cases eK
  refine ⟨fun pins s σ H R I h => Call_ (ld_blt I hg hm boot_enumerate (PyProof.Rows.callWith_type1 (thn (ha.run pos pins s σ H _ I h) fun us s1 ⟨vs, H1, I1, r1, q1⟩ => ?_) hs rfl))⟩
  obtain ⟨a, xs, rfl, q⟩ := q1
  rw [Vals.ref1 r1]
  have up : ∀ b ∈ [s1.heap.objs.size + 1, s1.heap.objs.size], s1.heap.objs.size ≤ b := fun b hb => by
    rcases List.mem_cons.mp hb with z | z
    · rw [z]; exact Nat.le_add_right _ _
    · rw [List.mem_singleton.mp z]; exact Nat.le_refl _
  rcases q with ⟨hq, q⟩ | ⟨hq, q⟩
  · obtain ⟨its, rv, p', hz⟩ := I1.list hq
    refine call_enumerate_list p'.isList fun h' he hit hsz hk => wpAny_pyIter_enum he ?_
    exact ⟨s1.heap.objs.size + 1, [s1.heap.objs.size + 1, s1.heap.objs.size], _, _, H1, rfl, I1.kept (t' := s1.toks) hk, turn_enum a (s1.heap.objs.size + 1) s1.heap.objs.size, ⟨⟨.none, he⟩, hit, Nat.succ_ne_self _⟩, fun b hb => I1.fpOk (up b hb) (I1.hok.fresh (up b hb)), q⟩
  · obtain ⟨its, rv, p', hz⟩ := I1.tuple hq
    refine call_enumT (show s1.heap.IsTuple a its.toArray from p') fun h' he hit hk => wpAny_pyIter_enum he ?_
    exact ⟨s1.heap.objs.size + 1, [s1.heap.objs.size + 1, s1.heap.objs.size], _, _, H1, rfl, I1.kept (t' := s1.toks) hk, turn_enumT a (s1.heap.objs.size + 1) s1.heap.objs.size, ⟨⟨.none, he⟩, hit, Nat.succ_ne_self _⟩, fun b hb => I1.fpOk (up b hb) (I1.hok.fresh (up b hb)), q⟩
end Vw

set_option Elab.async false
set_option linter.all false
set_option maxRecDepth 100000
set_option maxHeartbeats 4000000
namespace Vw
open PySem PySem.Spec PyProof.Rows L2 RT
/-! ### loops -/
def FQ (J : It) (g : TG) (tb : TS) (D : Ends) (σ : L2.St) (H : Hp) : Prop := ∃ W : Nat → Nat → L2.St → Hp → Prop, (∃ m, W 0 m σ H) ∧ ∀ i m σ H, W i m σ H →
  (J.stop i H ∧ D.nx σ H) ∨ (J.go i H ∧ ∃ N : L2.St → Hp → Prop, (∀ σ' H', N σ' H' → ∃ m', m' < m ∧ W (i + 1) m' σ' H') ∧ ∀ x H', J.yld i H x H' → g x σ H' fun σ2 H2 => tb { D with nx := N, ct := N, bk := D.nx } σ2 H2)
def LQ (J : It) (g : TG) (tt : TT) (te : TE) (vs : List Nat) (σ : L2.St) (H1 : Hp) (Q : VK) : Prop := ∀ D, H1 D = none → ∃ W : Nat → Nat → Hp → Prop, (∃ m, W 0 m (upd H1 D (.lst []))) ∧ ∀ i m H, W i m H →
  (J.stop i H ∧ Q (.ref D) H) ∨ (J.go i H ∧ ∃ Nx : Hp → Prop, (∀ H', Nx H' → ∃ m', m' < m ∧ W (i + 1) m' H') ∧ ∀ x H', J.yld i H x H' → g x (wipe σ vs) H' fun σ2 H2 => wipe σ2 vs = wipe σ vs ∧ tt σ2 H2 fun b H3 =>
    if b = true then te σ2 H3 fun y H4 => ∃ acc, H4 D = some (.lst acc) ∧ acc.length < sizeLine ∧ Nx (upd H4 D (.lst (acc ++ [y]))) else Nx H3)
section
variable {K : PySem.W.Frag} {σ : L2.St} {H H1 : Hp} {Q : VK} {D : Ends} {ta tb te : TE} {t u : TS} {wi : TI} {g : TG} {tt : TT} {vs : List Nat} {R : It → Hp → Prop} {j : Nat} {xs : List V} {a : Addr}
theorem s_for (h : wi σ H fun J H1 => FQ J g t D σ H1) : tFor wi g t D σ H := h
theorem e_lc (h : wi σ H fun J H1 => LQ J g tt te vs σ H1 Q) : tLc wi g tt te vs σ H Q := h
def RgQ (R : It → Hp → Prop) (vs : List V) (H1 : Hp) : Prop := ∃ j : Int, vs = [.int j] ∧ -(2 ^ 62) ≤ j ∧ j < 2 ^ 62 ∧ R (Itr 0 j.toNat) H1
theorem i_rng1 {ta : TA} (h : ta σ H fun vs H1 => RgQ R vs H1) : iRng1 ta σ H R := h
theorem i_rng {i : Int} (n : Nat) (e : i.toNat = n) (h1 : -100000 ≤ i) (h2 : i ≤ 100000) (h : R (Itr 0 n) H) : RgQ R [.int i] H := ⟨i, rfl, by omega, by omega, by rw [e]; exact h⟩
def LsQ (K : PySem.W.Frag) (R : It → Hp → Prop) (x : V) (H1 : Hp) : Prop := ∃ a, x = .ref a ∧ (∃ xs, SqL K H1 a xs) ∧ R (Itl K a) H1
theorem i_lst0 {tl : TE} (h : tl σ H fun x H1 => LsQ K R x H1) : iList K tl σ H R := h
theorem i_lst (s : SqL K H a xs) (h : R (Itl K a) H) : LsQ K R (.ref a) H := ⟨a, rfl, ⟨xs, s⟩, h⟩
def TpQ (K : PySem.W.Frag) (R : It → Hp → Prop) (x : V) (H1 : Hp) : Prop := ∃ a, x = .ref a ∧ (∃ xs, SqT K H1 a xs) ∧ R (Itt K a) H1
theorem i_tup0 {tl : TE} (h : tl σ H fun x H1 => TpQ K R x H1) : iTup K tl σ H R := h
theorem i_tup (s : SqT K H a xs) (h : R (Itt K a) H) : TpQ K R (.ref a) H := ⟨a, rfl, ⟨xs, s⟩, h⟩
/-- a loop over anything that is walked -/
theorem l_it {J : It} {n : Nat} {G : Hp → Prop} {Y : Nat → Hp → V → Hp → Prop} (W : Walk J n G Y) (Pv : Nat → L2.St → Hp → Prop) (h0 : Pv 0 σ H) (hG : ∀ i σ H, i ≤ n → Pv i σ H → G H) (hd : ∀ σ H, Pv n σ H → D.nx σ H)
    (hs : ∀ i x σ H H', i < n → Pv i σ H → Y i H x H' → g x σ H' fun σ2 H2 => t { D with nx := Pv (i + 1), ct := Pv (i + 1), bk := D.nx } σ2 H2) : FQ J g t D σ H := for_it W Pv h0 hG hs hd
theorem l_rng {n : Nat} (Pv : Nat → L2.St → Hp → Prop) (h0 : Pv 0 σ H) (hd : ∀ σ H, Pv n σ H → D.nx σ H)
    (hs : ∀ (i : Nat) σ H, i < n → Pv i σ H → t { D with nx := Pv (i + 1), ct := Pv (i + 1), bk := D.nx } (σ.set j (some (.int (i : Int)))) H) : FQ (Itr 0 n) (gName j) t D σ H :=
  l_it walk_range Pv h0 (fun _ _ _ _ _ => trivial) hd fun i x σ H H' hi p y => by
    obtain ⟨rfl, rfl⟩ := y
    have e : (0 : Int) + (i : Int) = (i : Int) := Int.zero_add _
    show t _ (σ.set j (some (.int ((0 : Int) + (i : Int))))) _
    rw [e]; exact hs i σ _ hi p
theorem l_lst (Pv : Nat → L2.St → Hp → Prop) (h0 : Pv 0 σ H) (hl : ∀ i σ H, i ≤ xs.length → Pv i σ H → SqL K H a xs) (hd : ∀ σ H, Pv xs.length σ H → D.nx σ H)
    (hs : ∀ i x σ H, xs[i]? = some x → Pv i σ H → t { D with nx := Pv (i + 1), ct := Pv (i + 1), bk := D.nx } (σ.set j (some x)) H) : FQ (Itl K a) (gName j) t D σ H :=
  l_it walk_list Pv h0 hl hd fun i x σ H H' hi p y => by
    obtain ⟨rfl, e⟩ := y
    exact hs i x σ _ e p
theorem l_tup (Pv : Nat → L2.St → Hp → Prop) (h0 : Pv 0 σ H) (hl : ∀ i σ H, i ≤ xs.length → Pv i σ H → SqT K H a xs) (hd : ∀ σ H, Pv xs.length σ H → D.nx σ H)
    (hs : ∀ i x σ H, xs[i]? = some x → Pv i σ H → t { D with nx := Pv (i + 1), ct := Pv (i + 1), bk := D.nx } (σ.set j (some x)) H) : FQ (Itt K a) (gName j) t D σ H :=
  l_it walk_tup Pv h0 hl hd fun i x σ H H' hi p y => by
    obtain ⟨rfl, e⟩ := y
    exact hs i x σ _ e p
/-- the target (x, y) at a new pair -/
theorem g_pair {i1 i2 : Nat} {T : Addr} {x y : V} {R : L2.St → Hp → Prop} (h : H T = some (.tup [x, y])) (q : R ((σ.set i1 (some x)).set i2 (some y)) H) : gTup K 2 (gCons (gName i1) (gCons (gName i2) gNil)) (.ref T) σ H R :=
  ⟨T, [x, y], rfl, stO h, rfl, x, [y], rfl, y, [], rfl, rfl, q⟩
theorem g_pairS {i1 i2 : Nat} {T : Addr} {x y : V} {R : L2.St → Hp → Prop} (h : SqT K H T [x, y]) (q : R ((σ.set i1 (some x)).set i2 (some y)) H) : gTup K 2 (gCons (gName i1) (gCons (gName i2) gNil)) (.ref T) σ H R :=
  ⟨T, [x, y], rfl, h, rfl, x, [y], rfl, y, [], rfl, rfl, q⟩
theorem putK_le {c : List (Key × V)} {k : Key} {x : V} : (putK c k x).length ≤ c.length + 1 := by
  unfold putK
  split <;> simp
theorem walk_enumT : Walk (ItEt K a) xs.length (fun H => SqT K H a xs) (YPair (fun i => some (.int (i : Nat))) (fun i => xs[i]?)) := by
  refine ⟨fun i _ hi q => ⟨xs, xs[i], q, by simp [hi]⟩, fun _ q => ⟨xs, q, Nat.le_refl _⟩, fun i H v H' _ q y => ?_⟩
  obtain ⟨T, x, h1, h2, h3, h4⟩ := y
  exact ⟨T, .int (i : Nat), x, h1, h2, h3, rfl, h4 xs q⟩
def SqX (K : PySem.W.Frag) (H : Hp) (a : Addr) (xs : List V) : Prop := SqL K H a xs ∨ SqT K H a xs
theorem sx_ {H H' : Hp} {a : Addr} {xs : List V} (s : Same H H') (h : SqX K H a xs) : SqX K H' a xs := h.elim (fun h => .inl (sl_ s h)) fun h => .inr (st_ s h)
def EnQ (K : PySem.W.Frag) (R : It → Hp → Prop) (vs : List V) (H1 : Hp) : Prop := ∃ a xs, vs = [.ref a] ∧ ((SqL K H1 a xs ∧ R (Ite K a) H1) ∨ (SqT K H1 a xs ∧ R (ItEt K a) H1))
theorem i_enum0 {ta : TA} (h : ta σ H fun vs H1 => EnQ K R vs H1) : iEnumT K ta σ H R := h
theorem i_enumX {H0 : Hp} (s : SqX K H0 a xs) (ss : Same H0 H) (h : ∀ J G, (∀ H', Same H0 H' → G H') → Walk J xs.length G (YPair (fun i => some (.int (i : Nat))) (fun i => xs[i]?)) → R J H) : EnQ K R [.ref a] H :=
  ⟨a, xs, rfl, s.elim (fun s => .inl ⟨sl_ ss s, h _ _ (fun H' q => sl_ q s) walk_enum⟩) fun s => .inr ⟨st_ ss s, h _ _ (fun H' q => st_ q s) walk_enumT⟩⟩
def RvQ (K : PySem.W.Frag) (R : It → Hp → Prop) (v : V) (H1 : Hp) : Prop := ∃ (a : Addr) (xs : List V), v = .ref a ∧ ((SqL K H1 a xs ∧ R (Itv K a xs.length) H1) ∨ (SqT K H1 a xs ∧ R (ItvT K a xs.length) H1))
theorem walk_revT : Walk (ItvT K a xs.length) xs.length (fun H => SqT K H a xs) (fun i H x H' => H' = H ∧ xs[xs.length - 1 - i]? = some x) :=
  ⟨fun i _ hi q => ⟨hi, xs, xs[xs.length - 1 - i]'(by omega), q, by simp [show xs.length - 1 - i < xs.length by omega]⟩, fun _ _ => Nat.le_refl _, fun _ _ _ _ _ q y => ⟨y.1, y.2 xs q⟩⟩
theorem i_revX {H0 : Hp} (s : SqX K H0 a xs) (ss : Same H0 H) (h : ∀ J G, (∀ H', Same H0 H' → G H') → Walk J xs.length G (fun i H x H' => H' = H ∧ xs[xs.length - 1 - i]? = some x) → R J H) : RvQ K R (.ref a) H :=
  ⟨a, xs, rfl, s.elim (fun s => .inl ⟨sl_ ss s, h _ _ (fun H' q => sl_ q s) walk_rev⟩) fun s => .inr ⟨st_ ss s, h _ _ (fun H' q => st_ q s) walk_revT⟩⟩
theorem i_rev0 {te : TE} (h : te σ H fun v H1 => RvQ K R v H1) : iRevA K te σ H R := h
/-- a comprehension: Pv tells of the turn, of what is made so far, of the heap, in which the list itself stands at D -/
theorem c_it {J : It} {n : Nat} {G : Hp → Prop} {Y : Nat → Hp → V → Hp → Prop} (W : Walk J n G Y) (Pv : Nat → List V → Hp → Prop) (h0 : ∀ D, H1 D = none → Pv 0 [] (upd H1 D (.lst []))) (hG : ∀ i acc H, i ≤ n → Pv i acc H → G H)
    (hd : ∀ acc D H, H1 D = none → H D = some (.lst acc) → Pv n acc H → Q (.ref D) H)
    (hs : ∀ (i : Nat) x acc H H' D, i < n → H1 D = none → H D = some (.lst acc) → Pv i acc H → Y i H x H' → g x (wipe σ vs) H' fun σ2 H2 => wipe σ2 vs = wipe σ vs ∧ tt σ2 H2 fun b H3 =>
      if b = true then te σ2 H3 fun y H4 => ∃ acc, H4 D = some (.lst acc) ∧ acc.length < sizeLine ∧ ∃ acc2, (upd H4 D (.lst (acc ++ [y]))) D = some (.lst acc2) ∧ Pv (i + 1) acc2 (upd H4 D (.lst (acc ++ [y]))) else ∃ acc2, H3 D = some (.lst acc2) ∧ Pv (i + 1) acc2 H3) : LQ J g tt te vs σ H1 Q := fun D hD =>
  lc_it W (fun i H => ∃ acc, H D = some (.lst acc) ∧ Pv i acc H) ⟨[], upd_same, h0 D hD⟩ (fun i H hi p => hG i _ H hi p.choose_spec.2) (fun i x H H' hi p y => by
    obtain ⟨acc, hp, p⟩ := p
    exact hs i x acc H H' D hi hD hp p y) (fun H p => by
    obtain ⟨acc, hp, p⟩ := p
    exact hd acc D H hD hp p)
theorem got_ {Dl : Addr} {acc : List V} {y : V} {P : List V → Hp → Prop} (h : H Dl = some (.lst acc)) (hl : acc.length < 100000) (p : P (acc ++ [y]) (upd H Dl (.lst (acc ++ [y])))) :
    ∃ acc, H Dl = some (.lst acc) ∧ acc.length < sizeLine ∧ ∃ acc2, (upd H Dl (.lst (acc ++ [y]))) Dl = some (.lst acc2) ∧ P acc2 (upd H Dl (.lst (acc ++ [y]))) :=
  ⟨acc, h, Nat.lt_of_lt_of_le hl (by decide), _, upd_same, p⟩
theorem upd_free {H0 : Hp} {Dl : Addr} {o : HO} (s : Same H0 H) (n : H0 Dl = none) : Same H0 (upd H Dl o) := fun b u e => by rw [upd_ne (ne_of_none e n)]; exact s b u e
theorem c_rng {n : Nat} (Pv : Nat → List V → Hp → Prop) (h0 : ∀ D, H1 D = none → Pv 0 [] (upd H1 D (.lst []))) (hd : ∀ acc D H, H1 D = none → H D = some (.lst acc) → Pv n acc H → Q (.ref D) H) (hw : ∀ x, wipe ((wipe σ vs).set j x) vs = wipe σ vs)
    (hs : ∀ (i : Nat) acc H D, i < n → H1 D = none → H D = some (.lst acc) → Pv i acc H → tt ((wipe σ vs).set j (some (.int (i : Int)))) H fun b H3 =>
      if b = true then te ((wipe σ vs).set j (some (.int (i : Int)))) H3 fun y H4 => ∃ acc, H4 D = some (.lst acc) ∧ acc.length < sizeLine ∧ ∃ acc2, (upd H4 D (.lst (acc ++ [y]))) D = some (.lst acc2) ∧ Pv (i + 1) acc2 (upd H4 D (.lst (acc ++ [y]))) else ∃ acc2, H3 D = some (.lst acc2) ∧ Pv (i + 1) acc2 H3) :
    LQ (Itr 0 n) (gName j) tt te vs σ H1 Q := c_it walk_range Pv h0 (fun _ _ _ _ _ => trivial) hd fun i x acc H H' D hi hD hp p y => by
  obtain ⟨rfl, rfl⟩ := y
  have e : (0 : Int) + (i : Int) = (i : Int) := Int.zero_add _
  refine ⟨hw _, ?_⟩
  dsimp only
  rw [e]; exact hs i acc _ D hi hD hp p
theorem c_lst (Pv : Nat → List V → Hp → Prop) (h0 : ∀ D, H1 D = none → Pv 0 [] (upd H1 D (.lst []))) (hl : ∀ i acc H, i ≤ xs.length → Pv i acc H → SqL K H a xs) (hd : ∀ acc D H, H1 D = none → H D = some (.lst acc) → Pv xs.length acc H → Q (.ref D) H) (hw : ∀ x, wipe ((wipe σ vs).set j x) vs = wipe σ vs)
    (hs : ∀ (i : Nat) x acc H D, xs[i]? = some x → H1 D = none → H D = some (.lst acc) → Pv i acc H → tt ((wipe σ vs).set j (some x)) H fun b H3 =>
      if b = true then te ((wipe σ vs).set j (some x)) H3 fun y H4 => ∃ acc, H4 D = some (.lst acc) ∧ acc.length < sizeLine ∧ ∃ acc2, (upd H4 D (.lst (acc ++ [y]))) D = some (.lst acc2) ∧ Pv (i + 1) acc2 (upd H4 D (.lst (acc ++ [y]))) else ∃ acc2, H3 D = some (.lst acc2) ∧ Pv (i + 1) acc2 H3) :
    LQ (Itl K a) (gName j) tt te vs σ H1 Q := c_it walk_list Pv h0 hl hd fun i x acc H H' D hi hD hp p y => by
  obtain ⟨rfl, e⟩ := y
  exact ⟨hw _, hs i x acc _ D e hD hp p⟩
theorem c_tup (Pv : Nat → List V → Hp → Prop) (h0 : ∀ D, H1 D = none → Pv 0 [] (upd H1 D (.lst []))) (hl : ∀ i acc H, i ≤ xs.length → Pv i acc H → SqT K H a xs) (hd : ∀ acc D H, H1 D = none → H D = some (.lst acc) → Pv xs.length acc H → Q (.ref D) H) (hw : ∀ x, wipe ((wipe σ vs).set j x) vs = wipe σ vs)
    (hs : ∀ (i : Nat) x acc H D, xs[i]? = some x → H1 D = none → H D = some (.lst acc) → Pv i acc H → tt ((wipe σ vs).set j (some x)) H fun b H3 =>
      if b = true then te ((wipe σ vs).set j (some x)) H3 fun y H4 => ∃ acc, H4 D = some (.lst acc) ∧ acc.length < sizeLine ∧ ∃ acc2, (upd H4 D (.lst (acc ++ [y]))) D = some (.lst acc2) ∧ Pv (i + 1) acc2 (upd H4 D (.lst (acc ++ [y]))) else ∃ acc2, H3 D = some (.lst acc2) ∧ Pv (i + 1) acc2 H3) :
    LQ (Itt K a) (gName j) tt te vs σ H1 Q := c_it walk_tup Pv h0 hl hd fun i x acc H H' D hi hD hp p y => by
  obtain ⟨rfl, e⟩ := y
  exact ⟨hw _, hs i x acc _ D e hD hp p⟩
theorem e_yes {R : Bool → Hp → Prop} (q : R true H) : tYes σ H R := q
/-- a dict comprehension over a list -/
def DQ (J : It) (g : TG) (tt : TT) (tk tv : TE) (vs : List Nat) (σ : L2.St) (H1 : Hp) (Q : VK) : Prop := ∀ D, H1 D = none → ∃ W : Nat → Nat → Hp → Prop, (∃ m, W 0 m (upd H1 D (.dK []))) ∧ ∀ i m H, W i m H →
  (J.stop i H ∧ Q (.ref D) H) ∨ (J.go i H ∧ ∃ Nx : Hp → Prop, (∀ H', Nx H' → ∃ m', m' < m ∧ W (i + 1) m' H') ∧ ∀ x H', J.yld i H x H' → g x (wipe σ vs) H' fun σ2 H2 => wipe σ2 vs = wipe σ vs ∧ tt σ2 H2 fun b H3 =>
    if b = true then tk σ2 H3 fun y H4 => tv σ2 H4 fun z H5 => ∃ kvs k, y = kV k ∧ H5 D = some (.dK kvs) ∧ kvs.length < sizeLine ∧ Nx (upd H5 D (.dK (putK kvs k z))) else Nx H3)
theorem e_dc {tk tv : TE} (h : wi σ H fun J H1 => DQ J g tt tk tv vs σ H1 Q) : tDc wi g tt tk tv vs σ H Q := h
theorem d_it {J : It} {n : Nat} {G : Hp → Prop} {Y : Nat → Hp → V → Hp → Prop} {tk tv : TE} (W : Walk J n G Y) (Pv : Nat → List (Key × V) → Hp → Prop) (h0 : ∀ D, H1 D = none → Pv 0 [] (upd H1 D (.dK []))) (hG : ∀ i acc H, i ≤ n → Pv i acc H → G H)
    (hd : ∀ acc D H, H1 D = none → H D = some (.dK acc) → Pv n acc H → Q (.ref D) H)
    (hs : ∀ (i : Nat) x acc H H' D, i < n → H1 D = none → H D = some (.dK acc) → Pv i acc H → Y i H x H' → g x (wipe σ vs) H' fun σ2 H2 => wipe σ2 vs = wipe σ vs ∧ tt σ2 H2 fun b H3 =>
      if b = true then tk σ2 H3 fun y H4 => tv σ2 H4 fun z H5 => ∃ kvs k, y = kV k ∧ H5 D = some (.dK kvs) ∧ kvs.length < sizeLine ∧ ∃ acc2, (upd H5 D (.dK (putK kvs k z))) D = some (.dK acc2) ∧ Pv (i + 1) acc2 (upd H5 D (.dK (putK kvs k z))) else ∃ acc2, H3 D = some (.dK acc2) ∧ Pv (i + 1) acc2 H3) : DQ J g tt tk tv vs σ H1 Q := fun D hD => by
  refine ⟨fun i m H => m = n - i ∧ i ≤ n ∧ ∃ acc, H D = some (.dK acc) ∧ Pv i acc H, ⟨n, rfl, Nat.zero_le _, [], upd_same, h0 D hD⟩, ?_⟩
  rintro i m H ⟨rfl, hi, acc, hp, p⟩
  have q := hG i acc H hi p
  by_cases hlt : i < n
  · exact .inr ⟨W.goes i H hlt q, fun H => ∃ acc, H D = some (.dK acc) ∧ Pv (i + 1) acc H, fun H' p' => ⟨n - (i + 1), by omega, rfl, hlt, p'⟩, fun x H' y => hs i x acc H H' D hlt hD hp p (W.yields i H x H' hlt q y)⟩
  · have e : i = n := by omega
    subst e
    exact .inl ⟨W.stops H q, hd acc D H hD hp p⟩
theorem dgot_ {Dl : Addr} {acc : List (Key × V)} {z : V} {k : Key} {P : List (Key × V) → Hp → Prop} (h : H Dl = some (.dK acc)) (hl : acc.length < 100000) (p : P (putK acc k z) (upd H Dl (.dK (putK acc k z)))) :
    ∃ kvs k', kV k = kV k' ∧ H Dl = some (.dK kvs) ∧ kvs.length < sizeLine ∧ ∃ acc2, (upd H Dl (.dK (putK kvs k' z))) Dl = some (.dK acc2) ∧ P acc2 (upd H Dl (.dK (putK kvs k' z))) :=
  ⟨acc, k, rfl, h, Nat.lt_of_lt_of_le hl (by decide), _, upd_same, p⟩
theorem atI_map {ns : List Int} {z : Int} (i : Nat) (e : z = (i : Nat)) (h : i < ns.length) : atI (ns.map V.int) z = some (.int (ns.getD i 0)) := atI_in e (by
  rw [List.getElem?_map, List.getElem?_eq_getElem h, List.getD_eq_getElem?_getD, List.getElem?_eq_getElem h]; rfl)
theorem atI_neg {α : Type} {xs : List α} {x : α} (h0 : 0 < xs.length) (h : xs[xs.length - 1]? = some x) : atI xs (-1) = some x := by
  have e : ixN xs.length (-1) = some (xs.length - 1) := by
    unfold ixN
    rw [if_neg (by omega), if_pos (by omega)]
    congr 1; omega
  unfold atI
  rw [e]; exact h
theorem atI_negI {ns : List Int} (h0 : 0 < ns.length) : atI (ns.map V.int) (-1) = some (.int (ns.getD (ns.length - 1) 0)) := atI_neg (by simpa using h0) (by
  rw [List.length_map, List.getElem?_map, List.getD_eq_getElem?_getD, List.getElem?_eq_getElem (by omega)]; rfl)
theorem getD_mem {ns : List Int} {i : Nat} (h : i < ns.length) : ns.getD i 0 ∈ ns := by
  rw [List.getD_eq_getElem?_getD, List.getElem?_eq_getElem h]; exact List.getElem_mem h
theorem while_ {c : TT} {μ : L2.St → Hp → Nat} (Pv : L2.St → Hp → Prop) (h0 : Pv σ H)
    (hs : ∀ σ H, Pv σ H → c σ H fun b H1 => if b = true then t { D with nx := fun σ' H' => Pv σ' H' ∧ μ σ' H' < μ σ H, ct := fun σ' H' => Pv σ' H' ∧ μ σ' H' < μ σ H, bk := D.nx } σ H1 else D.nx σ H1)
    (mono : ∀ σ H Q Q', (∀ b H1, Q b H1 → Q' b H1) → c σ H Q → c σ H Q') : tWhile c t D σ H := while_by Pv μ h0 hs mono
theorem same_oth {f : Addr} {H0 H2 : Hp} (n : H0 f = none) (s : Same H0 H) (o : Oth f H H2) : Same H0 H2 := fun b u e => o b u (ne_of_none e n) (s b u e)
theorem e_bm {T : String} {r : V → List V → Hp → VK → Prop} {to : TE} {ts : TA} (h : to σ H fun x H1 => tyV K T x H1 ∧ ts σ H1 fun xs H2 => r x xs H2 Q) : tBM K T r to ts σ H Q := h
theorem ty_lst {f : Addr} {R : Prop} (h : H f = some (.lst xs)) (q : R) : tyV K "list" (.ref f) H ∧ R := ⟨.inl ⟨rfl, xs, slO h⟩, q⟩
theorem r_app {f : Addr} {y : V} (h : H f = some (.lst xs)) (hl : xs.length < 100000) (q : ∀ H2, Oth f H H2 → H2 f = some (.lst (xs ++ [y])) → Q .non H2) : rAppend (.ref f) [y] H Q :=
  ⟨f, xs, y, rfl, rfl, h, lt_size hl, q _ (fun b o n z => by rw [upd_ne n]; exact z) upd_same⟩
theorem o_cat {r' : R2} {l b : Addr} {ys : List V} (h1 : H l = some (.lst xs)) (h2 : H b = some (.lst ys)) (hl : xs.length + ys.length < 100000) (q : NewQ (.lst (xs ++ ys)) H Q) : rOr rIAdd (rOr rCat r') (.ref l) (.ref b) H Q := .inr (.inl ⟨l, b, xs, ys, rfl, rfl, h1, h2, le_size hl, q⟩)
theorem e_din {ty td : TE} (h : ty σ H fun y H1 => td σ H1 fun x H2 => ∃ a o, x = .ref a ∧ DGet H2 a y o ∧ Q (.bl o.isSome) H2) : tDIn ty td σ H Q := h
theorem g_din {PO : Option V → Prop} {d : Addr} {kvs : List (Key × V)} {k : Key} (h : H d = some (.dK kvs)) (q : PO (valV kvs k)) : ∃ a o, V.ref d = .ref a ∧ DGet H a (kV k) o ∧ PO o := ⟨d, _, rfl, DGet.k h, q⟩
theorem e_sl {r : V → Option Int → Option Int → Hp → VK → Prop} {tl th : TO} (h : te σ H fun x H1 => tl σ H1 fun l H2 => th σ H2 fun u H3 => r x l u H3 Q) : tSl r te tl th σ H Q := h
theorem e_np {R : Option Int → Hp → Prop} (h : R none H) : tNoPart σ H R := h
theorem e_pt {R : Option Int → Hp → Prop} (h : te σ H fun x H1 => ∃ i, x = .int i ∧ R (some i) H1) : tPart te σ H R := h
theorem e_ptI {PI : Int → Prop} {i : Int} (h : PI i) : ∃ j, V.int i = .int j ∧ PI j := ⟨i, rfl, h⟩
theorem r_sl {lo hi : Option Int} (s : SqL K H a xs) (q : NewQ (.lst (cutV xs lo hi)) H Q) : rSlL K (.ref a) lo hi H Q := ⟨a, xs, rfl, s, q⟩
theorem cut_map {f : Int → V} (ns : List Int) (lo hi : Option Int) : ∃ ms : List Int, cutV (ns.map f) lo hi = ms.map f ∧ ms.length ≤ ns.length ∧ ∀ z ∈ ms, z ∈ ns := by
  have key : ∀ a b : Nat, ∃ ms : List Int, ((ns.map f).drop a).take b = ms.map f ∧ ms.length ≤ ns.length ∧ ∀ z ∈ ms, z ∈ ns := fun a b =>
    ⟨(ns.drop a).take b, by rw [List.map_take, List.map_drop], by rw [List.length_take, List.length_drop]; omega, fun z hz => List.mem_of_mem_drop (List.mem_of_mem_take hz)⟩
  exact key _ _
theorem eqV_int {a b : Int} : eqV (.int a) (.int b) = decide (a = b) := by
  show (a == b) = _
  by_cases h : a = b
  · rw [h]; simp
  · simp [h]
theorem inV_int {z : Int} {ns : List Int} : inV (.int z) (ns.map V.int) = decide (z ∈ ns) := by
  unfold inV
  rw [List.any_map, Bool.eq_iff_iff, List.any_eq_true, decide_eq_true_eq]
  constructor
  · rintro ⟨y, hy, e⟩
    have := eqV_int (a := y) (b := z)
    have e : eqV (.int y) (.int z) = true := e
    rw [this, decide_eq_true_eq] at e
    rw [← e]; exact hy
  · intro h
    refine ⟨z, h, ?_⟩
    show eqV (.int z) (.int z) = true
    rw [eqV_int]; simp
theorem flat_ints {ns : List Int} : (ns.map V.int).all flatV = true := by
  rw [List.all_map, List.all_eq_true]; exact fun _ _ => rfl
theorem o_inL {p : Addr} {z : Int} {ns : List Int} (s : SqL K H p (ns.map V.int)) (q : Q (.bl (decide (z ∈ ns))) H) : rIn K false (.int z) (.ref p) H Q := ⟨p, _, rfl, .inl s, rfl, flat_ints, by rw [inV_int]; exact q⟩
theorem o_inT {p : Addr} {z : Int} {ns : List Int} (s : SqT K H p (ns.map V.int)) (q : Q (.bl (decide (z ∈ ns))) H) : rIn K false (.int z) (.ref p) H Q := ⟨p, _, rfl, .inr s, rfl, flat_ints, by rw [inV_int]; exact q⟩
theorem o_niL {p : Addr} {z : Int} {ns : List Int} (s : SqL K H p (ns.map V.int)) (q : Q (.bl (decide (z ∉ ns))) H) : rIn K true (.int z) (.ref p) H Q := ⟨p, _, rfl, .inl s, rfl, flat_ints, by
  have e : (!decide (z ∈ ns)) = decide (z ∉ ns) := by simp
  rw [inV_int]; show Q (.bl (!decide (z ∈ ns))) H; rw [e]; exact q⟩
theorem o_niT {p : Addr} {z : Int} {ns : List Int} (s : SqT K H p (ns.map V.int)) (q : Q (.bl (decide (z ∉ ns))) H) : rIn K true (.int z) (.ref p) H Q := ⟨p, _, rfl, .inr s, rfl, flat_ints, by
  have e : (!decide (z ∈ ns)) = decide (z ∉ ns) := by simp
  rw [inV_int]; show Q (.bl (!decide (z ∈ ns))) H; rw [e]; exact q⟩
def SortQ (ns : List Int) (H : Hp) (Q : VK) : Prop := ∀ (ns' : List Int) p H2, ns'.Perm ns → ns'.Pairwise (· ≤ ·) → H p = none → Same H H2 → H2 p = some (.lst (ns'.map V.int)) → Q (.ref p) H2
theorem c_sortI {p : Addr} {ns : List Int} (s : SqL K H p (ns.map V.int)) (q : SortQ ns H Q) : rSortedI K [.ref p] H Q := ⟨p, ns, rfl, s, fun ns' r h1 h2 n => q ns' r _ h1 h2 n (Same.new n) upd_same⟩
theorem s_while (h : tWhile tt t D σ H) : tWhile tt t D σ H := h
end
/-! ### what a reading asks is monotone (for the parts of a comprehension): by the shape -/
section
variable {ta tb te : TE} {c d : TT}
abbrev MoE (te : TE) : Prop := ∀ σ H (R R' : VK), (∀ v H1, R v H1 → R' v H1) → te σ H R → te σ H R'
abbrev MoT (c : TT) : Prop := ∀ σ H (R R' : Bool → Hp → Prop), (∀ b H1, R b H1 → R' b H1) → c σ H R → c σ H R'
abbrev MoA (t : TA) : Prop := ∀ σ H (R R' : List V → Hp → Prop), (∀ v H1, R v H1 → R' v H1) → t σ H R → t σ H R'
abbrev Mo2 (r : R2) : Prop := ∀ x y H (R R' : VK), (∀ v H1, R v H1 → R' v H1) → r x y H R → r x y H R'
abbrev MoC (r : List V → Hp → VK → Prop) : Prop := ∀ x H (R R' : VK), (∀ v H1, R v H1 → R' v H1) → r x H R → r x H R'
abbrev MoSp (r : Sp) : Prop := ∀ x H (R R' : VK) E, (∀ v H1, R v H1 → R' v H1) → r x H R E → r x H R' E
theorem m_yes : MoT tYes := fun _ H _ _ h q => h _ _ q
theorem m_var {i : Nat} : MoE (tVar i) := fun _ H _ _ h q => q.elim fun v q => ⟨v, q.1, h _ _ q.2⟩
theorem m_c {v : V} : MoE (tC v) := fun _ H _ _ h q => h _ _ q
theorem m_op {r : R2} (hr : Mo2 r) (ha : MoE ta) (hb : MoE tb) : MoE (tOp r ta tb) := fun σ H _ _ h q => ha σ H _ _ (fun x H1 => hb σ H1 _ _ fun y H2 => hr x y H2 _ _ h) q
theorem m_test (h : MoE te) : MoT (tTest te) := fun σ H _ _ k q => h σ H _ _ (fun x H1 ⟨b, e, z⟩ => ⟨b, e, k b H1 z⟩) q
theorem m_tB (h : MoE te) : MoT (tB te) := fun σ H _ _ k q => h σ H _ _ (fun x H1 ⟨b, e, z⟩ => ⟨b, e, k b H1 z⟩) q
theorem m_nil : MoA tNil := fun _ H _ _ h q => h _ _ q
theorem m_cons {tr : TA} (ha : MoE ta) (hr : MoA tr) : MoA (tCons ta tr) := fun σ H _ _ h q => ha σ H _ _ (fun x H1 => hr σ H1 _ _ fun xs H2 => h (x :: xs) H2) q
theorem m_cb {r : List V → Hp → VK → Prop} {tt : TA} (hr : MoC r) (ht : MoA tt) : MoE (tCB r tt) := fun σ H _ _ h q => ht σ H _ _ (fun x H1 => hr x H1 _ _ h) q
theorem m_call {sp : Sp} {dvs : List V} {E : XK} {tt : TA} (hr : MoSp sp) (ht : MoA tt) : MoE (tCall sp dvs E tt) := fun σ H _ _ h q => ht σ H _ _ (fun x H1 => hr _ H1 _ _ E h) q
theorem m_or {r r' : R2} (a : Mo2 r) (b : Mo2 r') : Mo2 (rOr r r') := fun x y H _ _ h q => q.elim (fun q => .inl (a x y H _ _ h q)) fun q => .inr (b x y H _ _ h q)
theorem m_I0 {f : Int → Int → V} : Mo2 (rI0 f) := fun x y H _ _ h ⟨i, j, e1, e2, q⟩ => ⟨i, j, e1, e2, h _ _ q⟩
theorem m_I {C : Int → Int → Prop} {f : Int → Int → V} : Mo2 (rI C f) := fun x y H _ _ h ⟨i, j, e1, e2, c, q⟩ => ⟨i, j, e1, e2, c, h _ _ q⟩
theorem m_ix {K : PySem.W.Frag} : Mo2 (rIxLT K) := fun x y H _ _ h q => q.elim (fun ⟨p, xs, i, v, e1, e2, s, e, q⟩ => .inl ⟨p, xs, i, v, e1, e2, s, e, h _ _ q⟩) fun ⟨p, xs, i, v, e1, e2, s, e, q⟩ => .inr ⟨p, xs, i, v, e1, e2, s, e, h _ _ q⟩
theorem m_in {K : PySem.W.Frag} {n : Bool} : Mo2 (rIn K n) := fun x y H _ _ h ⟨p, xs, e1, s, f1, f2, q⟩ => ⟨p, xs, e1, s, f1, f2, h _ _ q⟩
theorem m_cat : Mo2 rCat := fun x y H _ _ h ⟨l, b, xs, zs, e1, e2, h1, h2, h3, q⟩ => ⟨l, b, xs, zs, e1, e2, h1, h2, h3, fun p hp => h _ _ (q p hp)⟩
theorem m_sadd : Mo2 rSAdd' := fun x y H _ _ h ⟨i, j, e1, e2, h1, q⟩ => ⟨i, j, e1, e2, h1, h _ _ q⟩
theorem m_add : Mo2 (rOr rIAdd (rOr rCat rSAdd')) := m_or m_I0 (m_or m_cat m_sadd)
theorem m_and (h1 : MoT c) (h2 : MoT d) : MoT (tAnd c d) := fun σ H _ _ k q => h1 σ H _ _ (fun b H1 z => by cases b with
  | true => rw [if_pos rfl] at z ⊢; exact h2 σ H1 _ _ k z
  | false => rw [if_neg Bool.false_ne_true] at z ⊢; exact k _ _ z) q
theorem m_int1 : MoC rInt1 := fun x H _ _ h q => q.elim (fun ⟨i, e, q⟩ => .inl ⟨i, e, h _ _ q⟩) fun ⟨i, e, q⟩ => .inr ⟨i, e, h _ _ q⟩
theorem m_abs : MoC rAbs := fun x H _ _ h ⟨i, e, q⟩ => ⟨i, e, h _ _ q⟩
end
end Vw

set_option Elab.async false
set_option linter.all false
set_option maxRecDepth 100000
set_option maxHeartbeats 4000000
namespace Vw
open PySem PySem.Spec PyProof.Rows L2
/-- a set as it is made -/
abbrev so0 (w : World) : Obj := { cls := .type "set", dict := none, data := .set #[] 0 (.fresh 0 0 (!w.params.followText "set-order")) }
abbrev li0 (l : Addr) : Obj := { cls := .type "list_iterator", data := .fields #[.ref l, .int 0 0] }
section
variable {P : Program} {w : World} {A : Around} {E : Value → Shared → Prop} {s : Shared}
/-- what the filling of a new set by a list of ints leaves -/
def Filled (w : World) (s : Shared) (ns : List Int) (s2 : Shared) : Prop := ∃ h' tk c, s2 = { s with heap := h', toks := tk } ∧ SetR w h' s.heap.objs.size (fun j => decide (j ∈ ns)) c ∧ c ≤ ns.length ∧ ∀ b o, s.heap.get? b = some o → h'.get? b = some o
abbrev fillQ (P : Program) (w : World) (A0 : Around) (E : Value → Shared → Prop) (s : Shared) (ns : List Int) : Result → Shared → Prop := wants (fun r s2 => r = Value.none ∧ Filled w s ns s2) E
theorem fill_list {A0 : Around} {l : Addr} {items : Array Value} (ns : List Int) (hh : A.handled = none) (hl : s.heap.IsList l items) (hit : IntsAre items.toList ns) (hb : ns.length + 1 < scanBound) :
    wpAny (model P w) A (Builtin.«set.__init__» ⟨[.ref s.heap.objs.size, .ref l], []⟩) (fun fin s' => match fin with | .done f => fillQ P w A0 E s ns (.ok f) s' | .again c' => c'.quiet = true ∧ codeAny (model P w) A0 c' (fillQ P w A0 E s ns) s') (fun e s' => fillQ P w A0 E s ns (.error e) s') { s with heap := s.heap.push (so0 w) } := by
  have hz : items.size = ns.length := by have q := IntsAre.length hit; rw [Array.length_toList] at q; exact q
  have hS : (s.heap.push (so0 w)).get? s.heap.objs.size = some (so0 w) := Heap.get?_push_size _ rfl
  obtain ⟨ol, hol, hcl, nl, hdl⟩ := hl
  obtain ⟨ocls, odict, odata, oslots⟩ := ol
  simp only at hcl hdl
  subst hcl hdl
  have hol' : (s.heap.push (so0 w)).get? l = some { cls := .type "list", dict := odict, data := .seq items nl, slots := oslots } := Heap.get?_push_of_some _ hol
  have ha := F.sub_list_set; have hf := F.sub_list_frozenset
  have hd : (Value.type "list" == Value.type "dict") = false := by decide
  have hl1 : (s.heap.push (so0 w)).IsList l items := ⟨_, hol', rfl, nl, rfl⟩
  unfold Builtin.«set.__init__» noKeywords Builtin.Frozenset.updateFrom
  generalize hPI : pyIter = PI
  wp_walk
  subst hPI
  refine wpAny_pyIter_list hl1 ?_
  refine (wpAny_bind (wpAny_runValue ?_))
  have hls : l < s.heap.objs.size := Heap.lt_size hol
  have hi0 : A.in1.in1.handled = none := by simp [hh]
  have hsz : (s.heap.push (so0 w)).objs.size = s.heap.objs.size + 1 := Heap.size_push ..
  have hI : l ≠ (s.heap.push (so0 w)).objs.size := by rw [hsz]; exact Nat.ne_of_lt (Nat.lt_succ_of_lt hls)
  have hSf : s.heap.objs.size ∉ [(s.heap.push (so0 w)).objs.size, l] := by
    rw [hsz]; simp only [List.mem_cons, List.not_mem_nil, or_false, not_or]
    exact ⟨Nat.ne_of_lt (Nat.lt_succ_self _), Nat.ne_of_gt hls⟩
  have hval : ∀ (i : Nat) (v : Value), items[i]? = some v → ∃ k t, ns[i]? = some k ∧ v = .int k t := fun i v hv => by
    have hi : i < ns.length := by rw [← hz]; exact (Array.getElem?_eq_some_iff.mp hv).1
    obtain ⟨t, e⟩ := PyProof.Rows.IntsAre.int_at hit i v (by rw [Array.getElem?_toList]; exact hv)
    exact ⟨ns[i], t, List.getElem?_eq_getElem hi, by rw [e, List.getD_eq_getElem?_getD, List.getElem?_eq_getElem hi] <;> rfl⟩
  refine set_update_ints ((Walks.list (by simp [hh]) _ l hI items).toS) s.heap.objs.size hSf ns hz hb hval (items.size - 0) 0 _ (by omega) (Nat.zero_le _) ⟨⟨_, Heap.get?_push_size _ rfl, rfl, rfl⟩, (hl1.push _)⟩ ?h0 ?h1
  case h0 =>
    have hg : ((s.heap.push (so0 w)).push (li0 l)).get? s.heap.objs.size = some (so0 w) := Heap.get?_push_of_some _ hS
    exact ⟨0, Nat.le_refl 0, setR_new_at hg⟩
  case h1 =>
    intro s' c' hm hc' hS'
    obtain ⟨h', g2, d', tk', os'⟩ := s'
    have eg : g2 = s.gens := hm.gens
    have ed : d' = s.drawn := hm.drawn
    have eo : os' = s.os := hm.os
    subst eg ed eo
    show wpAny _ _ _ _ _ _
    refine wpAny_pure ?_
    show wpAny _ _ (ret Value.none) _ _ _
    refine wpAny_pure ⟨rfl, h', tk', c', rfl, hS', by omega, fun b o e => ?_⟩
    have hb0 : b < s.heap.objs.size := Heap.lt_size e
    refine hm.heap b o ?_ (Heap.get?_push_of_some _ (Heap.get?_push_of_some _ e))
    simp only [List.mem_cons, List.not_mem_nil, or_false, not_or]
    exact ⟨Nat.ne_of_lt hb0, by rw [hsz]; exact Nat.ne_of_lt (Nat.lt_succ_of_lt hb0)⟩
theorem set_of_list {l : Addr} {items : Array Value} (ns : List Int) {Q : Value → Shared → Prop} (hh : A.handled = none) (hl : s.heap.IsList l items) (hit : IntsAre items.toList ns) (hb : ns.length + 1 < scanBound)
    (h : ∀ s2, Filled w s ns s2 → Q (.ref s.heap.objs.size) s2) : wpAny (model P w) A (call (.type "set") [.ref l]) Q E s := by
  obtain ⟨c, tl, hmro⟩ := F.called_set.mro
  have hmade := F.called_set.made; have hsub := F.called_set.sub
  refine wpAny_call (codeAny_of_tree (show wpAny _ _ (callAny (.type "set") _) _ _ _ from wpAny_pure ⟨Code.quiet_builtin _ (by decide +kernel), codeAny_builtin F.entry_type_call ?_⟩))
  rw [Around.under_plain (weight_type_call_type "set" [.ref l] []) rfl]
  have h1 := F.called_set.notType; have h2 := F.called_set.canCreate; have h3 := F.typeCall_set_1 (.ref l)
  repeat (any_goals (first | assumption | wp_step))
  refine codeAny_mono (code_set_led1 (.ref l) (E := E) (Q₁ := fun obj s₁ => obj = .ref s.heap.objs.size ∧ s₁ = { s with heap := s.heap.push (so0 w) }) ⟨rfl, rfl⟩) fun r s₁ hr => ?_
  rcases r with e | fl
  · exact hr
  cases fl with
  | ret obj =>
    obtain ⟨rfl, rfl⟩ := hr
    have hS : (s.heap.push (so0 w)).get? s.heap.objs.size = some (so0 w) := Heap.get?_push_size _ rfl
    have hT : Shared.TypeIs { s with heap := s.heap.push (so0 w) } (.ref s.heap.objs.size) "set" := ⟨_, hS, rfl⟩
    have hi1 := F.called_set.init.lookup; have hi2 := F.called_set.init.bind (.ref s.heap.objs.size)
    repeat (any_goals (first | assumption | wp_step))
    refine codeAny_mono (codeAny_call_builtin (R := wants (fun r s2 => r = Value.none ∧ Filled w s ns s2) E) F.called_set.init.plain F.entry_set_init (check_set_init_1 hT (fill_list ns (by first | exact hh | simp [hh]) hl hit hb))) fun r₂ s₂ hr₂ => ?_
    rcases r₂ with e | fl₂
    · exact hr₂
    cases fl₂ with
    | ret r =>
      obtain ⟨rfl, hF⟩ := hr₂
      have hF' := hF
      obtain ⟨h', tk, c, rfl, _⟩ := hF'
      repeat (any_goals (first | assumption | wp_step))
      exact h _ hF
    | _ => exact hr₂.elim
  | _ => exact hr.elim
end
/-- set(xs) of a list of ints -/
def rSetL1 (K : PySem.W.Frag) (w : World) : List V → Hp → VK → Prop := fun xs H Q => ∃ (a : Addr) (ns : List Int), xs = [.ref a] ∧ SqL K H a (ns.map V.int) ∧ ns.length < 4000 ∧
  ∀ (p : Addr) (c : Nat), c ≤ ns.length → H p = none → Q (.ref p) (upd H p (SetO w p (fun j => decide (j ∈ ns)) c))
theorem cSetL {X : Cx} {K : PySem.W.Frag} {w : World} (hc : X.calm = true) (e : X.K = K := by rfl) (ew : X.w = w := by rfl) : CallR X (.type "set") (rSetL1 K w) := by
  cases e; cases ew
  intro pins s σ H xs us Q I r h
  obtain ⟨a, ns, rfl, hq, hl, q⟩ := h
  rw [Vals.ref1 r]
  obtain ⟨its, rv, p, hz⟩ := I.list hq
  refine set_of_list ns (I.ok.hd hc) p.isList (ints_of_vals rv) (by unfold scanBound; omega) fun s2 hF => ?_
  obtain ⟨h', tk, c, rfl, R, hcn, kp⟩ := hF
  exact ⟨.ref _, upd H s.heap.objs.size (SetO X.w s.heap.objs.size (fun j => decide (j ∈ ns)) c), I.laid (t' := tk) kp (Nat.le_refl _) (setO_new R), rfl, q _ c hcn (I.hok.fresh (Nat.le_refl _))⟩
def rSortSet (w : World) : List V → Hp → VK → Prop := fun vs H Q => ∃ (a : Addr) (S : Int → Bool) (n : Nat), vs = [V.ref a] ∧ H a = some (SetO w a S n) ∧ n < 64 ∧
  ∀ (ns : List Int) (p : Addr), ns.Pairwise (· < ·) → (∀ k : Int, k ∈ ns ↔ S k = true) → ns.length = n → H p = none → Q (.ref p) (upd H p (.lst (ns.map V.int)))
theorem cSortSet {X : Cx} {w : World} (hc : X.calm = true) (ew : X.w = w := by rfl) : CallR X (.builtin "sorted") (rSortSet w) := by cases ew; exact cr_sortedSet hc
theorem c_setL {K : PySem.W.Frag} {w : World} {H : Hp} {Q : VK} {a : Addr} {ns : List Int} (s : SqL K H a (ns.map V.int)) (hl : ns.length < 4000) (q : ∀ p c H2, c ≤ ns.length → H p = none → Same H H2 → H2 p = some (SetO w p (fun j => decide (j ∈ ns)) c) → Q (.ref p) H2) : rSetL1 K w [.ref a] H Q :=
  ⟨a, ns, rfl, s, hl, fun p c hc hp => q p c _ hc hp (Same.new hp) upd_same⟩
theorem c_sortS {w : World} {H : Hp} {Q : VK} {a : Addr} {S : Int → Bool} {n : Nat} (h : H a = some (SetO w a S n)) (hn : n < 64) (q : ∀ (ns : List Int) p H2, ns.Pairwise (· < ·) → (∀ k : Int, k ∈ ns ↔ S k = true) → ns.length = n → H p = none → Same H H2 → H2 p = some (.lst (ns.map V.int)) → Q (.ref p) H2) : rSortSet w [.ref a] H Q :=
  ⟨a, S, n, rfl, h, hn, fun ns p h1 h2 h3 hp => q ns p _ h1 h2 h3 hp (Same.new hp) upd_same⟩
end Vw

set_option Elab.async false
set_option linter.all false
set_option maxRecDepth 100000
set_option maxHeartbeats 4000000
namespace Vw
open PySem PySem.Spec PyProof.Rows L2
/-! ### a name gets a dict comprehension -/
section
variable {X : Cx}
abbrev BlkAll (X : Cx) (scope : Scope) (F : Cx → Prop) : Prop := ∀ (s : Shared) (H : Hp) (C : Addr) (cl : List (Str × Addr)) (fp : List Addr), F (X.blk s H scope (compEnvC scope cl C X.env) fp)
theorem swD_true {kx vx : Expr} {gs : List Comprehension} {scope : Scope} {pos py : Pos} {y : Str} {l : Nat} {env : Env} (h1 : env.scope.kind = .function) (h2 : env.scope.names.lookup y = some .local) (h3 : (py.line == pos.line) = true)
    (h4 : (scope.names.any fun (n, k) => n == y && (k == .local || k == .cell)) = false) : swapsWith (.DictComp kx vx gs scope pos) (some (.Name y py)) l env = pure true := by
  have e1 : env.kindOf y = some .local := h2
  have e2 : env.blockKind = .function := by unfold Env.blockKind; rw [h1]; rfl
  unfold swapsWith
  simp only [e2, e1, h4, Expr.pos, h3]; rfl
theorem ps_setDc {i : Nat} {y : Str} {py : Pos} {kx vx tg iter : Expr} {ifs : List Expr} {scope : Scope} {own : List (Str × Nat)} {pos spos : Pos} {wi : TI} {g : TG} {tt : TT} {tk tv : TE} (hc : X.calm = true) (hN : X.N.Nodup) (hy : X.N[i]? = some y) (hyl : X.env.scope.names.lookup y = some .local)
    (hsw : swapsWith (.DictComp kx vx [⟨tg, iter, ifs, 0⟩] scope pos) (some (.Name y py)) spos.line X.env = pure true) (hi : PI X tg iter wi) (ok : BlkOk X.N X.env.scope scope own) (hg : BlkAll X scope fun Y => PG Y tg g) (ht : BlkAll X scope fun Y => PTs Y ifs tt)
    (hk : BlkAll X scope fun Y => PE Y kx tk) (he : BlkAll X scope fun Y => PE Y vx tv) (hs : ∀ x, foldedSetIterable iter X.env x = pure x := by intro _; rfl) : PS X (.Assign [.Name y py] (.DictComp kx vx [⟨tg, iter, ifs, 0⟩] scope pos) spos) (tAsg (tDc wi g tt tk tv (own.map (·.2))) (gName i)) := by
  refine ⟨fun pins s σ H D I h => ?_⟩
  rw [exec_Assign_Name_used _ _ _ _ hsw]
  refine wpAny_bind (wpAny_standAt (wpAny_bind ?_))
  show wpAny _ X.A (do let _ ← comprehension (.DictComp kx vx [⟨tg, iter, ifs, 0⟩] scope pos) scope X.env (firstIterPos [⟨tg, iter, ifs, 0⟩] pos) newDict false (eval iter X.env) (some (assign (.Name y py) X.env))) _ _ s
  have h2 : tDc wi g tt tk tv (own.map (·.2)) σ H (fun x H1 => gName i x σ H1 D.nx) := h
  refine wpAny_bind (thn (dc_core (Qf := fun _ s' => SP X pins D .next s') hc hN I hi ok hg ht hk he hs h2 fun L C s' m H' I' q hn f => ?_) fun _ s' hq => wpAny_pure (wpAny_pure hq))
  show wpAny _ _ (assign (.Name y py) X.env (.ref L)) _ _ _
  refine wpAny_assign_Name (store_ok2 (v := V.ref L) I' hN hy (.inl hyl) rfl (fun s2 I2 ⟨a, sb, ha⟩ => ?_) (.inr hyl))
  obtain ⟨f0, f1, f2, f3, f4, f5⟩ := f
  have hne : C ≠ a := ha.elim (fun z => z ▸ f1) fun z e => f4 y a z e.symm
  exact ⟨m, hn.sameBut sb hne, fun h3 sb3 => ⟨_, H', I2.turned (t' := s2.toks) (fun b o hb e => (sb3.2 b hb).trans e) f0 f1 f3 f4 f5, q⟩⟩
end
end Vw

set_option Elab.async false
set_option linter.all false
set_option maxRecDepth 100000
set_option maxHeartbeats 4000000
namespace Vw
open PySem PySem.Spec PyProof.Rows L2 HT
/-! ### t[::-1] of a tuple -/
section
variable {prog : Program} {w : World} {A : Around} {E : Value → Shared → Prop} {s : Shared}
theorem backAdjust (n : Nat) : Builtin.Slice.sliceAdjust none none (-1) (n : Int) = ((n : Int) - 1, -1) := by
  unfold Builtin.Slice.sliceAdjust
  rfl
theorem backPlaces (n : Nat) : Builtin.Slice.slicePlaces ((n : Int) - 1) (-1) (-1) = n := by
  unfold Builtin.Slice.slicePlaces
  have h1 : ¬ ((-1 : Int) > 0) := by decide
  simp only [h1, if_false]
  have e : ((n : Int) - 1 - -1 - 1) / (- -1) = (n : Int) - 1 := by
    rw [show (- -1 : Int) = 1 by decide, Int.ediv_one]
    omega
  split
  · rw [e]; omega
  · omega
theorem sliceApplied_back {sl : Addr} {vs : Value} {n : Nat} {Q : Int × Int × Nat → Shared → Prop} (hs : s.heap.IsSliceOf sl .none .none vs) (ps : IsPart vs (some (-1)))
    (h : Q (((n : Int) - 1), -1, n) s) : wpAny (model prog w) A (Builtin.Slice.sliceApplied (.ref sl) (pure (n : Int))) Q E s := by
  obtain ⟨os, hos, hcs, hds⟩ := id hs
  unfold Builtin.Slice.sliceApplied Builtin.Slice.sliceFields
  refine wpAny_bind (wpAny_bind (wpAny_field hos hds (x := .none) rfl (wpAny_bind (wpAny_field hos hds (x := .none) rfl (wpAny_bind (wpAny_field hos hds (x := vs) rfl (wpAny_pure ?_)))))))
  refine wpAny_bind (slicePart_ ps ?_)
  show wpAny _ _ (if ((-1 : Int) == 0) = true then _ else _) _ _ s
  rw [if_neg (by decide)]
  refine wpAny_bind (slicePart_none (wpAny_bind (slicePart_none (wpAny_bind (wpAny_pure ?_)))))
  show wpAny _ _ (match Builtin.Slice.sliceAdjust none none (-1) (n : Int) with | (lo, hi) => pure (lo, (-1 : Int), Builtin.Slice.slicePlaces lo hi (-1))) _ _ s
  rw [backAdjust n]
  show wpAny _ _ (pure (((n : Int) - 1), (-1 : Int), Builtin.Slice.slicePlaces ((n : Int) - 1) (-1) (-1))) _ _ s
  rw [backPlaces]
  exact wpAny_pure h
theorem pick_back (xs : Array Value) : ((List.range xs.size).filterMap fun (m : Nat) => xs[((xs.size : Int) - 1 + (m : Int) * (-1)).toNat]?).toArray = xs.toList.reverse.toArray := by
  have e : (List.range xs.size).filterMap (fun (m : Nat) => xs[((xs.size : Int) - 1 + (m : Int) * (-1)).toNat]?) = ((List.range xs.size).map fun k => xs.size - 1 - k).filterMap (xs[·]?) := by
    have e2 : (List.range xs.size).map (fun k => xs.size - 1 - k) = (List.range xs.size).map fun (m : Nat) => ((xs.size : Int) - 1 + (m : Int) * (-1)).toNat := by
      apply List.map_congr_left
      intro m hm
      have := List.mem_range.mp hm
      omega
    rw [e2, List.filterMap_map]
    rfl
  rw [e, PySem.W.krv_range, List.filterMap_reverse, PySem.W.krv_all]
theorem getItem_tuple_back {t sl : Addr} {items : Array Value} {vs : Value} {Q : Value → Shared → Prop} (ht : IsTup s.heap t items) (hs : s.heap.IsSliceOf sl .none .none vs) (ps : IsPart vs (some (-1)))
    (h : Q (.ref s.heap.objs.size) { s with heap := s.heap.push { cls := .type "tuple", data := .seq items.toList.reverse.toArray } })
    (hsz : items.size ≤ sizeLine) : wpAny (model prog w) A (getItem (.ref t) (.ref sl)) Q E s := by
  have htake : sizeOk (.seq items.toList.reverse.toArray) := by
    show items.toList.reverse.toArray.size ≤ sizeLine
    rw [List.size_toArray, List.length_reverse, Array.length_toList]
    exact hsz
  obtain ⟨os, hos, hcs, hds⟩ := id hs
  have hTs : s.TypeIs (.ref sl) "slice" := ⟨os, hos, hcs⟩
  unfold getItem
  try with_reducible refine wpAny_holding ?_
  first | refine wpAny_bind (wpAny_pure ?_) | skip
  refine wpAny_bind (wpAny_sequenceKey ht.typeIs (by decide) ?_)
  refine wpAny_bind (wpAny_callSpecial?_slot (name := Str.ofString "__getitem__") ht.typeIs PyProof.Rows.slot_tuple_getitem
    (wpAny_call_entry PyProof.Rows.slot_tuple_getitem ht.typeIs entry_tuple_getitem ?_ (args_tuple_getitem _ _)))
  show wpAny _ _ (Builtin.Tuple.tupleItemsOf (.ref t) >>= _) _ _ s
  refine wpAny_bind (tupleItemsOf_ ht ?_)
  refine wpAny_bind (wpAny_typeOf hTs ?_)
  rw [if_pos (by decide)]
  refine wpAny_bind (sliceApplied_back hs ps ?_)
  have hno : ¬ ((((items.size : Int) - 1) == 0 && (-1 : Int) == 1 && items.size == items.size) = true) := by
    intro q
    rw [Bool.and_eq_true, Bool.and_eq_true] at q
    exact absurd q.1.2 (by decide)
  show wpAny _ _ (if (((items.size : Int) - 1) == 0 && (-1 : Int) == 1 && items.size == items.size) = true then _ else _) _ _ s
  rw [if_neg hno, pick_back]
  first
    | exact wpAny_bind (m := Builtin.Tuple.tupleExact _) (wpAny_newObj_type (wpAny_pure ⟨_, rfl, wpAny_pure h⟩) htake)
    | exact wpAny_bind (m := Builtin.Tuple.tupleExact _) (wpAny_newObj_type (wpAny_bind (wpAny_pure (wpAny_pure ⟨_, rfl, wpAny_pure h⟩))) htake)
    | exact wpAny_bind (wpAny_bind (m := Builtin.Tuple.tupleExact _) (wpAny_newObj_type (wpAny_pure (wpAny_pure ⟨_, rfl, wpAny_pure h⟩)) htake))
    | exact wpAny_bind (wpAny_bind (m := Builtin.Tuple.tupleExact _) (wpAny_newObj_type (wpAny_pure ⟨_, rfl, wpAny_pure h⟩) htake))
end
section
variable {X : Cx}
def tRevT (K : PySem.W.Frag) (te : TE) : TE := fun σ H Q => te σ H fun x H1 => ∃ a xs, x = .ref a ∧ SqT K H1 a xs ∧ ∀ p, H1 p = none → Q (.ref p) (upd H1 p (.tup xs.reverse))
theorem pe_revT {K : PySem.W.Frag} {e : Expr} {te : TE} {k : Nat} {p1 p2 p3 pos : Pos} (he : PE X e te) (eK : X.K = K := by rfl) : PE X (.Subscript e (.Slice none none (some (.UnaryOp .USub (.Constant (.int 1) k p1) p2)) p3) pos) (tRevT K te) := by
  cases eK
  refine ⟨fun pins s σ H Q I h => ?_⟩
  refine Subscript_ (thn (he.run pins s σ H _ I h) fun v s1 ⟨x, H1, I1, r1, q1⟩ => ?_)
  obtain ⟨a, xs, ex, hx, q⟩ := q1
  subst ex
  cases r1
  have hst : PO X (some (.UnaryOp .USub (.Constant (.int 1) k p1) p2)) (tPart (tUn (rU fun i => .int (-i)) (tC (.int 1)))) := po_some (pe_un un_neg pe_int)
  refine wpAny_Slice (thn (po_none.run pins s1 σ H1 (fun o H2 => o = none ∧ H2 = H1) I1 ⟨rfl, rfl⟩) fun vl s2 ⟨l, H2, I2, pl, el, e2⟩ => ?_)
  subst el e2
  cases pl
  refine thn (po_none.run pins s2 σ H2 (fun o H3 => o = none ∧ H3 = H2) I2 ⟨rfl, rfl⟩) fun vu s3 ⟨u, H3, I3, pu, eu, e3⟩ => ?_
  subst eu e3
  cases pu
  refine thn (hst.run pins s3 σ H3 (fun o H4 => o = some (-1) ∧ H4 = H3) I3 ⟨1, rfl, -1, rfl, rfl, rfl⟩) fun vs s4 ⟨o, H4, I4, ps, eo, e4⟩ => ?_
  subst eo e4
  have I5 : Inv X pins σ H4 { s4 with heap := s4.heap.push { cls := .type "slice", data := .fields #[.none, .none, vs] } } := I4.kept (t' := s4.toks) fun b ob q => Heap.get?_push_of_some _ q
  obtain ⟨its, r, ht, hz⟩ := I5.tuple hx
  have hlen := r.length
  show wpAny (model X.prog X.w) X.A (subscriptTail e (.Slice none none (some (.UnaryOp .USub (.Constant (.int 1) k p1) p2)) p3) (.ref a) (.ref s4.heap.objs.size)) (EP X pins σ Q) X.xe { s4 with heap := s4.heap.push { cls := .type "slice", data := .fields #[.none, .none, vs] } }
  refine tail_any (ops := [.ref a, .ref s4.heap.objs.size]) ht.typeIs (PyProof.Rows.slot_tuple_getitem.lookup) ?_ (by with_unfolding_all rfl)
  refine getItem_tuple_back ht (Heap.IsSliceOf.new _ .none .none vs) ps ?_ (by rw [List.size_toArray]; omega)
  refine ⟨.ref _, _, I5.laid (t' := s4.toks) (o := .tup xs.reverse) (fun b ob q => Heap.get?_push_of_some _ q) (Nat.le_refl _) ?_, rfl, q _ (I5.hok.fresh (Nat.le_refl _))⟩
  exact ⟨by rw [List.length_reverse]; exact hz, _, r.reverse, IsTup.new _ _⟩
end
end Vw

set_option Elab.async false
set_option linter.all false
set_option maxRecDepth 100000
set_option maxHeartbeats 4000000
namespace Vw
open PySem PySem.Spec PyProof.Rows L2 RT
/-! ### more rules under one name -/
section
variable {X : Cx} {K : PySem.W.Frag}
theorem oAddT (e : X.K = K := by rfl) : OpR X (binaryOp .Add) (rOr rIAdd (rOr rCat (rCatA K))) := by cases e; exact oOr op_add (oOr op_cat op_catA)
theorem slA (e : X.K = K := by rfl) : SlR X (rSlA K) := by cases e; exact sl_tupA
def rLenD : List V → Hp → VK → Prop := fun xs H Q => ∃ a kvs, xs = [V.ref a] ∧ H a = some (.dK kvs) ∧ Q (.int kvs.length) H
theorem cLenD : CallR X (.builtin "len") rLenD := call_lenD
theorem piZip {e e2 : Expr} {ta : TA} {p pos tpos : Pos} {elts : List Expr} {kk : Nat} (hg : Gl X "zip") (hm : X.mg "zip" = none) (ha : PA X [e, e2] ta) (eK : X.K = K := by rfl)
    (hs : starEach [e, e2] X.env = (false, eval e X.env) :: starEach [e2] X.env := by rfl) (hb : ((backTo pos (starEach [e2] X.env)).any fun x => x.fst) = false := by rfl) :
    PI X (.Tuple elts kk tpos) (.Call (.Name "zip" p) [e, e2] [] pos) (iZip K ta) := by cases eK; exact pi_zip hg hm ha hs hb
/-- over a list or a tuple -/
def iOr (w1 w2 : TI) : TI := fun σ H R => w1 σ H R ∨ w2 σ H R
theorem piOr {tg l : Expr} {w1 w2 : TI} (h1 : PI X tg l w1) (h2 : PI X tg l w2) : PI X tg l (iOr w1 w2) := ⟨fun pins s σ H R I h => h.elim (h1.run pins s σ H R I) (h2.run pins s σ H R I)⟩
theorem piX {tg l : Expr} {tl : TE} (hl : PE X l tl) (e : X.K = K := by rfl) : PI X tg l (iOr (iList K tl) (iTup K tl)) := piOr (piL (K := K) hl e) (piT (K := K) hl e)
end
section
variable {K : PySem.W.Frag} {σ : L2.St} {H H1 : Hp} {Q : VK} {R : It → Hp → Prop} {i : Nat} {a : Addr} {xs : List V}
theorem i_orX {H0 : Hp} (hv : σ[i]? = some (some (.ref a))) (s : SqX K H0 a xs) (ss : Same H0 H) (h : ∀ J G, (∀ H', Same H0 H' → G H') → Walk J xs.length G (fun i H x H' => H' = H ∧ xs[i]? = some x) → R J H) : iOr (iList K (tVar i)) (iTup K (tVar i)) σ H R :=
  s.elim (fun s => .inl ⟨.ref a, hv, a, rfl, ⟨xs, sl_ ss s⟩, h _ _ (fun H' q => sl_ q s) walk_list⟩) fun s => .inr ⟨.ref a, hv, a, rfl, ⟨xs, st_ ss s⟩, h _ _ (fun H' q => st_ q s) walk_tup⟩
def ZpQ (K : PySem.W.Frag) (R : It → Hp → Prop) (vs : List V) (H1 : Hp) : Prop := ∃ a b xs ys, vs = [V.ref a, V.ref b] ∧ SqL K H1 a xs ∧ SqL K H1 b ys ∧ R (Itz K a b) H1
theorem i_zip0 {ta : TA} (h : ta σ H fun vs H1 => ZpQ K R vs H1) : iZip K ta σ H R := h
theorem i_zip {b : Addr} {ys : List V} (h1 : SqL K H a xs) (h2 : SqL K H b ys) (q : R (Itz K a b) H) : ZpQ K R [.ref a, .ref b] H := ⟨a, b, xs, ys, rfl, h1, h2, q⟩
theorem e_lenD {kvs : List (Key × V)} (h : H a = some (.dK kvs)) (q : Q (.int (kvs.length : Nat)) H) : rLenD [.ref a] H Q := ⟨a, kvs, rfl, h, q⟩
theorem o_catA {r r' : R2} {b : Addr} {ys : List V} (h1 : SqT K H a xs) (h2 : SqT K H b ys) (hl : xs.length + ys.length ≤ 100000) (q : ∀ p H2, Same H H2 → SqT K H2 p (xs ++ ys) → Q (.ref p) H2) : rOr r (rOr r' (rCatA K)) (.ref a) (.ref b) H Q := by
  refine .inr (.inr ⟨a, b, xs, ys, rfl, rfl, h1, h2, Nat.le_trans hl (by decide), fun e => ?_, fun _ e => ?_, fun _ _ p n => ?_⟩)
  · subst e; exact q b H (Same.refl _) h2
  · subst e; exact q a H (Same.refl _) (by rw [List.append_nil]; exact h1)
  · exact q p _ (Same.new n) (stO upd_same)
theorem r_slA {lo hi : Option Int} (h1 : SqT K H a xs) (q : ∀ p H2 ys, Same H H2 → SqT K H2 p ys → ys.length ≤ xs.length → (∀ y ∈ ys, y ∈ xs) → Q (.ref p) H2) : rSlA K (.ref a) lo hi H Q := by
  refine ⟨a, xs, rfl, h1, fun _ => q a H xs (Same.refl _) h1 (Nat.le_refl _) fun _ h => h, fun _ p n => q p _ _ (Same.new n) (stO upd_same) ?_ ?_⟩
  · exact cutV_length xs lo hi
  · have key : ∀ a b : Nat, ∀ y ∈ (xs.drop a).take b, y ∈ xs := fun a b y hy => List.mem_of_mem_drop (List.mem_of_mem_take hy)
    exact key _ _
theorem e_revT {te : TE} (h : te σ H fun x H1 => ∃ a xs, x = .ref a ∧ SqT K H1 a xs ∧ NewQ (.tup xs.reverse) H1 Q) : tRevT K te σ H Q := h
theorem r_revT {Q : VK} (s : SqT K H a xs) (q : NewQ (.tup xs.reverse) H Q) : ∃ a' xs, V.ref a = .ref a' ∧ SqT K H a' xs ∧ NewQ (.tup xs.reverse) H Q := ⟨a, xs, rfl, s, q⟩
theorem isB_bl {x y : Bool} (q : Q (.bl (decide (x = y))) H) : rIsB (.bl x) (.bl y) H Q := ⟨x, y, rfl, rfl, q⟩
theorem notB_bl {x y : Bool} (q : Q (.bl (!decide (x = y))) H) : rNotB (.bl x) (.bl y) H Q := ⟨x, y, rfl, rfl, q⟩
theorem o_neB {r' : R2} {x y : Bool} (q : Q (.bl (!decide (x = y))) H) : rOr rNe r' (.bl x) (.bl y) H Q := .inl ⟨rfl, by
  have e : (!decide (V.bl x = V.bl y)) = !decide (x = y) := by
    cases x <;> cases y <;> rfl
  rw [e]; exact q⟩
theorem isi_dk {kvs : List (Key × V)} {n : String} (b : Bool) (h : H a = some (.dK kvs)) (e : kitB "dict" n = some b) (q : Q (.bl b) H) : rIsi K [.ref a, .ty n] H Q := isi_ (.base (.dK h)) e q
theorem e_dnew (q : ∀ p H2, H p = none → Same H H2 → H2 p = some (.dK []) → Q (.ref p) H2) : tDNewK σ H Q := fun p n => q p _ n (Same.new n) upd_same
theorem e_disp1 {i j : Int} (q : ∀ p H2, H p = none → Same H H2 → H2 p = some (.dK [(Sum.inl i, .int j)]) → Q (.ref p) H2) : tDisp [(tC (.int i), tC (.int j))] σ H Q := fun p n =>
  ⟨upd_same, [(Sum.inl i, .int j)], rfl, by show 1 ≤ 15; decide, q p _ n (upd_free (Same.new n) n) upd_same⟩
theorem i_nrr {r : Bool} {A B : Prop} (q : B) : if (!decide (r = r)) = true then A else B := by
  rw [show (!decide (r = r)) = false by simp]
  exact iteF q
end
end Vw

set_option Elab.async false
set_option linter.all false
set_option maxRecDepth 100000
set_option maxHeartbeats 4000000
namespace Vw
open PySem PySem.Spec PyProof.Rows L2 RT
/-! ### own classes and their methods -/
structure ClsAt (K : PySem.W.Frag) (mg : Str → Option Value) (x : Str) (C : Addr) : Prop where
  cl : Cls K C
  mks : PySem.W.makesIn K C = true
  kc : PySem.W.keepIn K (.ref C) = true
  g : mg x = some (.ref C)
theorem clsAt_mk {K : PySem.W.Frag} {mg : Str → Option Value} {h : Heap} {x : Str} {C : Addr} (X : K.In h) (G : h.Ns mainGlobals mg) (a : PySem.W.nsIn K mainGlobals x = some (some (.ref C)))
    (pg : PySem.W.plainGet K C Str.empty = true) (hd : PySem.W.hasDictIn K C = true) (po : PySem.W.plainOver K C = true) (sa : PySem.W.findIn K (.ref C) "__setattr__" = some (some (.builtin "object.__setattr__")))
    (mk : PySem.W.makesIn K C = true) (kc : PySem.W.keepIn K (.ref C) = true) : ClsAt K mg x C := ⟨⟨pg, hd, po, sa⟩, mk, kc, PySem.W.mg_of X G a⟩
structure MethAt (K : PySem.W.Frag) (C : Addr) (m qual : Str) (st : Stmt) (ps : List Str) where
  f : Addr
  fd : FuncData
  F : Fun K m qual st f fd
  b : Binds K fd ps []
  i : Meth K C m f
def methAt_mk {K : PySem.W.Frag} {C : Addr} {m qual : Str} {st : Stmt} {ps : List Str} {f : Addr} {od an : Option Addr} {sl : Array (Option Value)} {oc kV dc pm cd ct : Value}
    (a : PySem.W.findIn K (.ref C) m = some (some (.ref f))) (i : PySem.W.isFn K (.ref f) = true) (l : K.lookup f = some ⟨oc, od, .func (PySem.W.fnOf m qual (defArgs st) (defBody st) (defScope st) .none kV dc pm an cd ct), sl⟩) (c : PySem.W.codeIn K cd qual = true) (k : PySem.W.keepIn K (.ref f) = true)
    (b : ∀ (kV doc pm : Value) (an : Option Addr) (cdv ct : Value) (us : List Value), us.length = ps.length → bindArgs (PySem.W.fnOf m qual (defArgs st) (defBody st) (defScope st) .none kV doc pm an cdv ct) ⟨us, []⟩ = pure (ps.zip us)) : MethAt K C m qual st ps :=
  ⟨f, _, fun_mk l c k, (fun_mk (st := st) l c k).binds b, ⟨a, i, k⟩⟩
theorem MethAt.made {K : PySem.W.Frag} {mg : Str → Option Value} {x qual : Str} {C : Addr} {st : Stmt} {ps : List Str} (A : ClsAt K mg x C) (M : MethAt K C "__init__" qual st ps) : Mk K C M.f := ⟨A.mks, M.i.at_, M.i.fn, A.kc⟩
/-- an own instance at p, its fields -/
def InsAt (C : Addr) (H : Hp) (p : Addr) (fs : List (Str × V)) : Prop := ∃ dx, H p = some (.ins C dx fs)
section
variable {K : PySem.W.Frag} {σ : L2.St} {H : Hp} {Q : VK} {ta : TE} {C p : Addr} {fs : List (Str × V)} {f : Str} {v : V}
def FldQ (K : PySem.W.Frag) (f : Str) (x : V) (H1 : Hp) (Q : VK) : Prop := ∃ p C dx fs v, x = .ref p ∧ H1 p = some (.ins C dx fs) ∧ Cls K C ∧ NoAttr K C f ∧ fs.lookup f = some v ∧ Q v H1
theorem e_fld (h : ta σ H fun x H1 => FldQ K f x H1 Q) : tFld K ta f σ H Q := h
theorem o_fld (h : InsAt C H p fs) (cl : Cls K C) (na : NoAttr K C f) (e : fs.lookup f = some v) (q : Q v H) : FldQ K f (.ref p) H Q := h.elim fun dx h => ⟨p, C, dx, fs, v, rfl, h, cl, na, e, q⟩
end
section
variable {K : PySem.W.Frag} {σ : L2.St} {H : Hp} {Q : VK} {ta tv : TE} {C p : Addr} {fs : List (Str × V)} {m f : Str} {v y : V} {D : Ends}
def MethQ (C : Addr) (m : Str) (sp : Sp) (dvs : List V) (E : XK) (t : TA) (σ : L2.St) (x : V) (H1 : Hp) (Q : VK) : Prop := ∃ a dx fs, x = .ref a ∧ H1 a = some (.ins C dx fs) ∧ fs.lookup m = none ∧ t σ H1 fun vs H2 => sp (x :: (vs ++ dvs)) H2 Q E
theorem e_meth {sp : Sp} {dvs : List V} {E : XK} {t : TA} (h : ta σ H fun x H1 => MethQ C m sp dvs E t σ x H1 Q) : tMeth C m sp dvs E ta t σ H Q := h
theorem m_call0 {sp : Sp} {dvs : List V} {E : XK} {t : TA} (h : InsAt C H p fs) (e : fs.lookup m = none) (q : t σ H fun vs H2 => sp (.ref p :: (vs ++ dvs)) H2 Q E) : MethQ C m sp dvs E t σ (.ref p) H Q := h.elim fun dx h => ⟨p, dx, fs, rfl, h, e, q⟩
def SetQ (K : PySem.W.Frag) (f : Str) (y x : V) (H2 : Hp) (R : Hp → Prop) : Prop := ∃ a C dx fs, x = .ref a ∧ H2 a = some (.ins C dx fs) ∧ Cls K C ∧ NoAttr K C f ∧ fs.length < 1000 ∧ R (upd H2 a (.ins C dx (putF f y fs)))
theorem s_setf (h : tv σ H fun y H1 => ta σ H1 fun x H2 => SetQ K f y x H2 fun H3 => D.nx σ H3) : sFld K ta tv f D σ H := h
theorem s_fld {dx : Addr} {R : Hp → Prop} {x : V} (ex : x = .ref p) (h : H p = some (.ins C dx fs)) (cl : Cls K C) (na : NoAttr K C f) (l : fs.length < 1000) (q : R (upd H p (.ins C dx (putF f y fs)))) : SetQ K f y x H R := ⟨p, C, dx, fs, ex, h, cl, na, l, q⟩
end
section
variable {K : PySem.W.Frag} {σ : L2.St} {H : Hp} {Q : VK} {td ty : TE} {d : Addr} {kvs : List (Key × V)} {k : Key} {v : V}
def DgQ (x y : V) (H2 : Hp) (Q : VK) : Prop := ∃ a v, x = .ref a ∧ DGet H2 a y (some v) ∧ Q v H2
theorem e_dget (h : td σ H fun x H1 => ty σ H1 fun y H2 => DgQ x y H2 Q) : tDGet td ty σ H Q := h
theorem o_dget (h : H d = some (.dK kvs)) (e : valV kvs k = some v) (q : Q v H) : DgQ (.ref d) (kV k) H Q := ⟨d, v, rfl, e ▸ DGet.k h, q⟩
end
section
variable {X : Cx} {K : PySem.W.Frag} {e o value : Expr} {f : Str} {pos pos' : Pos} {ta tv : TE}
theorem peFld (h : PE X e ta) (hb : attributeBase e f X.env (eval e X.env) = eval e X.env) (eK : X.K = K := by rfl) : PE X (.Attribute e f pos) (tFld K ta f) := by cases eK; exact pe_fld h hb
theorem psFld (ho : PE X o ta) (hv : PE X value tv) (hs : swapsWith value (some (.Attribute o f pos')) pos.line X.env = pure false) (eK : X.K = K := by rfl) : PS X (.Assign [.Attribute o f pos'] value pos) (sFld K ta tv f) := by cases eK; exact ps_fld ho hv hs
end
theorem oth_stI {K : PySem.W.Frag} {p a C dx : Addr} {H H' : Hp} {fs : List (Str × V)} {xs : List V} (o : Oth p H H') (n : H p = some (.ins C dx fs)) (s : SqT K H a xs) : SqT K H' a xs := by
  rcases s with (s | ⟨u, s⟩) | s
  · exact .inl (.inl (o _ _ (fun z => by rw [z, n] at s; cases s) s))
  · exact .inl (.inr ⟨u, o _ _ (fun z => by rw [z, n] at s; cases s) s⟩)
  · exact .inr s
section
variable {K : PySem.W.Frag} {σ : L2.St} {H : Hp} {Q : VK} {td ty tx : TE} {d : Addr} {kvs : List (Key × V)} {k : Key} {v z : V}
def SdQ (x : V) (H1 : Hp) (R : Addr → Prop) : Prop := ∃ a, x = .ref a ∧ IsD H1 a ∧ R a
def SeQ (a : Addr) (y z : V) (H3 : Hp) (Q : VK) : Prop := ∃ (kvs : List (Key × V)) (k : Key), H3 a = some (.dK kvs) ∧ y = kV k ∧ kvs.length < sizeLine ∧ (∀ v, valV kvs k = some v → Q v H3) ∧ (valV kvs k = none → Q z (upd H3 a (.dK (putK kvs k z))))
theorem e_dsetd (h : td σ H fun x H1 => SdQ x H1 fun a => ty σ H1 fun y H2 => tx σ H2 fun z H3 => SeQ a y z H3 Q) : tDSetd td ty tx σ H Q := h
theorem o_dsetd {R : Addr → Prop} (h : H d = some (.dK kvs)) (q : R d) : SdQ (.ref d) H R := ⟨d, rfl, .inl ⟨kvs, .inl h⟩, q⟩
theorem o_dset (h : H d = some (.dK kvs)) (l : kvs.length < 100000) (q1 : ∀ v, valV kvs k = some v → Q v H) (q2 : valV kvs k = none → Q z (upd H d (.dK (putK kvs k z)))) : SeQ d (kV k) z H Q := ⟨kvs, k, h, rfl, lt_size l, q1, q2⟩
end
/-! ### texts -/
def rTx (g : Str → Bool) : V → List V → Hp → VK → Prop := fun x xs H Q => ∃ a, x = .str a ∧ xs = [] ∧ True ∧ Q (.bl (g a)) H
section
variable {X : Cx} {K : PySem.W.Frag} {o : Expr} {to : TE} {apos cpos : Pos}
theorem peIsascii (ho : PE X o to) (hbase : attributeBase o "isascii" X.env (eval o X.env) = eval o X.env := by rfl) (hline : (apos.endLine == cpos.line) = true := by rfl) (eK : X.K = K := by rfl) : PE X (.Call (.Attribute o "isascii" apos) [] [] cpos) (tBM0 K "str" (rTx Txt.isascii) to) := by
  cases eK; exact pe_bm0 PySem.F.plainAttrs_str PySem.F.slot_str_isascii PySem.F.type_str_isascii mt_isascii ho hbase hline
theorem peIsalpha (ho : PE X o to) (hbase : attributeBase o "isalpha" X.env (eval o X.env) = eval o X.env := by rfl) (hline : (apos.endLine == cpos.line) = true := by rfl) (eK : X.K = K := by rfl) : PE X (.Call (.Attribute o "isalpha" apos) [] [] cpos) (tBM0 K "str" (rTx Txt.isalpha) to) := by
  cases eK; exact pe_bm0 PySem.F.plainAttrs_str PySem.F.slot_str_isalpha PySem.F.type_str_isalpha mt_isalpha ho hbase hline
theorem peIslower (ho : PE X o to) (hbase : attributeBase o "islower" X.env (eval o X.env) = eval o X.env := by rfl) (hline : (apos.endLine == cpos.line) = true := by rfl) (eK : X.K = K := by rfl) : PE X (.Call (.Attribute o "islower" apos) [] [] cpos) (tBM0 K "str" (rTx Txt.islower) to) := by
  cases eK; exact pe_bm0 PySem.F.plainAttrs_str PySem.F.slot_str_islower PySem.F.type_str_islower mt_islower ho hbase hline
end
section
variable {K : PySem.W.Frag} {σ : L2.St} {H : Hp} {Q : VK} {to : TE} {z y : Str} {r' : R2}
theorem e_bm0 {T : String} {r : V → List V → Hp → VK → Prop} (h : to σ H fun x H1 => tyV K T x H1 ∧ r x [] H1 Q) : tBM0 K T r to σ H Q := h
theorem r_tx {g : Str → Bool} (q : Q (.bl (g z)) H) : tyV K "str" (.str z) H ∧ rTx g (.str z) [] H Q := ⟨rfl, z, rfl, rfl, trivial, q⟩
theorem e_lenS (h : z.length ≤ 100000) (q : Q (.int (z.length : Nat)) H) : rLen' K [.str z] H Q := ⟨.str z, z.length, rfl, ⟨Nat.le_trans h (by decide), rfl⟩, q⟩
theorem o_eqStr (q : Q (.bl (decide (z = y))) H) : rOr rEq r' (.str z) (.str y) H Q := .inl ⟨rfl, by
  have e : decide (V.str z = V.str y) = decide (z = y) := by
    by_cases h : z = y
    · rw [decide_eq_true h, h]; exact decide_eq_true rfl
    · rw [decide_eq_false h]; exact decide_eq_false fun q => h (V.str.inj q)
  rw [e]; exact q⟩
theorem o_neStr (q : Q (.bl (decide (z ≠ y))) H) : rOr rNe r' (.str z) (.str y) H Q := .inl ⟨rfl, by
  have e : (!decide (V.str z = V.str y)) = decide (z ≠ y) := by
    by_cases h : z = y
    · rw [decide_eq_false (show ¬ z ≠ y from fun q => q h), h, decide_eq_true rfl]; rfl
    · rw [decide_eq_true (show z ≠ y from h), decide_eq_false fun q => h (V.str.inj q)]; rfl
  rw [e]; exact q⟩
end
theorem e_dnin {σ : L2.St} {H : Hp} {Q : VK} {ty td : TE} (h : ty σ H fun y H1 => td σ H1 fun x H2 => ∃ a o, x = .ref a ∧ DGet H2 a y o ∧ Q (.bl (!o.isSome)) H2) : tDNotIn ty td σ H Q := h
theorem while_m {c : TT} {t : TS} {D : Ends} {σ : L2.St} {H : Hp} (W : Nat → L2.St → Hp → Prop) (m0 : Nat) (h0 : W m0 σ H) (hs : ∀ m σ H, W m σ H → c σ H fun b H1 => if b = true then ∃ N : L2.St → Hp → Prop, (∀ σ' H', N σ' H' → ∃ m', m' < m ∧ W m' σ' H') ∧ t { D with nx := N, ct := N, bk := D.nx } σ H1 else D.nx σ H1) : tWhile c t D σ H := ⟨W, ⟨m0, h0⟩, hs⟩
end Vw

set_option Elab.async false
set_option linter.all false
set_option maxRecDepth 100000
set_option maxHeartbeats 4000000
namespace Vw
open PySem PySem.Spec PyProof.Rows L2 RT
/-! ### an own exception without fields, made by C(), its __init__ inherited and walked as a def -/
theorem mk_endN {X : Cx} {pins : List (Addr × Obj)} {σ : L2.St} {H1 : Hp} {Q : XK} {hp hp2 h2 : Heap} {g1 g2 : Array GenState} {d1 d2 : Drawn} {t1 t2 : Nat} {os1 os2 : OsState} {a C : Addr} (T : Raises X (.ref C)) (I1 : Inv X pins σ H1 ⟨hp, g1, d1, t1, os1⟩)
    (ha : hp.objs.size ≤ a) (k : ∀ b o, hp.get? b = some o → hp2.get? b = some o) (un : Un (frs X.stack) [] (upd H1 a (exo a C none)) (upd H1 a (exo a C none)) hp2 h2) (hok : HOk X.prog X.w (upd H1 a (exo a C none)) h2) (ho : os2 = os1) (hb : AllBare g2)
    (q : Q (.ref C) none H1) : MkP X pins σ Q (.ref a) ⟨h2, g2, d2, t2, os2⟩ := by
  obtain ⟨t0, hoe⟩ := exo_at hok (upd_same : upd H1 a (exo a C none) a = some (exo a C none))
  have hn : H1 a = none := I1.hok.fresh ha
  obtain ⟨G, g1', g2'⟩ := restrict h2 fun b => decide (b ≠ a)
  have gk : ∀ b, b ≠ a → G.get? b = h2.get? b := fun b hb => g1' b (decide_eq_true hb)
  have ge : G.get? a = none := g2' a (by simp)
  have nha : ∀ {b : Addr} {o : Obj}, hp.get? b = some o → b ≠ a := fun {b o} z => Nat.ne_of_lt (Nat.lt_of_lt_of_le (Heap.lt_size z) ha)
  have up : ∀ {b : Addr}, b ≠ a → H1 b = none → upd H1 a (exo a C none) b = none := fun {b} hb n => by rw [upd_ne hb]; exact n
  have U : Un (frs X.stack) [] H1 H1 hp G := {
    keep := fun b o z n hf hx => by
      rw [gk b (nha z)]
      exact un.keep b o (k b o z) (up (nha z) n) hf hx
    slot := fun b o z n hf hx => by
      rw [gk b (nha z)]
      exact un.slot b o (k b o z) (up (nha z) n) hf hx
    free := fun b o z n hx => n
    there := fun b o z hx => by
      rw [gk b (nha z)]
      exact un.there b o (k b o z) hx
    tups := fun b xs z => z
    frzs := fun b o v z => z
    tbls := fun b ps z => ⟨#[], by rw [Array.append_empty]; exact z⟩ }
  have ea : upd H1 a (exo a C none) a = some (exo a C none) := upd_same
  have hok3 : HOk X.prog X.w H1 G := fun b o z => by
    have hba : b ≠ a := fun e => by
      rw [e, hn] at z
      cases z
    have noa : ∀ {c : Addr}, upd H1 a (exo a C none) c = some (.own b) → c ≠ a := fun {c} hc => at_ne ea hc exo_own
    exact (hok b o (by rw [upd_ne hba]; exact z)).stay (fun c v hc y => by
        have hca : c ≠ a := by
          rcases hc with hc | hc
          · rw [hc]
            exact hba
          · exact noa hc
        rw [gk c hca]
        exact y)
      (fun c hc => by rw [upd_ne (noa hc)] at hc; exact hc) (fun c xs hc => by rw [upd_ne (at_ne ea hc exo_tup)] at hc; exact hc)
  have J : Inv X pins σ H1 ⟨G, g2, d2, t2, os2⟩ := I1.call' (ch := []) ho U hok3 hb (fun b z => absurd z (by simp))
  refine ⟨a, _, _, ⟨G, g2, d2, t2, os2⟩, _, .ref C, none, rfl, J, fun b o z => ?_, ge, hoe, ⟨rfl, rfl⟩, rfl, rfl, hn, rfl, hb, T, q⟩
  by_cases hba : b = a
  · rw [hba, ge] at z
    cases z
  · exact (gk b hba).symm.trans z
/-- C(), its __init__ keeping sp, which leaves the exception as it is -/
def tMkN (C : Addr) (sp : Sp) : L2.St → Hp → XK → Prop := fun σ H Q => ∀ a, H a = none → sp [.ref a] (upd H a (exo a C none))
  (fun v H2 => v = .non ∧ H2 = upd H a (exo a C none) ∧ Q (.ref C) none H) (fun _ _ _ => False)
section
variable {X : Cx}
theorem pmk_oexN {CX : CXT} {x : Str} {C fI : Addr} {k : Nat} {fd : FuncData} {ps : List Str} {sp : Sp} {p pos : Pos} (T : OexC X.K C) (iC : PySem.W.findIn X.K (.ref C) "__init__" = some (some (.ref fI))) (tI : PySem.W.typeIn X.K (.ref fI) = some (.type "function"))
    (F1 : FnOk X.prog X.w X.K X.mg X.base CX k fI fd ps sp) (hr : Room (k + 1) X.A) (hb : Binds X.K fd ps []) (hx : Passes CX X (fun _ _ _ => False)) (hg : Gl X x) (hm : X.mg x = some (.ref C))
    (hdb : (x == ("__debug__" : Str)) = false := by decide) :
    PMk X (.Call (.Name x p) [] [] pos) (tMkN C sp) := by
  intro pins s σ H Q I h
  obtain ⟨nm, q, N, bs, bm, sn, sub, ab, col, dd, k0, k1, k2, k3, k5, hC, hbm⟩ := T.cls
  refine wpAny_Call_Name_kw (ld_glob I hg hm ?_ hdb)
  refine PySem.W.callWith_K0 I.kIn T.kC ?_
  show wpAny _ _ (call (.ref C) []) _ _ _
  obtain ⟨hp, g, dr, tk, os⟩ := s
  have hsz : hp.objs.size ≤ hp.objs.size + 1 := Nat.le_succ _
  have hn : H (hp.objs.size + 1) = none := I.hok.fresh hsz
  have hq := h (hp.objs.size + 1) hn
  have kk : ∀ b o, hp.get? b = some o → ((hp.push (PySem.W.kdv_tup [])).push (PySem.HandSPX.excO C hp.objs.size)).get? b = some o := fun b o e => Heap.get?_push_of_some _ (Heap.get?_push_of_some _ e)
  have hget : ((hp.push (PySem.W.kdv_tup [])).push (PySem.HandSPX.excO C hp.objs.size)).get? (hp.objs.size + 1) = some (PySem.HandSPX.excO C hp.objs.size) := by heap_get
  have I2 : Inv X pins σ (upd H (hp.objs.size + 1) (exo (hp.objs.size + 1) C none)) ⟨(hp.push (PySem.W.kdv_tup [])).push (PySem.HandSPX.excO C hp.objs.size), g, dr, tk, os⟩ :=
    I.laid (t' := tk) (a := hp.objs.size + 1) (o := exo (hp.objs.size + 1) C none) (h' := (hp.push (PySem.W.kdv_tup [])).push (PySem.HandSPX.excO C hp.objs.size)) kk hsz (exo_ok hget)
  have r2 : Vals [V.ref (hp.objs.size + 1)] [Value.ref (hp.objs.size + 1)] := .cons rfl .nil
  have hl : ([Value.ref (hp.objs.size + 1)] : List Value).length = ps.length := by
    have e := r2.length
    rw [F1.len _ _ _ _ hq] at e
    exact e.symm
  have bd := hb _ [Value.ref (hp.objs.size + 1)] I2.kIn (by rw [List.append_nil]; exact hl)
  rw [List.append_nil] at bd
  refine wpAny_call (PySem.HandSPX.call_own F.excBase_ValueError (fun Y => PySem.HandSPX.refsVE_contains Y bm hbm) (I.kIn _ _ hC) (PySem.W.looks_findIn I.kIn iC) (fun self => PySem.W.bind_fn I.kIn self tI) (Nat.zero_le _)
    (codeAny_mono (F1.run _ X.stack _ _ ⟨[Value.ref (hp.objs.size + 1)], []⟩ [Value.ref (hp.objs.size + 1)] _ _ (fun _ _ _ => False) (hr.make C [] []) (I2.env0.make C [] []) bd r2 hq) fun r s' hq' => ?_))
  cases r with
  | error er => exact hx pins σ _ _ er s' I2 hq'
  | ok fl =>
    cases fl with
    | ret u =>
      obtain ⟨v, H2, os2, bare2, un2, hok2, rv, ev, eH, q2⟩ := hq'
      subst ev
      subst eH
      obtain ⟨h2, g2, d2, t2, os'⟩ := s'
      exact ⟨rv, mk_endN (raises_own T.exC T.tyC) I hsz kk un2 hok2 os2 bare2 q2⟩
    | next => exact False.elim hq'
    | brk => exact False.elim hq'
    | cont => exact False.elim hq'
end
/-! ### methods of own instances called where a try is around -/
section
variable {X : Cx} {CX : CXT} {k : Nat} {C f : Addr} {fd : FuncData} {ps : List Str} {sp : Sp} {E : L2.St → XK} {m : Str} {p apos pos : Pos} {e o : Expr} {es : List Expr} {ta : TE} {t : TA}
def tMethE (C : Addr) (m : Str) (sp : Sp) (E : L2.St → XK) (to : TE) (t : TA) : TE := fun σ H Q => to σ H fun x H1 => ∃ a dx fs, x = .ref a ∧ H1 a = some (.ins C dx fs) ∧ fs.lookup m = none ∧ t σ H1 fun vs H2 => sp (x :: vs) H2 Q (E σ)
theorem pe_methE {pl : Sem Bool} (he : PE X o ta) (c : Cls X.K C) (hm : Meth X.K C m f) (F : FnOk X.prog X.w X.K X.mg X.base CX k f fd ps sp) (hr : Room k X.A) (hb : Binds X.K fd ps []) (hx : ∀ σ, PassesAt CX X σ (E σ)) (ha : PA X (e :: es) t)
    (hst : starEach (e :: es) X.env = (false, eval e X.env) :: starEach es X.env := by rfl) (hpl : (backTo pos (starEach es X.env)).any (·.1) = false := by rfl)
    (ht : eval (.Call (.Attribute o m apos) (e :: es) [] pos) X.env = (do
      let ov ← eval o X.env
      standAt apos.atName
      let (f, first) ← holding [ov] (getMethod ov m pl)
      callWith pos f first (backTo pos (starEach (e :: es) X.env)) (backToKw pos (keywordEach [] X.env))) := by rfl) :
    PE X (.Call (.Attribute o m apos) (e :: es) [] pos) (tMethE C m sp E ta t) := by
  refine ⟨fun pins s σ H Q I h => ?_⟩
  refine PySem.W.methodCall_KW (pl := pl) (thn (he.run pins s σ H _ I h) fun u s1 ⟨x, H1, I1, rx, a, dx, fs, ex, ea, l, q⟩ => ?_) ht
  subst ex
  obtain rfl : u = Value.ref a := rx
  refine getmeth_ok I1 ea c hm l ?_
  refine PySem.W.callWith_K (first := [.ref a]) (h₀ := X.base) I.ok.mod.kin hm.kp (thn (ha.run pos pins s1 σ H1 _ I1 q) fun us s2 ⟨vs, H2, I2, r, q2⟩ => ⟨I2.kIn, ?_⟩) hst hpl
  exact run_fnS (us := .ref a :: us) (vs := .ref a :: vs) F hr hb (hx σ) I2 (.cons rfl r) q2
theorem pe_methE0 {pl : Sem Bool} (he : PE X o ta) (c : Cls X.K C) (hm : Meth X.K C m f) (F : FnOk X.prog X.w X.K X.mg X.base CX k f fd ps sp) (hr : Room k X.A) (hb : Binds X.K fd ps []) (hx : ∀ σ, PassesAt CX X σ (E σ))
    (ht : eval (.Call (.Attribute o m apos) [] [] pos) X.env = (do
      let ov ← eval o X.env
      standAt apos.atName
      let (f, first) ← holding [ov] (getMethod ov m pl)
      callWith pos f first (backTo pos (starEach [] X.env)) (backToKw pos (keywordEach [] X.env))) := by rfl) :
    PE X (.Call (.Attribute o m apos) [] [] pos) (tMethE C m sp E ta tNil) := by
  refine ⟨fun pins s σ H Q I h => ?_⟩
  refine PySem.W.methodCall_KW (pl := pl) (thn (he.run pins s σ H _ I h) fun u s1 ⟨x, H1, I1, rx, a, dx, fs, ex, ea, l, q⟩ => ?_) ht
  subst ex
  obtain rfl : u = Value.ref a := rx
  refine getmeth_ok I1 ea c hm l ?_
  exact PySem.W.callWith_K0 (first := [.ref a]) I1.kIn hm.kp (run_fnS (us := [.ref a]) (vs := [.ref a]) F hr hb (hx σ) I1 (.cons rfl .nil) q)
end

/-! ### the facts of an own error class of the text -/
structure InitAt (K : PySem.W.Frag) (m qual : Str) (st : Stmt) (ps : List Str) where
  f : Addr
  fd : FuncData
  F : Fun K m qual st f fd
  b : Binds K fd ps []
structure ExcAt (K : PySem.W.Frag) (mg : Str → Option Value) (x : Str) (fI : Addr) where
  C : Addr
  g : mg x = some (.ref C)
  o : OexC K C
  i : PySem.W.findIn K (.ref C) "__init__" = some (some (.ref fI))
  t : PySem.W.typeIn K (.ref fI) = some (.type "function")
  te : PySem.W.exmOne K (.ref C) (.ref C) = some true
def initAt_mk {K : PySem.W.Frag} {m qual : Str} {st : Stmt} {ps : List Str} {f : Addr} {od an : Option Addr} {sl : Array (Option Value)} {oc kV dc pm cd ct : Value}
    (l : K.lookup f = some ⟨oc, od, .func (PySem.W.fnOf m qual (defArgs st) (defBody st) (defScope st) .none kV dc pm an cd ct), sl⟩) (c : PySem.W.codeIn K cd qual = true) (k : PySem.W.keepIn K (.ref f) = true)
    (b : ∀ (kV doc pm : Value) (an : Option Addr) (cdv ct : Value) (us : List Value), us.length = ps.length → bindArgs (PySem.W.fnOf m qual (defArgs st) (defBody st) (defScope st) .none kV doc pm an cdv ct) ⟨us, []⟩ = pure (ps.zip us)) : InitAt K m qual st ps :=
  ⟨f, _, fun_mk l c k, (fun_mk (st := st) l c k).binds b⟩
theorem exm_self {K : PySem.W.Frag} {S : Addr} (b : PySem.W.subIn K (.ref S) (.type "BaseException") = some true) (i : PySem.W.isClsIn K S = true) (t : PySem.W.typeIn K (.ref S) = some (.type "type")) (s : PySem.W.subIn K (.ref S) (.ref S) = some true) : PySem.W.exmOne K (.ref S) (.ref S) = some true := by
  unfold PySem.W.isClsIn at i
  unfold PySem.W.exmOne PySem.W.kitCls
  simp [b, i, t, s]
def excAt_mk {K : PySem.W.Frag} {mg : Str → Option Value} {h : Heap} {x : Str} {C fI f1 : Addr} {nm q : Str} {N : Addr} {bs bm : List Value} {sn : List Str} {sub : List Value} {ab : Bool} {col : Option Bool} {dd : Option Addr} {k0 k1 k2 k3 k5 : Option Value} (X : K.In h) (G : h.Ns mainGlobals mg) (a : PySem.W.nsIn K mainGlobals x = some (some (.ref C)))
    (l : K.lookup C = some (excClassObj nm q C N bs bm true sn sub ab col dd k0 k1 k2 k3 k5 "ValueError.__new__")) (hb : PySem.HandSPX.refsVE bm = true)
    (sa : PySem.W.findIn K (.ref C) "__setattr__" = some (some (.builtin "object.__setattr__"))) (exC : PySem.W.subIn K (.ref C) (.type "BaseException") = some true) (tyC : PySem.W.typeIn K (.ref C) = some (.type "type")) (kC : PySem.W.keepIn K (.ref C) = true)
    (i : PySem.W.findIn K (.ref C) "__init__" = some (some (.ref f1))) (t : PySem.W.typeIn K (.ref f1) = some (.type "function")) (hf : f1 = fI) (ic : PySem.W.isClsIn K C = true) (sc : PySem.W.subIn K (.ref C) (.ref C) = some true) : ExcAt K mg x fI :=
  ⟨C, PySem.W.mg_of X G a, ⟨⟨nm, q, N, bs, bm, sn, sub, ab, col, dd, k0, k1, k2, k3, k5, l, hb⟩, sa, exC, tyC, kC⟩, hf ▸ i, hf ▸ t, exm_self exC ic tyC sc⟩
def sp_exc_init (K : PySem.W.Frag) : Sp := fun vs H Q _ => ∃ a C, vs = [.ref a] ∧ OexC K C ∧ H a = some (exo a C none) ∧ Q .non H
theorem e_raise {C : Addr} {K : PySem.W.Frag} {σ : L2.St} {H : Hp} {Q : XK} (o : OexC K C) (q : Q (.ref C) none H) : tMkN C (sp_exc_init K) σ H Q := fun a na => ⟨a, C, rfl, o, upd_same, rfl, rfl, q⟩
theorem noAttr_mk {K : PySem.W.Frag} {C : Addr} {f : Str} (h : PySem.W.findIn K (.ref C) f = some none) : NoAttr K C f := h
end Vw

set_option Elab.async false
set_option linter.all false
set_option maxRecDepth 100000
set_option maxHeartbeats 4000000
namespace Vw
open PySem PySem.Spec PyProof.Rows L2 RT
section
variable {K : PySem.W.Frag} {σ : L2.St} {H : Hp} {Q : VK} {D : Ends} {td ty tx tv : TE} {d : Addr} {kvs : List (Key × V)} {k : Key} {v z : V} {R : Hp → Prop}
def DpQ (x y v : V) (H3 : Hp) (R : Hp → Prop) : Prop := ∃ a H4, x = .ref a ∧ DPut H3 a y v H4 ∧ R H4
theorem s_dput (h : tv σ H fun v H1 => td σ H1 fun x H2 => ty σ H2 fun y H3 => DpQ x y v H3 fun H4 => D.nx σ H4) : sDPut td ty tv D σ H := h
theorem o_dput (h : H d = some (.dK kvs)) (l : kvs.length < 100000) (q : R (upd H d (.dK (putK kvs k v)))) : DpQ (.ref d) (kV k) v H R := ⟨d, _, rfl, DPut.k h (lt_size l), q⟩
def Dg2Q (a : Addr) (y z : V) (H3 : Hp) (Q : VK) : Prop := ∃ o, DGet H3 a y o ∧ Q (o.getD z) H3
theorem e_dget2 (h : td σ H fun x H1 => SdQ x H1 fun a => ty σ H1 fun y H2 => tx σ H2 fun z H3 => Dg2Q a y z H3 Q) : tDGet2 td ty tx σ H Q := h
theorem o_dget2 (h : H d = some (.dK kvs)) (q : Q ((valV kvs k).getD z) H) : Dg2Q d (kV k) z H Q := ⟨_, DGet.k h, q⟩
def Dp1Q (a : Addr) (y : V) (H2 : Hp) (Q : VK) : Prop := ∃ kvs k v, H2 a = some (.dK kvs) ∧ y = kV k ∧ valV kvs k = some v ∧ Q v (upd H2 a (.dK (dropK kvs k)))
theorem e_dpop1 (h : td σ H fun x H1 => SdQ x H1 fun a => ty σ H1 fun y H2 => Dp1Q a y H2 Q) : tDPop1 td ty σ H Q := h
theorem o_dpop1 (h : H d = some (.dK kvs)) (e : valV kvs k = some v) (q : Q v (upd H d (.dK (dropK kvs k)))) : Dp1Q d (kV k) H Q := ⟨kvs, k, v, h, rfl, e, q⟩
theorem o_rep {r : R2} {l : Addr} {n : Nat} {xs : List V} (h : H l = some (.lst xs)) (hn : n ≤ 100000) (hl : xs.length * n ≤ 100000) (q : NewQ (.lst (List.replicate n xs).flatten) H Q) : rOr r rRep (.ref l) (.int n) H Q :=
  .inr ⟨l, n, xs, rfl, rfl, h, by omega, by omega, le_trans_size hl, q⟩
where le_trans_size {m : Nat} (h : m ≤ 100000) : m ≤ sizeLine := Nat.le_trans h (by decide)
theorem p_cons {tk tw : TE} {r : List (TE × TE)} {QP : List (V × V) → Hp → Prop} (h : tk σ H fun x H1 => tw σ H1 fun y H2 => tPairs r σ H2 fun ps H3 => QP ((x, y) :: ps) H3) : tPairs ((tk, tw) :: r) σ H QP := h
theorem p_nil {QP : List (V × V) → Hp → Prop} (h : QP [] H) : tPairs [] σ H QP := h
end
section
variable {K : PySem.W.Frag} {σ : L2.St} {H : Hp} {Q : VK} {to : TE} {C p : Addr} {fs : List (Str × V)} {m : Str} {D : Ends}
def MethEQ (C : Addr) (m : Str) (sp : Sp) (E : L2.St → XK) (t : TA) (σ : L2.St) (x : V) (H1 : Hp) (Q : VK) : Prop := ∃ a dx fs, x = .ref a ∧ H1 a = some (.ins C dx fs) ∧ fs.lookup m = none ∧ t σ H1 fun vs H2 => sp (x :: vs) H2 Q (E σ)
theorem e_methE {sp : Sp} {E : L2.St → XK} {t : TA} (h : to σ H fun x H1 => MethEQ C m sp E t σ x H1 Q) : tMethE C m sp E to t σ H Q := h
theorem m_callE {sp : Sp} {E : L2.St → XK} {t : TA} (h : InsAt C H p fs) (e : fs.lookup m = none) (q : t σ H fun vs H2 => sp (.ref p :: vs) H2 Q (E σ)) : MethEQ C m sp E t σ (.ref p) H Q := h.elim fun dx h => ⟨p, dx, fs, rfl, h, e, q⟩
theorem s_try {tb : WX → TS} {c : Value} {ts : Addr → Value → Option Addr → TS} {Wout : WX} (h : tb (wOnly K c ts Wout D) D σ H) : (fun (D : Ends) (σ : L2.St) (H : Hp) => tb (wOnly K c ts Wout D) D σ H) D σ H := h
theorem w_only {c cls : Value} {d : Option Addr} {ts : Addr → Value → Option Addr → TS} {Wout : WX} (e : PySem.W.exmOne K cls c = some true) (h : ∀ a, H a = none → ts a cls d D σ H) : wOnly K c ts Wout D cls d σ H := ⟨true, e, fun _ => h, fun z => nomatch z⟩
end
end Vw

set_option Elab.async false
set_option linter.all false
set_option maxRecDepth 100000
set_option maxHeartbeats 4000000
namespace Vw
open PySem PySem.Spec PyProof.Rows L2 RT
/-! ### list.extend of a tuple, whatever its dict and slots are -/
theorem list_extend_tup (l : Addr) (items : Array Value) (n : Nat) (b : Addr) (dd : Option Addr) (sl : Array (Option Value)) (items2 : Array Value) (n2 : Nat) (hs0 : ¬(!items.isEmpty && Builtin.List.listTooLong (items.size + items2.size)) = true) (hs1 : items.size ≤ sizeLine) (hs2 : items.size + items2.size ≤ sizeLine + 1) :
    Meets (Builtin.«list.extend» ⟨[.ref l, .ref b], []⟩) (fun _ R s => s.heap.get? l = some { cls := .type "list", dict := none, data := .seq items n, slots := #[] } ∧ s.heap.get? b = some { cls := .type "tuple", dict := dd, data := .seq items2 n2, slots := sl } ∧ R (.ok (.ret Value.none)) { s with heap := s.heap.update l (Obj.mapSeq fun x => x ++ items2), toks := s.toks }) :=
  .of_wp fun prog w A R s h => by
    obtain ⟨hp, g, d, tk, os⟩ := s; obtain ⟨hl, hb, h⟩ := h; have f1 := PySem.AutoSeq1.idx_int; have f2 := PySem.AutoSeq1.sub_tuple_tuple; have f3 := PySem.AutoSeq1.sub_list_list; have f4 := PySem.AutoSeq1.sub_tuple_list; have f5 := PySem.AutoSeq1.sub_list_tuple;
    have hz' : (items ++ items2).size ≤ sizeLine + 1 := by rw [Array.size_append]; exact hs2
    wp_walk using (wpAny_updateSeq hl rfl (hz := hs1) (_hz' := hz')), PySem.AutoSeq1.wpAny_loadPart' hl, PySem.AutoSeq1.wpAny_loadPart' hb; exact ⟨_, rfl, h⟩
def rExtT (K : PySem.W.Frag) : V → List V → Hp → VK → Prop := fun x vs H Q => ∃ l b xs zs, x = .ref l ∧ vs = [.ref b] ∧ H l = some (.lst xs) ∧ SqT K H b zs ∧ xs.length + zs.length ≤ sizeLine ∧ Q .non (upd H l (.lst (xs ++ zs)))
section
variable {X : Cx}
theorem mt_extT : MtM X "list.extend" (rExtT X.K) := by
  intro pins s σ H x vs v us Q I rx rv h
  obtain ⟨l, b, xs, zs, rfl, rfl, hH, hB, hz, q⟩ := h
  cases rx
  obtain ⟨u, rfl, ru⟩ := rv.one
  cases ru
  obtain ⟨z, its, n, r, hl, e⟩ := I.lstM hH
  obtain ⟨its2, r2, ⟨⟨cl, dd, da, sl⟩, e2, ec, n2, ed⟩, hl2⟩ := I.tuple hB
  cases ec
  cases ed
  have hl3 := r2.length
  have hsz : its.toArray.size + its2.toArray.size ≤ sizeLine := by rw [List.size_toArray, List.size_toArray]; omega
  have hlong : ¬ (!its.toArray.isEmpty && Builtin.List.listTooLong (its.toArray.size + its2.toArray.size)) = true := by
    rw [show Builtin.List.listTooLong (its.toArray.size + its2.toArray.size) = false from decide_eq_false (by omega), Bool.and_false]
    exact Bool.false_ne_true
  refine call_meets F.slot_list_extend ⟨_, e, rfl⟩ F.entry_list_extend (F.args_list_extend_2 _ _)
    (list_extend_tup l its.toArray n b dd sl its2.toArray n2 hlong (by rw [List.size_toArray]; omega) (by omega)) ⟨e, e2, ?_⟩
  refine ⟨.non, _, I.lset (its' := its ++ its2) hH e (by simp) (r.append r2) ?_, rfl, q⟩
  rw [List.length_append]
  omega
theorem mtExtT {K : PySem.W.Frag} (e : X.K = K := by rfl) : MtM X "list.extend" (rExtT K) := by cases e; exact mt_extT
/-! ### a test of a if t else b -/
def tIfT (t u v : TT) : TT := fun σ H Q => t σ H fun c H1 => if c = true then u σ H1 Q else v σ H1 Q
theorem pt_ifExp {c a b : Expr} {pos : Pos} {t u v : TT} (hc : PT X c t) (ha : PT X a u) (hb : PT X b v) : PT X (.IfExp c a b pos) (tIfT t u v) := by
  refine ⟨fun pins s σ H Q I h => ?_⟩
  refine isTrue_IfExp (thn (hc.run pins s σ H _ I h) fun d s1 ⟨H1, I1, q1⟩ => ?_)
  cases d with
  | true => exact ha.run pins s1 σ H1 Q I1 q1
  | false => exact hb.run pins s1 σ H1 Q I1 q1
/-! ### isinstance of an own class -/
theorem cIsC {K : PySem.W.Frag} {C : Addr} (c : C8.InsC K C) (e : X.K = K := by rfl) : CallR X (.builtin "isinstance") (fun xs H Q => ∃ a dx fs, xs = [.ref a, .ref C] ∧ H a = some (.ins C dx fs) ∧ Q (.bl true) H) := by
  cases e
  exact C8.call_isC c
end
section
variable {K : PySem.W.Frag} {σ : L2.St} {H : Hp} {Q : VK} {l b : Addr} {xs zs : List V} {C p : Addr} {fs : List (Str × V)} {t u v : TT} {QB : Bool → Hp → Prop} {R : It → Hp → Prop}
theorem r_extT (h : H l = some (.lst xs)) (hb : SqT K H b zs) (hl : xs.length + zs.length < 100000) (q : ∀ H2, Oth l H H2 → H2 l = some (.lst (xs ++ zs)) → Q .non H2) : rExtT K (.ref l) [.ref b] H Q :=
  ⟨l, b, xs, zs, rfl, rfl, h, hb, Nat.le_of_lt (lt_size hl), q _ (fun c o z e => by rw [upd_ne z]; exact e) upd_same⟩
theorem e_ifT (h : t σ H fun c H1 => if c = true then u σ H1 QB else v σ H1 QB) : tIfT t u v σ H QB := h
theorem o_isC (h : InsAt C H p fs) (q : Q (.bl true) H) : ∃ a dx fs, [V.ref p, V.ref C] = [.ref a, .ref C] ∧ H a = some (.ins C dx fs) ∧ Q (.bl true) H := h.elim fun dx h => ⟨p, dx, fs, rfl, h, q⟩
def Rg3Q (R : It → Hp → Prop) (vs : List V) (H1 : Hp) : Prop := ∃ (i j c : Int) (n : Nat), vs = [.int i, .int j, .int c] ∧ RgC i j c n ∧ R (Itc i c n) H1
theorem i_rng3 {ta : TA} (h : ta σ H fun vs H1 => Rg3Q R vs H1) : iRng3 ta σ H R := h
theorem i_rg3 {i j c : Int} {n : Nat} (r : RgC i j c n) (h : R (Itc i c n) H) : Rg3Q R [.int i, .int j, .int c] H := ⟨i, j, c, n, rfl, r, h⟩
end
end Vw

set_option Elab.async false
set_option linter.all false
set_option maxRecDepth 100000
set_option maxHeartbeats 4000000
namespace Vw
open PySem PySem.Spec PyProof.Rows L2 RT
/-! ### slices of tuples, the whole one too -/
theorem slT {X : Cx} {K : PySem.W.Frag} (e : X.K = K := by rfl) : SlR X (rSlA K) := by cases e; exact sl_tupA
theorem cut_nat {xs : List V} {i j : Nat} : cutV xs (some (i : Int)) (some (j : Int)) = (xs.drop i).take (j - i) := by
  unfold cutV
  rw [HT.sIx_nat, HT.sIx_nat]
  by_cases hi : i ≤ xs.length
  · rw [Nat.min_eq_left hi]
    by_cases hj : j ≤ xs.length
    · rw [Nat.min_eq_left hj]
    · rw [Nat.min_eq_right (by omega), List.take_of_length_le (by rw [List.length_drop]; omega), List.take_of_length_le (by rw [List.length_drop]; omega)]
  · rw [List.drop_of_length_le (show xs.length ≤ min i xs.length by omega), List.drop_of_length_le (show xs.length ≤ i by omega), List.take_nil, List.take_nil]
theorem cut_from {xs : List V} {i : Nat} : cutV xs (some (i : Int)) none = xs.drop i := by
  unfold cutV
  rw [HT.sIx_nat, HT.sIx_none, List.take_of_length_le (by rw [List.length_drop]; omega)]
  by_cases hi : i ≤ xs.length
  · rw [Nat.min_eq_left hi]
  · rw [Nat.min_eq_right (by omega), List.drop_of_length_le (by omega), List.drop_of_length_le (by omega)]
theorem cut_to {xs : List V} {j : Nat} : cutV xs none (some (j : Int)) = xs.take j := by
  unfold cutV
  rw [HT.sIx_nat, HT.sIx_none, List.drop_zero, Nat.sub_zero]
  by_cases hj : j ≤ xs.length
  · rw [Nat.min_eq_left hj]
  · rw [Nat.min_eq_right (by omega), List.take_of_length_le (by omega), List.take_of_length_le (by omega)]
section
variable {K : PySem.W.Frag} {H : Hp} {Q : VK} {a : Addr} {xs : List V} {lo hi : Option Int}
theorem r_slT (s : SqT K H a xs) (q : ∀ c H2, Same H H2 → SqT K H2 c (cutV xs lo hi) → Q (.ref c) H2) : rSlA K (.ref a) lo hi H Q := by
  refine ⟨a, xs, rfl, s, fun w => ?_, fun w p n => q p _ (Same.new n) (stO upd_same)⟩
  refine q a H (Same.refl _) ?_
  have e : cutV xs lo hi = xs := by
    unfold cutV
    rw [w.1, w.2, List.drop_zero, Nat.sub_zero, List.take_length]
  rw [e]; exact s
end
/-! ### range(0, n, 36) -/
theorem rsize36 {n : Nat} : Builtin.Range.rangeSize 0 (n : Int) 36 = (((n + 35) / 36 : Nat) : Int) := by
  unfold Builtin.Range.rangeSize
  simp only [show (36 : Int) > 0 by decide, if_true]
  split <;> omega
theorem fitL {i : Int} (h0 : 0 ≤ i) (h1 : i ≤ 1000000) : Builtin.Range.rangeFitsLong i = true := by
  unfold Builtin.Range.rangeFitsLong
  rw [Bool.and_eq_true, decide_eq_true_eq, decide_eq_true_eq]
  constructor <;> omega
theorem rgc36 {n : Nat} (h : n ≤ 100000) : RgC 0 (n : Int) 36 ((n + 35) / 36) := by
  refine ⟨by decide, by decide, ?_, rsize36⟩
  unfold Builtin.Range.small
  rw [rsize36]
  rw [fitL (by omega) (by omega), fitL (i := (n : Int)) (by omega) (by omega), fitL (i := 36) (by omega) (by omega), fitL (i := (((n + 35) / 36 : Nat) : Int)) (by omega) (by omega), if_pos (by decide), fitL (by omega) (by omega), Bool.or_true]
  rfl
def rIsC (C : Addr) : List V → Hp → VK → Prop := fun xs H Q => ∃ a dx fs, xs = [.ref a, .ref C] ∧ H a = some (.ins C dx fs) ∧ Q (.bl true) H
theorem cIsD {X : Cx} {K : PySem.W.Frag} {C : Addr} (c : C8.InsC K C) (e : X.K = K := by rfl) : CallR X (.builtin "isinstance") (rIsC C) := cIsC c e
theorem o_isD {C p : Addr} {H : Hp} {Q : VK} {fs : List (Str × V)} (h : InsAt C H p fs) (q : Q (.bl true) H) : rIsC C [.ref p, .ref C] H Q := h.elim fun dx h => ⟨p, dx, fs, rfl, h, q⟩
theorem peExt {X : Cx} {K : PySem.W.Frag} {o ex : Expr} {to te : TE} {apos cpos : Pos} {r : V → List V → Hp → VK → Prop} (h : PE X (.Call (.Attribute o "extend" apos) [ex] [] cpos) (tBM X.K "list" r to (tCons te tNil))) (e : X.K = K := by rfl) :
    PE X (.Call (.Attribute o "extend" apos) [ex] [] cpos) (tBM K "list" r to (tCons te tNil)) := by cases e; exact h
end Vw

set_option Elab.async false
set_option linter.all false
set_option maxRecDepth 100000
set_option maxHeartbeats 4000000
namespace Vw
open PySem PySem.Spec PyProof.Rows L2 RT
/-! ### a tuple so many times, up to 2000 -/
def rTimesT (K : PySem.W.Frag) : R2 := fun x y H Q => ∃ (a : Addr) (n : Nat) (xs : List V), x = .ref a ∧ y = .int n ∧ SqT K H a xs ∧ xs ≠ [] ∧ 2 ≤ n ∧ n ≤ 2000 ∧ xs.length ≤ 40 ∧ ∀ p, H p = none → Q (.ref p) (upd H p (.tup (List.replicate n xs).flatten))
theorem times_len {α : Type} {xs : List α} {n : Nat} (h : n ≤ 2000) (h2 : xs.length ≤ 40) : (List.replicate n xs).flatten.length ≤ sizeLine := by
  rw [PyProof.Rows.lm_len_rep_flat]
  exact Nat.le_trans (Nat.mul_le_mul h h2) (by decide)
theorem op_timesT {X : Cx} : OpR X (binaryOp .Mult) (rTimesT X.K) := by
  intro pins st σ H x y v u Q I rx ry ⟨a, n, xs, ex, ey, hT, hne, h2, hn, hz, q⟩
  subst ex ey
  cases rx
  obtain ⟨tk, rfl⟩ := ry
  obtain ⟨its, r, ⟨ob, ho, hc, m, hd⟩, hs⟩ := I.tuple hT
  obtain ⟨cls, dd, data, sl⟩ := ob
  have hc : cls = .type "tuple" := hc
  have hd : data = .seq its.toArray m := hd
  subst hc hd
  have ln : its.length = xs.length := r.length.symm
  have pos : 0 < its.length := by rw [ln]; exact List.length_pos_iff.mpr hne
  have em : its.toArray.isEmpty = false := by rw [List.isEmpty_toArray]; cases its with
    | nil => cases pos
    | cons _ _ => rfl
  have sz : its.toArray.size = xs.length := by rw [List.size_toArray, ln]
  have pm : ((its.toArray.size : Nat) : Int) * (n : Int) ≤ 80000 := by
    rw [sz, ← Int.natCast_mul]
    have := Nat.mul_le_mul hz hn
    omega
  have nn : ((n : Nat) : Int).toNat = n := Int.toNat_natCast n
  have tm : Builtin.Tuple.tupleTooMany (((its.toArray.size : Nat) : Int) * (n : Int)) = false := by
    have e : (80000 : Int) < (sizeLine : Nat) := by decide
    unfold Builtin.Tuple.tupleTooMany; exact decide_eq_false (by omega)
  have b0 : (decide ((n : Int) < -(2 ^ 63)) || decide ((n : Int) ≥ 2 ^ 63)) = false := by
    rw [Bool.or_eq_false_iff]; exact ⟨decide_eq_false (by omega), decide_eq_false (by omega)⟩
  have b1 : (its.toArray.isEmpty || (n : Int) == 1) = false := by
    rw [em, Bool.false_or, beq_eq_false_iff_ne]; omega
  have b2 : (decide ((n : Int) ≤ 0) || its.toArray.isEmpty) = false := by
    rw [em, Bool.or_false]; exact decide_eq_false (by omega)
  have fl := size_rep its n
  have road := tuple_mulW a its.toArray m dd sl (n : Int) tk b0 b1 b2 (by omega) tm (by rw [nn, fl, List.size_toArray]; exact times_len hn (by omega))
  have fin : EP X pins σ Q (.ref st.heap.objs.size) { st with heap := st.heap.push { cls := Value.type "tuple", data := Data.seq (List.replicate n its).flatten.toArray }, toks := st.toks } :=
    ⟨.ref st.heap.objs.size, _, I.laid (t' := st.toks) (o := .tup (List.replicate n xs).flatten) (fun _ _ g => Heap.get?_push_of_some _ g) (Nat.le_refl _) ⟨times_len hn hz, _, r.rep n, IsTup.new _ _⟩, rfl, q _ (I.hok.fresh (Nat.le_refl _))⟩
  exact wpAny_binaryOp_repeat_ref (T := "tuple") (U := "int") (by decide) ⟨_, ho, rfl⟩ (fun s' => typeIs_int s' (n : Int) tk) noFill_tuple_mul F.fills_int_mul F.slot_int_rmul repeat_tuple F.slot_int_index.lookup
    (call_meets F.slot_int_rmul (typeIs_int st (n : Int) tk) F.entry_int_rmul (F.args_int_rmul_2 _ _) (int_rmul_tuple (n : Int) tk a its.toArray m dd sl) ⟨ho, rfl, ⟨_, ho, rfl⟩,
      call_meets F.slot_tuple_mul ⟨_, ho, rfl⟩ F.entry_tuple_mul (F.args_tuple_mul_2 _ _) road ⟨ho, by rw [nn, fl]; exact fin⟩⟩)
theorem oTimesT {K : PySem.W.Frag} {X : Cx} (e : X.K = K := by rfl) : OpR X (binaryOp .Mult) (rTimesT K) := by cases e; exact op_timesT
section
variable {K : PySem.W.Frag} {H : Hp} {Q : VK}
theorem o_times {a : Addr} {n : Nat} {xs : List V} {i : Int} (h : SqT K H a xs) (ne : xs ≠ []) (e : i = (n : Nat)) (h2 : 2 ≤ n) (hn : n ≤ 2000) (hz : xs.length ≤ 40) (q : ∀ p H2, H p = none → Same H H2 → H2 p = some (.tup (List.replicate n xs).flatten) → Q (.ref p) H2) : rTimesT K (.ref a) (.int i) H Q :=
  ⟨a, n, xs, rfl, by rw [e], h, ne, h2, hn, hz, fun p np => q p _ np (Same.new np) upd_same⟩
end
end Vw

set_option Elab.async false
set_option linter.all false
set_option maxRecDepth 100000
set_option maxHeartbeats 4000000
namespace Vw
open PySem PySem.Spec PyProof.Rows L2 RT
/-! ### a lambda called under two handlers: told is w0, wa or wb -/
def TTwo (K : PySem.W.Frag) (CA CB : Addr) (w0 wa wb : Str) : (XK → Hp → VK → Prop) → Hp → VK → Prop := fun tl H Q =>
  tl (fun cls _ H' => ∃ b, PySem.W.exmOne K cls (.ref CA) = some b ∧ (b = true → Q (.str wa) H') ∧ (b = false → ∃ b2, PySem.W.exmOne K cls (.ref CB) = some b2 ∧ (b2 = true → Q (.str wb) H') ∧ (b2 = false → False))) H fun _ H' => Q (.str w0) H'
theorem takes_len {X : Cx} {W : WX} (t : Takes X W) : Takes X (fun c d σ H => σ.length = X.N.length → W c d σ H) := fun u s' ⟨a, B, sI, pins, σ, H, cls, d, e, I, nb, up, sky, na, os, ag, w⟩ =>
  t u s' ⟨a, B, sI, pins, σ, H, cls, d, e, I, nb, up, sky, na, os, ag, w I.len⟩
theorem two_gives {X : Cx} {x a t A B q w0 wa wb : Str} {sg : Scope} {g CA CB : Addr} {cdg : Value} {j0 j1 j2 : Nat} {p1 p2 p3 p4 p5 p6 p7 p8 p9 p10 p11 p12 p13 p14 p15 p16 p17 p18 p19 : Pos}
    (hga : sg.names.lookup A = some .globalImplicit) (hma : X.mg A = some (.ref CA)) (hda : (A == ("__debug__" : Str)) = false) (hgb : sg.names.lookup B = some .globalImplicit) (hmb : X.mg B = some (.ref CB)) (hdb : (B == ("__debug__" : Str)) = false)
    (ht : sg.names.lookup t = some .local) (hn : ([a, t] : List Str).Nodup) (hd : (t == ("__debug__" : Str)) = false) (hcd : (t == ("__classdict__" : Str)) = false) :
    LamX.GivesTo X [a, t] x sg g cdg [.Assign [.Name t p1] (.Constant (.str w0) j0 p2) p3, .Try [.Expr (.Call (.Name a p4) [] [] p5) p6] [.ExceptHandler (some (.Name A p7)) none [.Assign [.Name t p8] (.Constant (.str wa) j1 p9) p10] p11, .ExceptHandler (some (.Name B p12)) none [.Assign [.Name t p13] (.Constant (.str wb) j2 p14) p15] p16] [] [] p17, .Return (some (.Name t p18)) p19] a q (TTwo X.K CA CB w0 wa wb) := by
  intro f c' s H Q tl act hc h
  have gla : Gl (cxOf C8.CX0 X.prog X.w X.K X.mg X.base [a, t] x sg g cdg X.A X.stack s H C8.E0).nox A := hga
  have glb : Gl (cxOf C8.CX0 X.prog X.w X.K X.mg X.base [a, t] x sg g cdg X.A X.stack s H C8.E0).nox B := hgb
  have ht2 : (cxOf C8.CX0 X.prog X.w X.K X.mg X.base [a, t] x sg g cdg X.A X.stack s H C8.E0).nox.env.scope.names.lookup t = some .local := ht
  refine ⟨_, pss_cons (ps_set (X := (cxOf C8.CX0 X.prog X.w X.K X.mg X.base [a, t] x sg g cdg X.A X.stack s H C8.E0).nox) (i := 1) hn rfl (.inl ht) pe_str) (pss_cons (ps_try_many (X := (cxOf C8.CX0 X.prog X.w X.K X.mg X.base [a, t] x sg g cdg X.A X.stack s H C8.E0).nox)
      (tb := fun W D σ H => ∃ Ech : XK, (∀ cls d σ' H', σ'.length = 2 → Ech cls d H' → W cls d σ' H') ∧ σ[0]? = some (some (.ref f)) ∧ H c' = some (LamX.CodeO c' q) ∧ tl Ech H fun _ H' => D.nx σ H')
      rfl rfl takes_none5 (fun W pn xe tk _ => ?_)
      (.cons ⟨gla, hda, .inl hma⟩ (fun a oe cls d pn _ _ => pss_one (ps_set (i := 1) hn rfl (.inl ht) pe_str)) (.cons ⟨glb, hdb, .inl hmb⟩ (fun a oe cls d pn _ _ => pss_one (ps_set (i := 1) hn rfl (.inl ht) pe_str)) .nil)))
    (pss_one (ps_ret (pe_var (i := 1) rfl (.inl ht) hd hcd)))), ?_⟩
  · refine ⟨fun pins s' σ H' D I h' => ?_⟩
    obtain ⟨Ech, hW, h1, h2, h3⟩ := h'
    have hp := act (fun c d σ H => σ.length = 2 → W c d σ H) pn xe Ech p4 p5 (takes_len tk) (fun cls d σ' H' e l => hW cls d σ' H' l e)
    exact (pss_one (ps_expr (pos := p6) hp)).run pins s' σ H' D I ⟨h1, h2, h3⟩
  · have len1 : ∀ (σ' : L2.St) (v : V), σ'.length = 2 → (σ'.set 1 (some v))[1]? = some (some v) := fun σ' v l => by
      rw [List.getElem?_set_self (by omega)]
    refine ⟨fun cls _ H' => ∃ b, PySem.W.exmOne X.K cls (.ref CA) = some b ∧ (b = true → Q (.str wa) H') ∧ (b = false → ∃ b2, PySem.W.exmOne X.K cls (.ref CB) = some b2 ∧ (b2 = true → Q (.str wb) H') ∧ (b2 = false → False)), fun cls d σ' H' l ⟨b, e1, e2, e3⟩ => ⟨b, e1, fun hb a _ => ?_, fun hb => ?_⟩, rfl, hc, ?_⟩
    · exact ⟨_, len1 σ' _ l, e2 hb⟩
    · obtain ⟨b2, g1, g2, g3⟩ := e3 hb
      exact ⟨b2, g1, fun hb a _ => ⟨_, len1 σ' _ l, g2 hb⟩, fun hb => g3 hb⟩
    · refine Eq.mpr (congrArg (tl _ H) (funext fun _ => funext fun H' => propext ⟨fun ⟨v, e, z⟩ => ?_, fun z => ⟨_, rfl, z⟩⟩)) h
      have e2 : V.str w0 = v := Option.some.inj (Option.some.inj e)
      rw [e2]
      exact z
/-- the end of a law whose defs hold lambdas: of each def of the row, its code object and its empty table -/
theorem walk_ofRecs {l : PySem.W.OpenLaw} {n k : Nat} {q : Program} {loose : List Str} {XP : (Str → Option Value) → Heap → Prop} {YP : World → Heap → Prop} {d : DefRec} {K : Params → PySem.W.Frag} {CX : World → CXT} {x : Str}
    (hn : l.most = some n) (hn2 : n ≤ sizeLine) (hdf : d.params.defaults = []) (hr : Room k callerA) (hY : ∀ (w : World) (h : Heap), YP w h → (K w.params).In h)
    (F : ∀ (w : World) (mg : Str → Option Value) (fa : Addr) (h : Heap), YP w h → (K w.params).In h → h.Ns mainGlobals mg → mg d.name = some (.ref fa) →
      (∀ (y : Str) (e : DefRec) (c P : Addr), (recsOf q).find? (fun e => e.name == y) = some e → PySem.W.tabIn (K w.params) y = some (c, P) → PySem.W.CodeHd h c P ∧ h.get? P = some { cls := .none, data := .fields #[] }) → LamX.LawAtS l w (K w.params) (CX w) k n x mg fa h)
    (hCX : ∀ (w : World) (H : Hp) (s : Shared) (e : Value) (s' : Shared), CX w [] H s (fun _ _ _ => False) e s' → False) :
    PySem.W.WalkO q loose XP YP l.row.toRowW d [] (fun f vs => PySem.call f vs) := by
  refine Att.attach_callB hn hdf fun w s₀ s₁ mg mb fa o pm cd doc a vs ns G Y ho hd hcd hmg hobj hints hlen hbits hg => ?_
  have KX := hY w _ Y
  obtain ⟨fd, cs, sp, hT, nT, C, hb, hsp, hF⟩ := F w mg fa _ Y KX G.T.g hmg (fun y e c P h1 h2 => PySem.W.tab_of G.T KX h1 h2)
  exact LamX.law_callTs KX G.T.g G.T.b G.T.builtins G.T.nolimit hg hT nT C G.T.bmain hobj hints (Nat.le_trans hlen hn2) hr hF hb (fun H hH hS => hsp H a ns hlen hbits hH hS) fun H e s' => hCX w H s₁ e s'
/-- a def that makes lambdas: its code object c and the table P of it -/
structure DefAtL (K : PySem.W.Frag) (mg : Str → Option Value) (x qual : Str) (st : Stmt) (ps : List Str) extends DefAt K mg x qual st ps where
  c : Addr
  P : Addr
  ex : ∃ (oc : Value) (od : Option Addr) (kV doc pm : Value) (an : Option Addr) (ct : Value) (osl : Array (Option Value)),
    fd = PySem.W.fnOf x qual (defArgs st) (defBody st) (defScope st) .none kV doc pm an (.ref c) ct ∧ K.lookup f = some ⟨oc, od, .func fd, osl⟩ ∧ PySem.W.codeIn K (.ref c) qual = true
  tb : PySem.W.tabIn K x = some (c, P)
  nP : K.lookup P = none
def defAtL_mk {K : PySem.W.Frag} {mg : Str → Option Value} {h : Heap} {x qual : Str} {st : Stmt} {ps : List Str} {f c P : Addr} {od an : Option Addr} {sl : Array (Option Value)} {oc kV dc pm ct : Value} (X : K.In h) (G : h.Ns mainGlobals mg)
    (a : PySem.W.nsIn K mainGlobals x = some (some (.ref f))) (l : K.lookup f = some ⟨oc, od, .func (PySem.W.fnOf x qual (defArgs st) (defBody st) (defScope st) .none kV dc pm an (.ref c) ct), sl⟩) (cc : PySem.W.codeIn K (.ref c) qual = true) (k : PySem.W.keepIn K (.ref f) = true)
    (tb : PySem.W.tabIn K x = some (c, P)) (nP : K.lookup P = none)
    (b : ∀ (kV doc pm : Value) (an : Option Addr) (cdv ct : Value) (us : List Value), us.length = ps.length → bindArgs (PySem.W.fnOf x qual (defArgs st) (defBody st) (defScope st) .none kV doc pm an cdv ct) ⟨us, []⟩ = pure (ps.zip us)) : DefAtL K mg x qual st ps :=
  { defAt_mk X G a l cc k b with c := c, P := P, ex := ⟨_, _, _, _, _, _, _, _, rfl, l, cc⟩, tb := tb, nP := nP }
theorem DefAtL.ok {Pg : Program} {w : World} {K : PySem.W.Frag} {mg : Str → Option Value} {base : Heap} {x qual : Str} {st : Stmt} {N ps : List Str} {k : Nat} {sp : Sp} (D : DefAtL K mg x qual st ps) (S : FnScope N ps (defScope st)) (len : ∀ vs H Q E, sp vs H Q E → vs.length = ps.length)
    (hbody : ∀ (A : Around) (outer : List Env) (s : Shared) (H : Hp) (vs : List V) (Q : VK) (E : XK), Room k (A.deeper (envOfC qual (defScope st) s.heap.objs.size D.f (.ref D.c))) → sp vs H Q E →
      ∃ t, PSs (cxOf CX0 Pg w K mg base N qual (defScope st) D.f (.ref D.c) A outer s H E).nox (defBody st) t ∧ t { nx := fun _ H' => Q .non H', rt := Q } (start N vs) H) : FnOk Pg w K mg base CX0 (k + 1) D.f D.fd ps sp := by
  obtain ⟨oc, od, kV, doc, pm, an, ct, osl, e, lk, hcd⟩ := D.ex
  rw [e] at lk ⊢
  refine fn_of lk hcd S len fun A outer s H vs Q E hr hsp => ?_
  obtain ⟨t, h, q⟩ := hbody A outer s H vs Q E hr hsp
  exact ⟨t, h.nox, q⟩
/-- x(lambda: body), of a def known as DefAt -/
theorem pe_lamF {X : Cx} {T : List (Addr × Str)} {TT : (XK → Hp → VK → Prop) → Hp → VK → Prop} {x a n : Str} {st : Stmt} {c P : Addr} {k : Nat} {Ng : List Str} {params : Arguments} {body : Expr} {scope : Scope} {t : XK → TE} {p lpos pos : Pos}
    (hq : X.env.qual = n) (D : DefAt X.K X.mg x x st [a]) (hg : Gl X x) (Sg : FnScope Ng [a] (defScope st)) (hNg : Ng[0]? = some a) (hva : Vis (defScope st) a)
    (hG : ∀ cdv : Value, LamX.GivesTo X Ng x (defScope st) D.f cdv (defBody st) a (n ++ "<lambda>") TT)
    (TB : LamX.TabB X.base X.mg c P) (hcode : X.env.code = .ref c) (hmT : (P, n ++ "<lambda>") ∈ T) (hu : ∀ p ∈ T, p.1 = P → p.2 = n ++ "<lambda>") (hr : Room (k + 2) X.A) (L : LamX.LamS X.env.scope scope) (hdef : defaultsOf params X.env = ([], []))
    (hbind : ∀ (q : Str) (cl : List (Str × Addr)) (pm cv ctv : Value), bindArgs (PySem.W.kla_fn "<lambda>" q params body scope cl pm cv ctv) ⟨[], []⟩ = pure [])
    (hbody : ∀ (A : Around) (outer : List Env) (s : Shared) (H : Hp) (E : XK) (f c' : Addr), Room k (A.deeper (LamX.lamEnv X scope s.heap.objs.size f c')) → PE (LamX.lamCx X A outer s H E scope f c') body (t E))
    (hdb : (x == ("__debug__" : Str)) = false := by decide) (hd : (a == ("__debug__" : Str)) = false := by decide) (hcd : (a == ("__classdict__" : Str)) = false := by decide) :
    PE X (.Call (.Name x p) [.Lambda params body scope lpos] [] pos) (LamX.tLam T TT t) := by
  subst hq
  obtain ⟨f, fd, F, b, g⟩ := D
  obtain ⟨oc, od, kV, doc, pm, an, cdv, ct, osl, rfl, lk, hc2⟩ := F.ex
  exact LamX.pe_lamcall hg g F.kp lk hc2 b Sg hNg hva (hG cdv) TB hcode hmT hu hr L hdef hbind hbody hdb hd hcd
theorem nox_qual {CX : CXT} {Pg : Program} {w : World} {K : PySem.W.Frag} {mg : Str → Option Value} {base : Heap} {N : List Str} {q : Str} {sc : Scope} {f : Addr} {cdv : Value} {A : Around} {outer : List Env} {s : Shared} {H : Hp} {E : XK} :
    (cxOf CX Pg w K mg base N q sc f cdv A outer s H E).nox.env.qual = q ++ ".<locals>." := rfl
/-- what a call lets out is taken by the handlers around, whatever the slots hold by then -/
theorem passLen {X : Cx} {W : WX} (n : Nat) (tk : Takes X W) (hn : X.N.length = n) : Passes (L2.CX X.prog X.w) X (fun cls d H => ∀ σ : L2.St, σ.length = n → W cls d σ H) := passes_call (takes_len tk) (fun _ _ _ _ e l => e _ (l.trans hn))
/-- tables at places of their own -/
theorem tabs_uniq {P : Addr} {q : Str} : ∀ {l : List (Addr × Str)}, (l.map (·.1)).Nodup → (P, q) ∈ l → ∀ p ∈ l, p.1 = P → p.2 = q := by
  intro l
  induction l with
  | nil => intro _ h; cases h
  | cons a l ih =>
    intro hn hm p hp e
    rw [List.map_cons, List.nodup_cons] at hn
    rcases List.mem_cons.mp hm with h | h
    · rcases List.mem_cons.mp hp with k | k
      · rw [k, ← h]
      · exact absurd (List.mem_map.mpr ⟨p, k, by rw [e, ← h]⟩) hn.1
    · rcases List.mem_cons.mp hp with k | k
      · exact absurd (List.mem_map.mpr ⟨(P, q), h, by rw [← e, k]⟩) hn.1
      · exact ih hn.2 h p k e
end Vw

set_option Elab.async false
set_option linter.all false
set_option maxRecDepth 100000
set_option maxHeartbeats 4000000
namespace Vw
open PySem PySem.Spec PyProof.Rows L2 RT
/-! ### several handlers, each with the name of what it caught -/
abbrev HdT := Value × (Addr → Value → Option Addr → TS)
/-- the ends of a handler's suite: slot i, the name's, is empty behind it -/
def offI (i : Nat) (D : Ends) : Ends := { nx := fun σ H => D.nx (σ.set i none) H, rt := D.rt, bk := fun σ H => D.bk (σ.set i none) H, ct := fun σ H => D.ct (σ.set i none) H }
def wTells (K : PySem.W.Frag) (i : Nat) (Wo : WX) (D : Ends) : List HdT → WX
  | [] => Wo
  | h :: r => fun k d σ H => ∃ b, PySem.W.exmOne K k h.1 = some b ∧ (b = true → ∀ x, H x = none → h.2 x k d (offI i D) (σ.set i (some (.ref x))) H) ∧ (b = false → wTells K i Wo D r k d σ H)
inductive TellsOk (X : Cx) (n : Str) : List ExceptHandler → List HdT → Prop
  | nil : TellsOk X n [] []
  | cons {x : Str} {c : Value} {u : Addr → Value → Option Addr → TS} {b : Stmt} {bs : List Stmt} {p1 p2 : Pos} {hds : List ExceptHandler} {l : List HdT} (hc : Names X x c)
      (hu : ∀ (x : Addr) (o : Obj) (k : Value) (d : Option Addr) (pn : List (Addr × Obj)), Zc k d o → (∃ vs, o.data = .fields vs) → PSs (X.suite x ((x, o) :: pn)) (b :: bs) (u x k d)) (r : TellsOk X n hds l) :
      TellsOk X n (.ExceptHandler (some (.Name x p1)) (some n) (b :: bs) p2 :: hds) ((c, u) :: l)
section
variable {X : Cx} {n : Str} {i : Nat} {body : List Stmt} {h1 : ExceptHandler} {hds : List ExceptHandler} {l : List HdT} {pos : Pos} {tb : WX → TS} {Wo : WX}
theorem ps_tells (st : X.stack = X.env :: X.outer) (fr : X.env.frame = some X.env.locals) (nd : X.N.Nodup) (at_ : X.N[i]? = some n) (lo : X.env.kindOf n = some .local) (tk : Takes X Wo)
    (bo : ∀ (W : WX) (pn : List (Addr × Obj)) (xe : Value → Shared → Prop), Takes (X.tr pn xe) W → PassesOwn (model X.prog X.w) X.A X.env xe → PSs (X.tr pn xe) body (tb W))
    (hh : TellsOk X n (h1 :: hds) l) : PS X (.Try body (h1 :: hds) [] [] pos) (fun D σ H => tb (wTells X.K i Wo D l) D σ H) := by
  refine ⟨fun pins s σ H D I q0 => ?_⟩
  have kk := I.ok
  have frs2 : X.A.frames = some (X.env :: X.outer) := by rw [kk.frames, st]
  have hl2 : Loc X.env.scope n := .inl lo
  refine wpAny_Try_except ?_
  refine wpAny_mono ((bo (wTells X.K i Wo D l) (X.pn ++ pins) (fun e sa => wpAny (model X.prog X.w) X.A (noteFrame e X.env) (fun _ sb => wpAny (model X.prog X.w) X.A (setFlight e none) (fun _ sc =>
    wpAny (model X.prog X.w) X.A (handleBy e X.env (h1 :: hds)) (SP X pins D) X.xe sc) X.xe sb) X.xe sa) (fun u s' xx => ?_) PassesOwn.looking).run [] s σ H D (I.toTry _) q0) (fun f s1 hsp => ?_) (fun e s1 z => z)
  · obtain ⟨x, B, sI, _, σ2, H2, k, d, rfl, Ja, nb, up, sky, nx2, os, ag, w⟩ := xx
    have Jb : Inv X pins σ2 H2 sI := Ja.ofTry kk
    have sk2 : Sky B (X.env :: X.outer) x (Zc k d) X.env.locals s'.heap := by rw [← st]; exact sky
    show wpAny (model X.prog X.w) X.A (noteFrame (.ref x) X.env) _ _ _
    refine Sky.land Zc.steady frs2 fr sk2 fun ha fa ua => ?_
    have Jc : Inv X pins σ2 H2 { s' with heap := ha } := Jb.landed nb fa.1 (up.trans ua) os ag
    obtain ⟨oa, va, ea, za, da⟩ := fa.there
    have out : ∀ {h : Heap} {o : Obj} {vs : Array Value}, h.FunFrames B (X.env :: X.outer) → h.get? x = some o → o.data = .fields vs → x ∉ frs (X.env :: X.outer) := fun {h o vs} ff e dd m => by
      obtain ⟨_, o2, e2, nf⟩ := ff.mem m
      rw [e] at e2
      cases e2
      exact nf _ dd
    have nfa := out fa.2.2.1 ea da
    have nla : x ≠ X.env.locals := fun z => nfa (List.mem_filterMap.mpr ⟨X.env, List.mem_cons_self, by rw [fr, z]⟩)
    have nfs : x ∉ X.fs := fun m => by
      obtain ⟨e, me, q⟩ := List.mem_filterMap.mp m
      exact nfa (List.mem_filterMap.mpr ⟨e, List.mem_cons_of_mem _ me, q⟩)
    have Sa := Jc.suite ea da nx2 nla nfs
    have go : ∀ {hd2 : List ExceptHandler} {l2 : List HdT}, TellsOk X n hd2 l2 → wTells X.K i Wo D l2 k d σ2 H2 → wpAny (model X.prog X.w) X.A (handleBy (.ref x) X.env hd2) (SP X pins D) X.xe { s' with heap := ha } := by
      intro hd2 l2 ok2
      induction ok2 with
      | nil =>
        intro w2
        refine wpAny_handleBy_nil ?_
        obtain ⟨_, _, _, o5, v5, T, oT, t5, e5, z5, d5, g5, _⟩ := id fa
        unfold PySem.passOn
        refine wpAny_bind (wpAny_field e5 d5 g5 ?_)
        rw [if_neg (show ¬ ((Value.ref T == Value.none) = true) by simp)]
        have fin : wpAny (model X.prog X.w) X.A (setFlight (.ref x) X.env.frame) (fun _ sd => wpAny (model X.prog X.w) X.A (throw (.ref x) : Sem Flow) (SP X pins D) X.xe sd) X.xe { s' with heap := ha } := by
          rw [fr]
          refine HandSPX.setFlight_upZ fa fun hb hhb ub => wpAny_throw (tk _ _ ?_)
          exact ⟨x, B, sI, pins, σ2, H2, k, d, rfl, Jb, nb, (up.trans ua).trans ub, .inr (.inr (by rw [st]; exact hhb)), nx2, os, ag, w2⟩
        first
          | exact wpAny_bind (wpAny_pure (wpAny_bind fin))
          | exact wpAny_bind fin
      | @cons y c u b bs p1 p2 hd3 l3 hc hu r ih =>
        intro w2
        obtain ⟨bb, e1, yes, no⟩ := w2
        refine wpAny_handleBy_cons (codeAny_handlers_test ?_) (by intro q; cases q)
        have LA : PySem.W.Looks (model X.prog X.w) ha (typeOf (.ref x)) k := fun A Q E s k2 q => wpAny_typeOf_ref (k2 _ _ ea) (by rw [za.1]; exact q)
        have LB := PySem.W.exm_one (M := model X.prog X.w) Jc.kIn LA e1
        have tst : ∀ {Q E : Value → Shared → Prop}, Q c { s' with heap := ha } → wpAny (model X.prog X.w) (X.A.mark (some (.ref x))) (eval (.Name y p1) X.env) Q E { s' with heap := ha } := fun {Q E} q => by
          obtain ⟨g1, g2, g3 | ⟨g3, g4, g5⟩⟩ := hc
          · exact ld_glob (X := X.suite x ((x, oa) :: (X.pn ++ pins))) Sa g1 g3 q g2
          · exact ld_blt (X := X.suite x ((x, oa) :: (X.pn ++ pins))) Sa g1 g3 g4 q g5 g2
        refine tst (LB.here ?_)
        cases bb with
        | true =>
          refine codeAny_handlers_suite_as ?_
          refine HandSPX.lands_againZ fa fun hb fb ub => ?_
          have Jd : Inv X pins σ2 H2 { s' with heap := hb } := Jb.landed nb fb.1 ((up.trans ua).trans ub) os ag
          obtain ⟨ob, vb, eb, zb, db⟩ := fb.there
          have Sb := Jd.suite eb db nx2 nla nfs
          refine store_ok (X := X.suite x ((x, ob) :: (X.pn ++ pins))) (v := .ref x) Sb nd at_ hl2 rfl (fun s5 Sc => ?_) (.inr lo)
          refine wpAny_mono ((hu x ob k d (X.pn ++ pins) zb ⟨_, db⟩).run [] s5 _ H2 _ Sc (yes rfl x nx2)) (fun f s6 hs6 => ?_) (fun _ _ z => z.elim)
          have fin : ∀ {σ6 : L2.St} {H6 : Hp} {Q : Shared → Prop}, Inv (X.suite x ((x, ob) :: (X.pn ++ pins))) [] σ6 H6 s6 → (∀ s7, Inv X pins (σ6.set i none) H6 s7 → Q s7) →
              wpAny (model X.prog X.w) X.A (do bindName X.env n .none; unbindBehindTheSuite X.env n p2) (fun _ s7 => Q s7) X.xe s6 := fun {σ6 H6 Q} Sd hq => gone_ok (Sd.unsuite kk) nd at_ lo hq
          cases f with
          | next =>
            obtain ⟨_, _, Sd, q6⟩ := hs6
            exact fin Sd fun s7 Je => ⟨_, _, Je, q6⟩
          | brk =>
            obtain ⟨_, _, Sd, q6⟩ := hs6
            exact fin Sd fun s7 Je => ⟨_, _, Je, q6⟩
          | cont =>
            obtain ⟨_, _, Sd, q6⟩ := hs6
            exact fin Sd fun s7 Je => ⟨_, _, Je, q6⟩
          | ret u6 =>
            obtain ⟨_, _, _, Sd, r6, q6⟩ := hs6
            exact fin Sd fun s7 Je => ⟨_, _, _, Je, r6, q6⟩
        | false =>
          show wpAny _ X.A (handleBy (.ref x) X.env hd3) _ _ _
          exact ih (no rfl)
    exact go hh w
  · cases f with
    | next =>
      obtain ⟨_, _, Je, q⟩ := hsp
      exact wpAny_execs_nil ⟨_, _, Je.ofTry kk, q⟩
    | brk =>
      obtain ⟨_, _, Je, q⟩ := hsp
      exact ⟨_, _, Je.ofTry kk, q⟩
    | cont =>
      obtain ⟨_, _, Je, q⟩ := hsp
      exact ⟨_, _, Je.ofTry kk, q⟩
    | ret u6 =>
      obtain ⟨_, _, _, Je, r, q⟩ := hsp
      exact ⟨_, _, _, Je.ofTry kk, r, q⟩
/-- a suite that is read only where what it caught is of a known class -/
theorem pss_known {X : Cx} {bs : List Stmt} {D : Addr} {k : Value} {d : Option Addr} {t : TS} (h : k = .ref D → d = none → PSs X bs t) : PSs X bs (fun E σ H => k = .ref D ∧ d = none ∧ t E σ H) :=
  ⟨fun pins s σ H E I q => (h q.1 q.2.1).run pins s σ H E I q.2.2⟩
end
end Vw

set_option Elab.async false
set_option linter.all false
set_option maxRecDepth 100000
set_option maxHeartbeats 4000000
namespace Vw
open PySem PySem.Spec PyProof.Rows L2 RT
/-! ### list.count, flat items -/
def rCntF (K : PySem.W.Frag) : V → List V → Hp → VK → Prop := fun x xs H Q => ∃ (a : Addr) (ys : List V) (y : V), x = .ref a ∧ xs = [y] ∧ SqL K H a ys ∧ flatV y = true ∧ ys.all flatV = true ∧ Q (.int (ys.countP fun z => eqV z y : Nat)) H
theorem eqU_count {y : V} (fy : flatV y = true) : ∀ {ys : List V} {its : List Value}, Vals ys its → ys.all flatV = true → its.countP (eqU y) = ys.countP fun z => eqV z y
  | [], _, h, _ => by cases h; rfl
  | z :: zs, _, h, f => by
    cases h with
    | cons r rr =>
      rw [List.all_cons, Bool.and_eq_true] at f
      rw [List.countP_cons, List.countP_cons, eqU_count fy rr f.2, eqU_of r f.1]
theorem mt_cntF {X : Cx} : MtR X "list.count" (rCntF X.K) := by
  intro pins s σ H x xs v us Q I rx rxs h
  obtain ⟨a, ys, y, rfl, rfl, hs, fy, fys, q⟩ := h
  cases rx
  cases rxs with
  | cons ry rt =>
    rename_i uy ut
    cases rt
    obtain ⟨its, rv, ⟨⟨cls, dd, data, sl⟩, n, ho, hc, hdn, hd⟩, hlen⟩ := I.list hs
    simp only at hc hd
    subst hc hd
    refine call_meets PySem.F.slot_list_count ⟨_, ho, rfl⟩ PySem.F.entry_list_count (PySem.F.args_list_count_2 _ _) (SeqAt.list_countAt a its.toArray n dd sl uy (eqU y)) ⟨ho, fun u hu => mem_eqAt ry fy rv fys u (by simpa using hu), ?_⟩
    have ec : its.toArray.toList.countP (eqU y) = ys.countP fun z => eqV z y := eqU_count fy rv fys
    refine ⟨.int (ys.countP fun z => eqV z y : Nat), H, I.tok _, ⟨s.toks, ?_⟩, q⟩
    show Value.int ((its.toArray.toList.countP (eqU y) : Nat) : Int) s.toks = _
    rw [ec]
theorem o_cntF {K : PySem.W.Frag} {a : Addr} {H : Hp} {Q : VK} {ys : List V} {y : V} (h : SqL K H a ys) (f : flatV y = true) (g : ys.all flatV = true) (q : Q (.int (ys.countP fun z => eqV z y : Nat)) H) : rCntF K (.ref a) [y] H Q := ⟨a, ys, y, rfl, rfl, h, f, g, q⟩
end Vw

set_option Elab.async false
set_option linter.all false
set_option maxRecDepth 100000
set_option maxHeartbeats 4000000
namespace Vw
open PySem PySem.Spec PyProof.Rows L2 RT
local macro_rules | `(tactic| walk_at "s") => `(tactic| with_reducible first
  | refine' s_seq ?_ | refine' s_next ?_ | refine' s_set ?_ | refine' s_ret ?_ | refine' s_retN ?_ | refine' s_drop ?_ | refine' s_if ?_ | refine' s_ipI ?_
  | refine' e_c ?_ | refine' e_op ?_ | refine' e_un ?_ | refine' e_neg ?_ | refine' e_test ?_ | refine' e_tB ?_ | refine' e_bl ?_ | refine' e_and ?_ | refine' e_or ?_ | refine' e_not ?_
  | refine' e_andV ?_ | refine' e_orV ?_ | refine' e_notV ?_ | refine' e_kV ?_ | refine' e_ife ?_ | refine' e_nil ?_ | refine' e_cons ?_ | refine' e_cb ?_ | refine' e_call ?_ | refine' e_chain ?_
  | refine' o_addI ?_ | refine' o_eqI ?_ | refine' o_neI ?_ | refine' o_I0 ?_ | refine' o_pow16 ?_ | refine' o_pow17 ?_ | refine' o_pow18 ?_ | refine' o_pow19 ?_ | refine' o_pow30 ?_ | refine' o_pow31 ?_ | refine' o_pow1 ?_ | refine' o_pow2 ?_ | refine' o_pow3 ?_ | refine' o_pow4 ?_ | refine' o_pow5 ?_ | refine' o_pow6 ?_ | refine' o_pow9 ?_ | refine' o_pow10 ?_ | refine' o_pow12 ?_ | refine' o_pow15 ?_ | refine' o_pow20 ?_ | refine' e_lst ?_ | refine' e_tup ?_ | refine' iteT ?_ | refine' i_nt ?_ | refine' i_nf ?_ | refine' iteF ?_ | refine' c_int ?_ | refine' c_abs ?_ | refine' c_min2 ?_ | refine' c_max2 ?_ | refine' e_tru ?_ | refine' t_bl ?_ | refine' t_non ?_ | refine' t_int ?_ | refine' isN_non ?_ | refine' isN_int ?_ | refine' isN_ref ?_ | refine' isN_str ?_ | refine' isN_bl ?_ | refine' noN_non ?_ | refine' noN_int ?_ | refine' noN_ref ?_ | refine' noN_str ?_ | refine' noN_bl ?_
  | refine' s_brk ?_ | refine' s_cont ?_ | refine' s_for ?_ | refine' e_lc ?_ | refine' e_dc ?_ | refine' e_yes ?_ | refine' i_rng1 ?_ | refine' i_lst0 ?_ | refine' i_tup0 ?_ | refine' e_bm ?_ | refine' e_sl ?_ | refine' e_np ?_ | refine' e_pt ?_ | refine' e_ptI ?_ | refine' e_din ?_ | refine' e_dnin ?_ | refine' e_methE ?_ | refine' p_cons ?_ | refine' p_nil ?_ | refine' s_dput ?_ | refine' e_dget2 ?_ | refine' e_dpop1 ?_ | refine' i_enum0 ?_ | refine' i_rev0 ?_ | refine' g_sub ?_ | refine' s_asg ?_ | refine' i_zip0 ?_ | refine' e_revT ?_ | refine' isB_bl ?_ | refine' notB_bl ?_ | refine' o_neB ?_ | refine' i_nrr ?_ | refine' e_meth ?_ | refine' s_setf ?_ | refine' e_fld ?_ | refine' e_bm0 ?_ | refine' r_tx ?_ | refine' o_eqStr ?_ | refine' o_neStr ?_)
local macro_rules | `(tactic| walk_at "v") => `(tactic| ((with_reducible refine' e_var ?hv ?_); (case hv => exact rfl)))
local macro_rules | `(tactic| walk_at "a") => `(tactic| ((with_reducible refine' s_aug ?hv ?_); (case hv => exact rfl)))
local macro_rules | `(tactic| walk_at "m") => `(tactic| first
  | ((with_reducible refine' o_mod ?hv ?_); (case hv => first | decide | omega))
  | ((with_reducible refine' o_mulR ?hv ?_); (case hv => omega))
  | ((with_reducible refine' o_mulL ?hv ?_); (case hv => omega))
  | ((with_reducible refine' o_div ?hv ?hw ?_); (case hv => omega); (case hw => omega))
  | ((with_reducible refine' o_pow _ ?hv ?hw ?hx ?_); (case hv => exact rfl); (case hw => decide); (case hx => decide)))
local macro_rules | `(tactic| walk_at "i") => `(tactic| (first
  | ((with_reducible refine' isi_int true ?hv ?_); (case hv => exact (by decide +kernel)))
  | ((with_reducible refine' isi_int false ?hv ?_); (case hv => exact (by decide +kernel)))
  | ((with_reducible refine' isi_non true ?hv ?_); (case hv => exact (by decide +kernel)))
  | ((with_reducible refine' isi_non false ?hv ?_); (case hv => exact (by decide +kernel)))
  | ((with_reducible refine' isi_str true ?hv ?_); (case hv => exact (by decide +kernel)))
  | ((with_reducible refine' isi_str false ?hv ?_); (case hv => exact (by decide +kernel)))
  | ((with_reducible refine' isi_bl true ?hv ?_); (case hv => exact (by decide +kernel)))
  | ((with_reducible refine' isi_bl false ?hv ?_); (case hv => exact (by decide +kernel)))
  | ((with_reducible refine' isi_t true ?hw ?hv ?_); (case hw => assumption); (case hv => exact (by decide +kernel)))
  | ((with_reducible refine' isi_t false ?hw ?hv ?_); (case hw => assumption); (case hv => exact (by decide +kernel)))
  | ((with_reducible refine' isi_l true ?hw ?hv ?_); (case hw => assumption); (case hv => exact (by decide +kernel)))
  | ((with_reducible refine' isi_l false ?hw ?hv ?_); (case hw => assumption); (case hv => exact (by decide +kernel)))
  | ((with_reducible refine' isi_tup true ?hw ?hv ?_); (case hw => assumption); (case hv => exact (by decide +kernel)))
  | ((with_reducible refine' isi_tup false ?hw ?hv ?_); (case hw => assumption); (case hv => exact (by decide +kernel)))
  | ((with_reducible refine' isi_lst true ?hw ?hv ?_); (case hw => assumption); (case hv => exact (by decide +kernel)))
  | ((with_reducible refine' isi_lst false ?hw ?hv ?_); (case hw => assumption); (case hv => exact (by decide +kernel)))))
local macro_rules | `(tactic| walk_at "om") => `(tactic| first | omega | (simp only [List.length_cons, List.length_nil, List.length_map, List.length_append, List.length_range]; omega))
local macro_rules | `(tactic| walk_at "d") => `(tactic| (first
  | ((with_reducible refine' i_dt ?hv ?_); (case hv => walk_at "om"))
  | ((with_reducible refine' i_df ?hv ?_); (case hv => walk_at "om"))
  | ((with_reducible refine' i_ndt ?hv ?_); (case hv => walk_at "om"))
  | ((with_reducible refine' i_ndf ?hv ?_); (case hv => walk_at "om"))))
local macro_rules | `(tactic| walk_at "x") => `(tactic| first
  | ((with_reducible refine' o_ixA ?hv ?hw ?_); (case hv => assumption); (case hw => exact rfl))
  | ((with_reducible refine' o_ixU ?hv ?hw ?_); (case hv => assumption); (case hw => exact rfl))
  | ((with_reducible refine' o_ixL ?hv ?hw ?_); (case hv => assumption); (case hw => exact rfl))
  | ((with_reducible refine' o_ixT ?hv ?hw ?_); (case hv => assumption); (case hw => exact rfl))
  | ((with_reducible refine' set_ ?hv ?hw ?_); (case hv => assumption); (case hw => exact rfl))
  | ((with_reducible refine' e_lenM ?hv ?_); (case hv => first | assumption | exact slO (by assumption)))
  | ((with_reducible refine' e_lenN ?hv ?_); (case hv => first | assumption | exact stO (by assumption)))
  | ((with_reducible refine' e_lenL ?hv ?_); (case hv => first | assumption | exact slO (by assumption)))
  | ((with_reducible refine' e_lenT ?hv ?_); (case hv => first | assumption | exact stO (by assumption))))
local macro_rules | `(tactic| walk_at "c") => `(tactic| first
  | ((with_reducible refine' c_listL ?hv ?_); (case hv => assumption))
  | ((with_reducible refine' c_listT ?hv ?_); (case hv => assumption))
  | ((with_reducible refine' c_tupL ?hv ?_); (case hv => first | assumption | exact slO (by assumption)))
  | ((with_reducible refine' c_tupT ?hv ?_); (case hv => assumption))
  | ((with_reducible refine' t_lst ?hv ?_); (case hv => first | assumption | exact slO (by assumption)))
  | ((with_reducible refine' t_tup ?hv ?_); (case hv => assumption))
  | ((with_reducible refine' r_sl ?hv ?_); (case hv => first | assumption | exact slO (by assumption)))
  | ((with_reducible refine' o_inL ?hv ?_); (case hv => first | assumption | exact slO (by assumption)))
  | ((with_reducible refine' o_inT ?hv ?_); (case hv => first | assumption | exact stO (by assumption)))
  | ((with_reducible refine' o_niL ?hv ?_); (case hv => first | assumption | exact slO (by assumption)))
  | ((with_reducible refine' o_niT ?hv ?_); (case hv => first | assumption | exact stO (by assumption)))
  | ((with_reducible refine' ty_lst ?hv ?_); (case hv => assumption)))
local macro_rules | `(tactic| walk_at "mo") => `(tactic| repeat' (first | exact m_yes | exact m_var | exact m_c | exact m_I0 | exact m_I | exact m_ix | exact m_add | exact m_in | exact m_int1 | exact m_abs | exact m_nil | refine' m_and ?_ ?_ | refine' m_test ?_ | refine' m_tB ?_ | refine' m_op ?_ ?_ ?_ | refine' m_cons ?_ ?_ | refine' m_cb ?_ ?_))
local macro_rules | `(tactic| walk_at "go") => `(tactic| repeat' (first | walk_at "s" | walk_at "v" | walk_at "a" | walk_at "x" | walk_at "m" | walk_at "c" | walk_at "i" | walk_at "d"))

def topS (i : Nat) : Stmt := PySem.Challenge.pw_wholeways_k02_disks_refused.main.body.getD i (.Pass ⟨0, 0, 0, 0⟩)
abbrev s_wall : Stmt := (topS 0)
abbrev n_wall : List Str := ["k"]
theorem sc_wall : FnScope n_wall ["k"] (defScope s_wall) := ⟨rfl, rfl, rfl, by decide +kernel, rfl, by decide +kernel, by decide +kernel⟩
abbrev s_StoreError_init : Stmt := (inClass (topS 2) 0)
abbrev n_StoreError_init : List Str := ["self"]
theorem sc_StoreError_init : FnScope n_StoreError_init ["self"] (defScope s_StoreError_init) := ⟨rfl, rfl, rfl, by decide +kernel, rfl, by decide +kernel, by decide +kernel⟩
abbrev s_is_integer : Stmt := (topS 12)
abbrev n_is_integer : List Str := ["thing"]
theorem sc_is_integer : FnScope n_is_integer ["thing"] (defScope s_is_integer) := ⟨rfl, rfl, rfl, by decide +kernel, rfl, by decide +kernel, by decide +kernel⟩
abbrev s_is_within : Stmt := (topS 13)
abbrev n_is_within : List Str := ["thing", "low", "high"]
theorem sc_is_within : FnScope n_is_within ["thing", "low", "high"] (defScope s_is_within) := ⟨rfl, rfl, rfl, by decide +kernel, rfl, by decide +kernel, by decide +kernel⟩
abbrev s_is_number : Stmt := (topS 14)
abbrev n_is_number : List Str := ["thing"]
theorem sc_is_number : FnScope n_is_number ["thing"] (defScope s_is_number) := ⟨rfl, rfl, rfl, by decide +kernel, rfl, by decide +kernel, by decide +kernel⟩
abbrev s_is_word : Stmt := (topS 15)
abbrev n_is_word : List Str := ["thing"]
theorem sc_is_word : FnScope n_is_word ["thing"] (defScope s_is_word) := ⟨rfl, rfl, rfl, by decide +kernel, rfl, by decide +kernel, by decide +kernel⟩
abbrev s_is_item : Stmt := (topS 16)
abbrev n_is_item : List Str := ["thing"]
theorem sc_is_item : FnScope n_is_item ["thing"] (defScope s_is_item) := ⟨rfl, rfl, rfl, by decide +kernel, rfl, by decide +kernel, by decide +kernel⟩
abbrev s_is_ascending : Stmt := (topS 17)
abbrev n_is_ascending : List Str := ["row", "k"]
theorem sc_is_ascending : FnScope n_is_ascending ["row"] (defScope s_is_ascending) := ⟨rfl, rfl, rfl, by decide +kernel, rfl, by decide +kernel, by decide +kernel⟩
abbrev s_is_lot : Stmt := (topS 18)
abbrev n_is_lot : List Str := ["thing", "item"]
theorem sc_is_lot : FnScope n_is_lot ["thing"] (defScope s_is_lot) := ⟨rfl, rfl, rfl, by decide +kernel, rfl, by decide +kernel, by decide +kernel⟩
abbrev s_is_items : Stmt := (topS 19)
abbrev n_is_items : List Str := ["thing", "least", "most", "item"]
theorem sc_is_items : FnScope n_is_items ["thing", "least", "most"] (defScope s_is_items) := ⟨rfl, rfl, rfl, by decide +kernel, rfl, by decide +kernel, by decide +kernel⟩
abbrev s_Disk_init : Stmt := (inClass (topS 25) 0)
abbrev n_Disk_init : List Str := ["self", "blocks", "_"]
theorem sc_Disk_init : FnScope n_Disk_init ["self", "blocks"] (defScope s_Disk_init) := ⟨rfl, rfl, rfl, by decide +kernel, rfl, by decide +kernel, by decide +kernel⟩
abbrev s_Disk_blocks : Stmt := (inClass (topS 25) 1)
abbrev n_Disk_blocks : List Str := ["self"]
theorem sc_Disk_blocks : FnScope n_Disk_blocks ["self"] (defScope s_Disk_blocks) := ⟨rfl, rfl, rfl, by decide +kernel, rfl, by decide +kernel, by decide +kernel⟩
abbrev s_Disk_write : Stmt := (inClass (topS 25) 2)
abbrev n_Disk_write : List Str := ["self", "block", "content"]
theorem sc_Disk_write : FnScope n_Disk_write ["self", "block", "content"] (defScope s_Disk_write) := ⟨rfl, rfl, rfl, by decide +kernel, rfl, by decide +kernel, by decide +kernel⟩
abbrev s_Disk_read : Stmt := (inClass (topS 25) 3)
abbrev n_Disk_read : List Str := ["self", "block"]
theorem sc_Disk_read : FnScope n_Disk_read ["self", "block"] (defScope s_Disk_read) := ⟨rfl, rfl, rfl, by decide +kernel, rfl, by decide +kernel, by decide +kernel⟩
abbrev s_Disk_reach : Stmt := (inClass (topS 25) 4)
abbrev n_Disk_reach : List Str := ["self", "block"]
theorem sc_Disk_reach : FnScope n_Disk_reach ["self", "block"] (defScope s_Disk_reach) := ⟨rfl, rfl, rfl, by decide +kernel, rfl, by decide +kernel, by decide +kernel⟩
abbrev s_Disk_force : Stmt := (inClass (topS 25) 5)
abbrev n_Disk_force : List Str := ["self", "lot", "block"]
theorem sc_Disk_force : FnScope n_Disk_force ["self", "lot"] (defScope s_Disk_force) := ⟨rfl, rfl, rfl, by decide +kernel, rfl, by decide +kernel, by decide +kernel⟩
abbrev s_Disk_calm : Stmt := (inClass (topS 25) 6)
abbrev n_Disk_calm : List Str := ["self"]
theorem sc_Disk_calm : FnScope n_Disk_calm ["self"] (defScope s_Disk_calm) := ⟨rfl, rfl, rfl, by decide +kernel, rfl, by decide +kernel, by decide +kernel⟩
abbrev s_Disk_power : Stmt := (inClass (topS 25) 7)
abbrev n_Disk_power : List Str := ["self", "many"]
theorem sc_Disk_power : FnScope n_Disk_power ["self", "many"] (defScope s_Disk_power) := ⟨rfl, rfl, rfl, by decide +kernel, rfl, by decide +kernel, by decide +kernel⟩
abbrev s_Disk_cut : Stmt := (inClass (topS 25) 8)
abbrev n_Disk_cut : List Str := ["self"]
theorem sc_Disk_cut : FnScope n_Disk_cut ["self"] (defScope s_Disk_cut) := ⟨rfl, rfl, rfl, by decide +kernel, rfl, by decide +kernel, by decide +kernel⟩
abbrev s_Disk_waiting : Stmt := (inClass (topS 25) 9)
abbrev n_Disk_waiting : List Str := ["self", "block"]
theorem sc_Disk_waiting : FnScope n_Disk_waiting ["self"] (defScope s_Disk_waiting) := ⟨rfl, rfl, rfl, by decide +kernel, rfl, by decide +kernel, by decide +kernel⟩
abbrev s_Disk_lying : Stmt := (inClass (topS 25) 10)
abbrev n_Disk_lying : List Str := ["self", "block"]
theorem sc_Disk_lying : FnScope n_Disk_lying ["self", "block"] (defScope s_Disk_lying) := ⟨rfl, rfl, rfl, by decide +kernel, rfl, by decide +kernel, by decide +kernel⟩
abbrev s_Disk_reached : Stmt := (inClass (topS 25) 11)
abbrev n_Disk_reached : List Str := ["self"]
theorem sc_Disk_reached : FnScope n_Disk_reached ["self"] (defScope s_Disk_reached) := ⟨rfl, rfl, rfl, by decide +kernel, rfl, by decide +kernel, by decide +kernel⟩
abbrev s_Disk_copy : Stmt := (inClass (topS 25) 12)
abbrev n_Disk_copy : List Str := ["self"]
theorem sc_Disk_copy : FnScope n_Disk_copy ["self"] (defScope s_Disk_copy) := ⟨rfl, rfl, rfl, by decide +kernel, rfl, by decide +kernel, by decide +kernel⟩
abbrev s_Disk__need_block : Stmt := (inClass (topS 25) 13)
abbrev n_Disk__need_block : List Str := ["self", "block"]
theorem sc_Disk__need_block : FnScope n_Disk__need_block ["self", "block"] (defScope s_Disk__need_block) := ⟨rfl, rfl, rfl, by decide +kernel, rfl, by decide +kernel, by decide +kernel⟩
abbrev s_Disk__reach_one : Stmt := (inClass (topS 25) 14)
abbrev n_Disk__reach_one : List Str := ["self", "block", "row"]
theorem sc_Disk__reach_one : FnScope n_Disk__reach_one ["self", "block"] (defScope s_Disk__reach_one) := ⟨rfl, rfl, rfl, by decide +kernel, rfl, by decide +kernel, by decide +kernel⟩
abbrev s_law_hand : Stmt := (topS 27)
abbrev n_law_hand : List Str := ["script", "cells", "cell"]
theorem sc_law_hand : FnScope n_law_hand ["script"] (defScope s_law_hand) := ⟨rfl, rfl, rfl, by decide +kernel, rfl, by decide +kernel, by decide +kernel⟩
abbrev s_law_draw : Stmt := (topS 28)
abbrev n_law_draw : List Str := ["hand", "many", "cell", "digit", "number"]
theorem sc_law_draw : FnScope n_law_draw ["hand", "many"] (defScope s_law_draw) := ⟨rfl, rfl, rfl, by decide +kernel, rfl, by decide +kernel, by decide +kernel⟩
abbrev s_law_any : Stmt := (topS 29)
abbrev n_law_any : List Str := ["hand", "some"]
theorem sc_law_any : FnScope n_law_any ["hand", "some"] (defScope s_law_any) := ⟨rfl, rfl, rfl, by decide +kernel, rfl, by decide +kernel, by decide +kernel⟩
abbrev s_law_is_int : Stmt := (topS 30)
abbrev n_law_is_int : List Str := ["thing", "least", "most"]
theorem sc_law_is_int : FnScope n_law_is_int ["thing", "least", "most"] (defScope s_law_is_int) := ⟨rfl, rfl, rfl, by decide +kernel, rfl, by decide +kernel, by decide +kernel⟩
abbrev s_law_deep : Stmt := (topS 31)
abbrev n_law_deep : List Str := ["hand", "thing", "turn"]
theorem sc_law_deep : FnScope n_law_deep ["hand"] (defScope s_law_deep) := ⟨rfl, rfl, rfl, by decide +kernel, rfl, by decide +kernel, by decide +kernel⟩
abbrev s_law_first : Stmt := (topS 32)
abbrev n_law_first : List Str := ["pairs", "word", "is_right"]
theorem sc_law_first : FnScope n_law_first ["pairs"] (defScope s_law_first) := ⟨rfl, rfl, rfl, by decide +kernel, rfl, by decide +kernel, by decide +kernel⟩
abbrev s_law_is_name : Stmt := (topS 33)
abbrev n_law_is_name : List Str := ["thing", "least", "sign"]
theorem sc_law_is_name : FnScope n_law_is_name ["thing", "least"] (defScope s_law_is_name) := ⟨rfl, rfl, rfl, by decide +kernel, rfl, by decide +kernel, by decide +kernel⟩
abbrev s_law_content : Stmt := (topS 34)
abbrev n_law_content : List Str := ["hand", "some", "many", "item"]
theorem sc_law_content : FnScope n_law_content ["hand"] (defScope s_law_content) := ⟨rfl, rfl, rfl, by decide +kernel, rfl, by decide +kernel, by decide +kernel⟩
abbrev s_law_book : Stmt := (topS 35)
abbrev n_law_book : List Str := ["blocks"]
theorem sc_law_book : FnScope n_law_book ["blocks"] (defScope s_law_book) := ⟨rfl, rfl, rfl, by decide +kernel, rfl, by decide +kernel, by decide +kernel⟩
abbrev s_law_wrote : Stmt := (topS 36)
abbrev n_law_wrote : List Str := ["book", "block", "content"]
theorem sc_law_wrote : FnScope n_law_wrote ["book", "block", "content"] (defScope s_law_wrote) := ⟨rfl, rfl, rfl, by decide +kernel, rfl, by decide +kernel, by decide +kernel⟩
abbrev s_law_reached : Stmt := (topS 37)
abbrev n_law_reached : List Str := ["book", "block", "row"]
theorem sc_law_reached : FnScope n_law_reached ["book", "block"] (defScope s_law_reached) := ⟨rfl, rfl, rfl, by decide +kernel, rfl, by decide +kernel, by decide +kernel⟩
abbrev s_law_forced : Stmt := (topS 38)
abbrev n_law_forced : List Str := ["book", "lot", "block"]
theorem sc_law_forced : FnScope n_law_forced ["book", "lot"] (defScope s_law_forced) := ⟨rfl, rfl, rfl, by decide +kernel, rfl, by decide +kernel, by decide +kernel⟩
abbrev s_law_shows : Stmt := (topS 39)
abbrev n_law_shows : List Str := ["disk", "book", "some", "block", "due", "row"]
theorem sc_law_shows : FnScope n_law_shows ["disk", "book", "some"] (defScope s_law_shows) := ⟨rfl, rfl, rfl, by decide +kernel, rfl, by decide +kernel, by decide +kernel⟩
abbrev s_law_word : Stmt := (topS 40)
abbrev n_law_word : List Str := ["call", "word", "flags"]
theorem sc_law_word : FnScope n_law_word ["call"] (defScope s_law_word) := ⟨rfl, rfl, rfl, by decide +kernel, rfl, by decide +kernel, by decide +kernel⟩
abbrev s_law_odd : Stmt := (topS 41)
abbrev n_law_odd : List Str := ["hand", "other", "some"]
theorem sc_law_odd : FnScope n_law_odd ["hand", "other"] (defScope s_law_odd) := ⟨rfl, rfl, rfl, by decide +kernel, rfl, by decide +kernel, by decide +kernel⟩
abbrev s_law_is_content : Stmt := (topS 42)
abbrev n_law_is_content : List Str := ["thing", "item"]
theorem sc_law_is_content : FnScope n_law_is_content ["thing"] (defScope s_law_is_content) := ⟨rfl, rfl, rfl, by decide +kernel, rfl, by decide +kernel, by decide +kernel⟩
abbrev s_law_some_content : Stmt := (topS 43)
abbrev n_law_some_content : List Str := ["hand", "other", "found", "at", "odd", "some"]
theorem sc_law_some_content : FnScope n_law_some_content ["hand", "other"] (defScope s_law_some_content) := ⟨rfl, rfl, rfl, by decide +kernel, rfl, by decide +kernel, by decide +kernel⟩
abbrev s_law_is_lot : Stmt := (topS 44)
abbrev n_law_is_lot : List Str := ["thing", "blocks", "block", "one", "other"]
theorem sc_law_is_lot : FnScope n_law_is_lot ["thing", "blocks"] (defScope s_law_is_lot) := ⟨rfl, rfl, rfl, by decide +kernel, rfl, by decide +kernel, by decide +kernel⟩
abbrev s_law : Stmt := (topS 45)
abbrev n_law : List Str := ["script", "hand", "many", "blocks", "disk", "book", "turn", "block", "is_block", "content", "due", "some", "lot", "is_lot_v", "power"]
theorem sc_law : FnScope n_law ["script"] (defScope s_law) := ⟨rfl, rfl, rfl, by decide +kernel, rfl, by decide +kernel, by decide +kernel⟩
structure Txt (K : PySem.W.Frag) (mg : Str → Option Value) where
  wall : DefAt K mg "_wall" "_wall" s_wall ["k"]
  is_integer : DefAt K mg "is_integer" "is_integer" s_is_integer ["thing"]
  is_within : DefAt K mg "is_within" "is_within" s_is_within ["thing", "low", "high"]
  is_number : DefAt K mg "is_number" "is_number" s_is_number ["thing"]
  is_word : DefAt K mg "is_word" "is_word" s_is_word ["thing"]
  is_item : DefAt K mg "is_item" "is_item" s_is_item ["thing"]
  is_ascending : DefAt K mg "is_ascending" "is_ascending" s_is_ascending ["row"]
  is_lot : DefAt K mg "is_lot" "is_lot" s_is_lot ["thing"]
  is_items : DefAt K mg "is_items" "is_items" s_is_items ["thing", "least", "most"]
  law_hand : DefAt K mg "_law_hand" "_law_hand" s_law_hand ["script"]
  law_draw : DefAt K mg "_law_draw" "_law_draw" s_law_draw ["hand", "many"]
  law_any : DefAt K mg "_law_any" "_law_any" s_law_any ["hand", "some"]
  law_is_int : DefAt K mg "_law_is_int" "_law_is_int" s_law_is_int ["thing", "least", "most"]
  law_deep : DefAt K mg "_law_deep" "_law_deep" s_law_deep ["hand"]
  law_first : DefAt K mg "_law_first" "_law_first" s_law_first ["pairs"]
  law_is_name : DefAt K mg "_law_is_name" "_law_is_name" s_law_is_name ["thing", "least"]
  law_content : DefAt K mg "_law_content" "_law_content" s_law_content ["hand"]
  law_book : DefAt K mg "_law_book" "_law_book" s_law_book ["blocks"]
  law_wrote : DefAt K mg "_law_wrote" "_law_wrote" s_law_wrote ["book", "block", "content"]
  law_reached : DefAt K mg "_law_reached" "_law_reached" s_law_reached ["book", "block"]
  law_forced : DefAt K mg "_law_forced" "_law_forced" s_law_forced ["book", "lot"]
  law_shows : DefAt K mg "_law_shows" "_law_shows" s_law_shows ["disk", "book", "some"]
  law_word : DefAt K mg "_law_word" "_law_word" s_law_word ["call"]
  law_odd : DefAt K mg "_law_odd" "_law_odd" s_law_odd ["hand", "other"]
  law_is_content : DefAt K mg "_law_is_content" "_law_is_content" s_law_is_content ["thing"]
  law_some_content : DefAt K mg "_law_some_content" "_law_some_content" s_law_some_content ["hand", "other"]
  law_is_lot : DefAt K mg "_law_is_lot" "_law_is_lot" s_law_is_lot ["thing", "blocks"]
  law : DefAtL K mg "law" "law" s_law ["script"]
  C_Disk : Addr
  k_Disk : ClsAt K mg "Disk" C_Disk
  m_Disk_init : MethAt K C_Disk "__init__" "Disk.__init__" s_Disk_init ["self", "blocks"]
  m_Disk_blocks : MethAt K C_Disk "blocks" "Disk.blocks" s_Disk_blocks ["self"]
  m_Disk_write : MethAt K C_Disk "write" "Disk.write" s_Disk_write ["self", "block", "content"]
  m_Disk_read : MethAt K C_Disk "read" "Disk.read" s_Disk_read ["self", "block"]
  m_Disk_reach : MethAt K C_Disk "reach" "Disk.reach" s_Disk_reach ["self", "block"]
  m_Disk_force : MethAt K C_Disk "force" "Disk.force" s_Disk_force ["self", "lot"]
  m_Disk_calm : MethAt K C_Disk "calm" "Disk.calm" s_Disk_calm ["self"]
  m_Disk_power : MethAt K C_Disk "power" "Disk.power" s_Disk_power ["self", "many"]
  m_Disk_cut : MethAt K C_Disk "cut" "Disk.cut" s_Disk_cut ["self"]
  m_Disk_waiting : MethAt K C_Disk "waiting" "Disk.waiting" s_Disk_waiting ["self"]
  m_Disk_lying : MethAt K C_Disk "lying" "Disk.lying" s_Disk_lying ["self", "block"]
  m_Disk_reached : MethAt K C_Disk "reached" "Disk.reached" s_Disk_reached ["self"]
  m_Disk_copy : MethAt K C_Disk "copy" "Disk.copy" s_Disk_copy ["self"]
  m_Disk__need_block : MethAt K C_Disk "_need_block" "Disk._need_block" s_Disk__need_block ["self", "block"]
  m_Disk__reach_one : MethAt K C_Disk "_reach_one" "Disk._reach_one" s_Disk__reach_one ["self", "block"]
  m_StoreError_init : InitAt K "__init__" "StoreError.__init__" s_StoreError_init ["self"]
  vV : PySem.W.findCls K (.type "ValueError") (.type "type") "__init__" = some (.val (.builtin "ValueError.__init__"))
  e_Stopped : ExcAt K mg "Stopped" m_StoreError_init.f
  e_NothingWaits : ExcAt K mg "NothingWaits" m_StoreError_init.f
  e_BadDisk : ExcAt K mg "BadDisk" m_StoreError_init.f
  e_NoBlock : ExcAt K mg "NoBlock" m_StoreError_init.f
  e_NoContent : ExcAt K mg "NoContent" m_StoreError_init.f
  e_NoNumber : ExcAt K mg "NoNumber" m_StoreError_init.f
  n_Disk__lies : NoAttr K C_Disk "_lies"
  n_Disk__waits : NoAttr K C_Disk "_waits"
  n_Disk__power : NoAttr K C_Disk "_power"
  n_Disk__reached : NoAttr K C_Disk "_reached"
  N_StoreError : Addr
  g_StoreError : mg "StoreError" = some (.ref N_StoreError)
  x_BadDisk : L2.ExcC K e_BadDisk.C
  kv_BadDisk : PySem.W.kitOne K (.ref e_BadDisk.C) (.type "ValueError") = some true
  xs_BadDisk : PySem.W.exmOne K (.ref e_BadDisk.C) (.ref N_StoreError) = some true
  k_BadDisk_BadDisk : PySem.W.kitOne K (.ref e_BadDisk.C) (.ref e_BadDisk.C) = some true
  k_BadDisk_NoBlock : PySem.W.kitOne K (.ref e_BadDisk.C) (.ref e_NoBlock.C) = some false
  k_BadDisk_NoContent : PySem.W.kitOne K (.ref e_BadDisk.C) (.ref e_NoContent.C) = some false
  k_BadDisk_NothingWaits : PySem.W.kitOne K (.ref e_BadDisk.C) (.ref e_NothingWaits.C) = some false
  k_BadDisk_NoNumber : PySem.W.kitOne K (.ref e_BadDisk.C) (.ref e_NoNumber.C) = some false
  x_NoBlock : L2.ExcC K e_NoBlock.C
  kv_NoBlock : PySem.W.kitOne K (.ref e_NoBlock.C) (.type "ValueError") = some true
  xs_NoBlock : PySem.W.exmOne K (.ref e_NoBlock.C) (.ref N_StoreError) = some true
  k_NoBlock_BadDisk : PySem.W.kitOne K (.ref e_NoBlock.C) (.ref e_BadDisk.C) = some false
  k_NoBlock_NoBlock : PySem.W.kitOne K (.ref e_NoBlock.C) (.ref e_NoBlock.C) = some true
  k_NoBlock_NoContent : PySem.W.kitOne K (.ref e_NoBlock.C) (.ref e_NoContent.C) = some false
  k_NoBlock_NothingWaits : PySem.W.kitOne K (.ref e_NoBlock.C) (.ref e_NothingWaits.C) = some false
  k_NoBlock_NoNumber : PySem.W.kitOne K (.ref e_NoBlock.C) (.ref e_NoNumber.C) = some false
  x_NoContent : L2.ExcC K e_NoContent.C
  kv_NoContent : PySem.W.kitOne K (.ref e_NoContent.C) (.type "ValueError") = some true
  xs_NoContent : PySem.W.exmOne K (.ref e_NoContent.C) (.ref N_StoreError) = some true
  k_NoContent_BadDisk : PySem.W.kitOne K (.ref e_NoContent.C) (.ref e_BadDisk.C) = some false
  k_NoContent_NoBlock : PySem.W.kitOne K (.ref e_NoContent.C) (.ref e_NoBlock.C) = some false
  k_NoContent_NoContent : PySem.W.kitOne K (.ref e_NoContent.C) (.ref e_NoContent.C) = some true
  k_NoContent_NothingWaits : PySem.W.kitOne K (.ref e_NoContent.C) (.ref e_NothingWaits.C) = some false
  k_NoContent_NoNumber : PySem.W.kitOne K (.ref e_NoContent.C) (.ref e_NoNumber.C) = some false
  x_NothingWaits : L2.ExcC K e_NothingWaits.C
  kv_NothingWaits : PySem.W.kitOne K (.ref e_NothingWaits.C) (.type "ValueError") = some true
  xs_NothingWaits : PySem.W.exmOne K (.ref e_NothingWaits.C) (.ref N_StoreError) = some true
  k_NothingWaits_BadDisk : PySem.W.kitOne K (.ref e_NothingWaits.C) (.ref e_BadDisk.C) = some false
  k_NothingWaits_NoBlock : PySem.W.kitOne K (.ref e_NothingWaits.C) (.ref e_NoBlock.C) = some false
  k_NothingWaits_NoContent : PySem.W.kitOne K (.ref e_NothingWaits.C) (.ref e_NoContent.C) = some false
  k_NothingWaits_NothingWaits : PySem.W.kitOne K (.ref e_NothingWaits.C) (.ref e_NothingWaits.C) = some true
  k_NothingWaits_NoNumber : PySem.W.kitOne K (.ref e_NothingWaits.C) (.ref e_NoNumber.C) = some false
  x_NoNumber : L2.ExcC K e_NoNumber.C
  kv_NoNumber : PySem.W.kitOne K (.ref e_NoNumber.C) (.type "ValueError") = some true
  xs_NoNumber : PySem.W.exmOne K (.ref e_NoNumber.C) (.ref N_StoreError) = some true
  k_NoNumber_BadDisk : PySem.W.kitOne K (.ref e_NoNumber.C) (.ref e_BadDisk.C) = some false
  k_NoNumber_NoBlock : PySem.W.kitOne K (.ref e_NoNumber.C) (.ref e_NoBlock.C) = some false
  k_NoNumber_NoContent : PySem.W.kitOne K (.ref e_NoNumber.C) (.ref e_NoContent.C) = some false
  k_NoNumber_NothingWaits : PySem.W.kitOne K (.ref e_NoNumber.C) (.ref e_NothingWaits.C) = some false
  k_NoNumber_NoNumber : PySem.W.kitOne K (.ref e_NoNumber.C) (.ref e_NoNumber.C) = some true
  dst : ([law.P] : List Addr).Nodup
  z_ValueError : mg "ValueError" = none
  z_abs : mg "abs" = none
  z_all : mg "all" = none
  z_bool : mg "bool" = none
  z_dict : mg "dict" = none
  z_int : mg "int" = none
  z_isinstance : mg "isinstance" = none
  z_len : mg "len" = none
  z_list : mg "list" = none
  z_range : mg "range" = none
  z_sorted : mg "sorted" = none
  z_str : mg "str" = none
  z_tuple : mg "tuple" = none
  z_zip : mg "zip" = none
  c_GREATEST_ITEM : CAt mg "GREATEST_ITEM" (.int (1000000000000000000000000000000))
  c_LONGEST_WORD : CAt mg "LONGEST_WORD" (.int (12))
  c_LEAST_BLOCKS : CAt mg "LEAST_BLOCKS" (.int (16))
  c_MOST_BLOCKS : CAt mg "MOST_BLOCKS" (.int (600))
  c_MOST_ITEMS : CAt mg "MOST_ITEMS" (.int (40))
  c_MOST_POWER : CAt mg "MOST_POWER" (.int (1000000))
abbrev tabsL {K : PySem.W.Frag} {mg : Str → Option Value} (T : Txt K mg) : List (Addr × Str) := [(T.law.P, (("law" : Str) ++ ".<locals>.") ++ "<lambda>")]
theorem tabsM_law {K : PySem.W.Frag} {mg : Str → Option Value} (T : Txt K mg) : (T.law.P, (("law" : Str) ++ ".<locals>.") ++ "<lambda>") ∈ tabsL T := .head _
end Vw

set_option Elab.async false
set_option linter.all false
set_option maxRecDepth 100000
set_option maxHeartbeats 4000000
namespace Vw
open PySem PySem.Spec PyProof.Rows L2 RT
local macro_rules | `(tactic| walk_at "s") => `(tactic| with_reducible first
  | refine' s_seq ?_ | refine' s_next ?_ | refine' s_set ?_ | refine' s_ret ?_ | refine' s_retN ?_ | refine' s_drop ?_ | refine' s_if ?_ | refine' s_ipI ?_
  | refine' e_c ?_ | refine' e_op ?_ | refine' e_un ?_ | refine' e_neg ?_ | refine' e_test ?_ | refine' e_tB ?_ | refine' e_bl ?_ | refine' e_and ?_ | refine' e_or ?_ | refine' e_not ?_
  | refine' e_andV ?_ | refine' e_orV ?_ | refine' e_notV ?_ | refine' e_kV ?_ | refine' e_ife ?_ | refine' e_nil ?_ | refine' e_cons ?_ | refine' e_cb ?_ | refine' e_call ?_ | refine' e_chain ?_
  | refine' o_addI ?_ | refine' o_eqI ?_ | refine' o_neI ?_ | refine' o_I0 ?_ | refine' o_pow16 ?_ | refine' o_pow17 ?_ | refine' o_pow18 ?_ | refine' o_pow19 ?_ | refine' o_pow30 ?_ | refine' o_pow31 ?_ | refine' o_pow1 ?_ | refine' o_pow2 ?_ | refine' o_pow3 ?_ | refine' o_pow4 ?_ | refine' o_pow5 ?_ | refine' o_pow6 ?_ | refine' o_pow9 ?_ | refine' o_pow10 ?_ | refine' o_pow12 ?_ | refine' o_pow15 ?_ | refine' o_pow20 ?_ | refine' e_lst ?_ | refine' e_tup ?_ | refine' iteT ?_ | refine' i_nt ?_ | refine' i_nf ?_ | refine' iteF ?_ | refine' c_int ?_ | refine' c_abs ?_ | refine' c_min2 ?_ | refine' c_max2 ?_ | refine' e_tru ?_ | refine' t_bl ?_ | refine' t_non ?_ | refine' t_int ?_ | refine' isN_non ?_ | refine' isN_int ?_ | refine' isN_ref ?_ | refine' isN_str ?_ | refine' isN_bl ?_ | refine' noN_non ?_ | refine' noN_int ?_ | refine' noN_ref ?_ | refine' noN_str ?_ | refine' noN_bl ?_
  | refine' s_brk ?_ | refine' s_cont ?_ | refine' s_for ?_ | refine' e_lc ?_ | refine' e_dc ?_ | refine' e_yes ?_ | refine' i_rng1 ?_ | refine' i_lst0 ?_ | refine' i_tup0 ?_ | refine' e_bm ?_ | refine' e_sl ?_ | refine' e_np ?_ | refine' e_pt ?_ | refine' e_ptI ?_ | refine' e_din ?_ | refine' e_dnin ?_ | refine' e_methE ?_ | refine' p_cons ?_ | refine' p_nil ?_ | refine' s_dput ?_ | refine' e_dget2 ?_ | refine' e_dpop1 ?_ | refine' i_enum0 ?_ | refine' i_rev0 ?_ | refine' g_sub ?_ | refine' s_asg ?_ | refine' i_zip0 ?_ | refine' e_revT ?_ | refine' isB_bl ?_ | refine' notB_bl ?_ | refine' o_neB ?_ | refine' i_nrr ?_ | refine' e_meth ?_ | refine' s_setf ?_ | refine' e_fld ?_ | refine' e_bm0 ?_ | refine' r_tx ?_ | refine' o_eqStr ?_ | refine' o_neStr ?_)
local macro_rules | `(tactic| walk_at "v") => `(tactic| ((with_reducible refine' e_var ?hv ?_); (case hv => exact rfl)))
local macro_rules | `(tactic| walk_at "a") => `(tactic| ((with_reducible refine' s_aug ?hv ?_); (case hv => exact rfl)))
local macro_rules | `(tactic| walk_at "m") => `(tactic| first
  | ((with_reducible refine' o_mod ?hv ?_); (case hv => first | decide | omega))
  | ((with_reducible refine' o_mulR ?hv ?_); (case hv => omega))
  | ((with_reducible refine' o_mulL ?hv ?_); (case hv => omega))
  | ((with_reducible refine' o_div ?hv ?hw ?_); (case hv => omega); (case hw => omega))
  | ((with_reducible refine' o_pow _ ?hv ?hw ?hx ?_); (case hv => exact rfl); (case hw => decide); (case hx => decide)))
local macro_rules | `(tactic| walk_at "i") => `(tactic| (first
  | ((with_reducible refine' isi_int true ?hv ?_); (case hv => exact (by decide +kernel)))
  | ((with_reducible refine' isi_int false ?hv ?_); (case hv => exact (by decide +kernel)))
  | ((with_reducible refine' isi_non true ?hv ?_); (case hv => exact (by decide +kernel)))
  | ((with_reducible refine' isi_non false ?hv ?_); (case hv => exact (by decide +kernel)))
  | ((with_reducible refine' isi_str true ?hv ?_); (case hv => exact (by decide +kernel)))
  | ((with_reducible refine' isi_str false ?hv ?_); (case hv => exact (by decide +kernel)))
  | ((with_reducible refine' isi_bl true ?hv ?_); (case hv => exact (by decide +kernel)))
  | ((with_reducible refine' isi_bl false ?hv ?_); (case hv => exact (by decide +kernel)))
  | ((with_reducible refine' isi_t true ?hw ?hv ?_); (case hw => assumption); (case hv => exact (by decide +kernel)))
  | ((with_reducible refine' isi_t false ?hw ?hv ?_); (case hw => assumption); (case hv => exact (by decide +kernel)))
  | ((with_reducible refine' isi_l true ?hw ?hv ?_); (case hw => assumption); (case hv => exact (by decide +kernel)))
  | ((with_reducible refine' isi_l false ?hw ?hv ?_); (case hw => assumption); (case hv => exact (by decide +kernel)))
  | ((with_reducible refine' isi_tup true ?hw ?hv ?_); (case hw => assumption); (case hv => exact (by decide +kernel)))
  | ((with_reducible refine' isi_tup false ?hw ?hv ?_); (case hw => assumption); (case hv => exact (by decide +kernel)))
  | ((with_reducible refine' isi_lst true ?hw ?hv ?_); (case hw => assumption); (case hv => exact (by decide +kernel)))
  | ((with_reducible refine' isi_lst false ?hw ?hv ?_); (case hw => assumption); (case hv => exact (by decide +kernel)))))
local macro_rules | `(tactic| walk_at "om") => `(tactic| first | omega | (simp only [List.length_cons, List.length_nil, List.length_map, List.length_append, List.length_range]; omega))
local macro_rules | `(tactic| walk_at "d") => `(tactic| (first
  | ((with_reducible refine' i_dt ?hv ?_); (case hv => walk_at "om"))
  | ((with_reducible refine' i_df ?hv ?_); (case hv => walk_at "om"))
  | ((with_reducible refine' i_ndt ?hv ?_); (case hv => walk_at "om"))
  | ((with_reducible refine' i_ndf ?hv ?_); (case hv => walk_at "om"))))
local macro_rules | `(tactic| walk_at "x") => `(tactic| first
  | ((with_reducible refine' o_ixA ?hv ?hw ?_); (case hv => assumption); (case hw => exact rfl))
  | ((with_reducible refine' o_ixU ?hv ?hw ?_); (case hv => assumption); (case hw => exact rfl))
  | ((with_reducible refine' o_ixL ?hv ?hw ?_); (case hv => assumption); (case hw => exact rfl))
  | ((with_reducible refine' o_ixT ?hv ?hw ?_); (case hv => assumption); (case hw => exact rfl))
  | ((with_reducible refine' set_ ?hv ?hw ?_); (case hv => assumption); (case hw => exact rfl))
  | ((with_reducible refine' e_lenM ?hv ?_); (case hv => first | assumption | exact slO (by assumption)))
  | ((with_reducible refine' e_lenN ?hv ?_); (case hv => first | assumption | exact stO (by assumption)))
  | ((with_reducible refine' e_lenL ?hv ?_); (case hv => first | assumption | exact slO (by assumption)))
  | ((with_reducible refine' e_lenT ?hv ?_); (case hv => first | assumption | exact stO (by assumption))))
local macro_rules | `(tactic| walk_at "c") => `(tactic| first
  | ((with_reducible refine' c_listL ?hv ?_); (case hv => assumption))
  | ((with_reducible refine' c_listT ?hv ?_); (case hv => assumption))
  | ((with_reducible refine' c_tupL ?hv ?_); (case hv => first | assumption | exact slO (by assumption)))
  | ((with_reducible refine' c_tupT ?hv ?_); (case hv => assumption))
  | ((with_reducible refine' t_lst ?hv ?_); (case hv => first | assumption | exact slO (by assumption)))
  | ((with_reducible refine' t_tup ?hv ?_); (case hv => assumption))
  | ((with_reducible refine' r_sl ?hv ?_); (case hv => first | assumption | exact slO (by assumption)))
  | ((with_reducible refine' o_inL ?hv ?_); (case hv => first | assumption | exact slO (by assumption)))
  | ((with_reducible refine' o_inT ?hv ?_); (case hv => first | assumption | exact stO (by assumption)))
  | ((with_reducible refine' o_niL ?hv ?_); (case hv => first | assumption | exact slO (by assumption)))
  | ((with_reducible refine' o_niT ?hv ?_); (case hv => first | assumption | exact stO (by assumption)))
  | ((with_reducible refine' ty_lst ?hv ?_); (case hv => assumption)))
local macro_rules | `(tactic| walk_at "mo") => `(tactic| repeat' (first | exact m_yes | exact m_var | exact m_c | exact m_I0 | exact m_I | exact m_ix | exact m_add | exact m_in | exact m_int1 | exact m_abs | exact m_nil | refine' m_and ?_ ?_ | refine' m_test ?_ | refine' m_tB ?_ | refine' m_op ?_ ?_ ?_ | refine' m_cons ?_ ?_ | refine' m_cb ?_ ?_))
local macro_rules | `(tactic| walk_at "go") => `(tactic| repeat' (first | walk_at "s" | walk_at "v" | walk_at "a" | walk_at "x" | walk_at "m" | walk_at "c" | walk_at "i" | walk_at "d"))

section
variable {P : Program} {w : World} {K : PySem.W.Frag} {mg : Str → Option Value} {base : Heap}
theorem ok_StoreError_init (M : InitAt K "__init__" "StoreError.__init__" s_StoreError_init ["self"]) (z : mg "ValueError" = none) (vV : PySem.W.findCls K (.type "ValueError") (.type "type") "__init__" = some (.val (.builtin "ValueError.__init__"))) : FnOk P w K mg base CX0 1 M.f M.fd ["self"] (sp_exc_init K) := by
  refine M.F.ok sc_StoreError_init (fun vs H Q E h => ?_) (fun cdv A outer s H vs Q E hr h => ?_)
  · obtain ⟨a, C, rfl, _⟩ := h
    rfl
  · obtain ⟨a, C, rfl, o, ha, k⟩ := h
    exact ⟨_, pss_one (ps_expr (pe_veinit (by rfl) z vV (pa_cons (pv 0) pa_nil))), _, rfl, a, C, [], rfl, by decide, o, ha, k⟩
end
end Vw

set_option Elab.async false
set_option linter.all false
set_option maxRecDepth 100000
set_option maxHeartbeats 4000000
namespace Vw
open PySem PySem.Spec PyProof.Rows L2 RT
local macro_rules | `(tactic| walk_at "s") => `(tactic| with_reducible first
  | refine' s_seq ?_ | refine' s_next ?_ | refine' s_set ?_ | refine' s_ret ?_ | refine' s_retN ?_ | refine' s_drop ?_ | refine' s_if ?_ | refine' s_ipI ?_
  | refine' e_c ?_ | refine' e_op ?_ | refine' e_un ?_ | refine' e_neg ?_ | refine' e_test ?_ | refine' e_tB ?_ | refine' e_bl ?_ | refine' e_and ?_ | refine' e_or ?_ | refine' e_not ?_
  | refine' e_andV ?_ | refine' e_orV ?_ | refine' e_notV ?_ | refine' e_kV ?_ | refine' e_ife ?_ | refine' e_nil ?_ | refine' e_cons ?_ | refine' e_cb ?_ | refine' e_call ?_ | refine' e_chain ?_
  | refine' o_addI ?_ | refine' o_eqI ?_ | refine' o_neI ?_ | refine' o_I0 ?_ | refine' o_pow16 ?_ | refine' o_pow17 ?_ | refine' o_pow18 ?_ | refine' o_pow19 ?_ | refine' o_pow30 ?_ | refine' o_pow31 ?_ | refine' o_pow1 ?_ | refine' o_pow2 ?_ | refine' o_pow3 ?_ | refine' o_pow4 ?_ | refine' o_pow5 ?_ | refine' o_pow6 ?_ | refine' o_pow9 ?_ | refine' o_pow10 ?_ | refine' o_pow12 ?_ | refine' o_pow15 ?_ | refine' o_pow20 ?_ | refine' e_lst ?_ | refine' e_tup ?_ | refine' iteT ?_ | refine' i_nt ?_ | refine' i_nf ?_ | refine' iteF ?_ | refine' c_int ?_ | refine' c_abs ?_ | refine' c_min2 ?_ | refine' c_max2 ?_ | refine' e_tru ?_ | refine' t_bl ?_ | refine' t_non ?_ | refine' t_int ?_ | refine' isN_non ?_ | refine' isN_int ?_ | refine' isN_ref ?_ | refine' isN_str ?_ | refine' isN_bl ?_ | refine' noN_non ?_ | refine' noN_int ?_ | refine' noN_ref ?_ | refine' noN_str ?_ | refine' noN_bl ?_
  | refine' s_brk ?_ | refine' s_cont ?_ | refine' s_for ?_ | refine' e_lc ?_ | refine' e_dc ?_ | refine' e_yes ?_ | refine' i_rng1 ?_ | refine' i_lst0 ?_ | refine' i_tup0 ?_ | refine' e_bm ?_ | refine' e_sl ?_ | refine' e_np ?_ | refine' e_pt ?_ | refine' e_ptI ?_ | refine' e_din ?_ | refine' e_dnin ?_ | refine' e_methE ?_ | refine' p_cons ?_ | refine' p_nil ?_ | refine' s_dput ?_ | refine' e_dget2 ?_ | refine' e_dpop1 ?_ | refine' i_enum0 ?_ | refine' i_rev0 ?_ | refine' g_sub ?_ | refine' s_asg ?_ | refine' i_zip0 ?_ | refine' e_revT ?_ | refine' isB_bl ?_ | refine' notB_bl ?_ | refine' o_neB ?_ | refine' i_nrr ?_ | refine' e_meth ?_ | refine' s_setf ?_ | refine' e_fld ?_ | refine' e_bm0 ?_ | refine' r_tx ?_ | refine' o_eqStr ?_ | refine' o_neStr ?_)
local macro_rules | `(tactic| walk_at "v") => `(tactic| ((with_reducible refine' e_var ?hv ?_); (case hv => exact rfl)))
local macro_rules | `(tactic| walk_at "a") => `(tactic| ((with_reducible refine' s_aug ?hv ?_); (case hv => exact rfl)))
local macro_rules | `(tactic| walk_at "m") => `(tactic| first
  | ((with_reducible refine' o_mod ?hv ?_); (case hv => first | decide | omega))
  | ((with_reducible refine' o_mulR ?hv ?_); (case hv => omega))
  | ((with_reducible refine' o_mulL ?hv ?_); (case hv => omega))
  | ((with_reducible refine' o_div ?hv ?hw ?_); (case hv => omega); (case hw => omega))
  | ((with_reducible refine' o_pow _ ?hv ?hw ?hx ?_); (case hv => exact rfl); (case hw => decide); (case hx => decide)))
local macro_rules | `(tactic| walk_at "i") => `(tactic| (first
  | ((with_reducible refine' isi_int true ?hv ?_); (case hv => exact (by decide +kernel)))
  | ((with_reducible refine' isi_int false ?hv ?_); (case hv => exact (by decide +kernel)))
  | ((with_reducible refine' isi_non true ?hv ?_); (case hv => exact (by decide +kernel)))
  | ((with_reducible refine' isi_non false ?hv ?_); (case hv => exact (by decide +kernel)))
  | ((with_reducible refine' isi_str true ?hv ?_); (case hv => exact (by decide +kernel)))
  | ((with_reducible refine' isi_str false ?hv ?_); (case hv => exact (by decide +kernel)))
  | ((with_reducible refine' isi_bl true ?hv ?_); (case hv => exact (by decide +kernel)))
  | ((with_reducible refine' isi_bl false ?hv ?_); (case hv => exact (by decide +kernel)))
  | ((with_reducible refine' isi_t true ?hw ?hv ?_); (case hw => assumption); (case hv => exact (by decide +kernel)))
  | ((with_reducible refine' isi_t false ?hw ?hv ?_); (case hw => assumption); (case hv => exact (by decide +kernel)))
  | ((with_reducible refine' isi_l true ?hw ?hv ?_); (case hw => assumption); (case hv => exact (by decide +kernel)))
  | ((with_reducible refine' isi_l false ?hw ?hv ?_); (case hw => assumption); (case hv => exact (by decide +kernel)))
  | ((with_reducible refine' isi_tup true ?hw ?hv ?_); (case hw => assumption); (case hv => exact (by decide +kernel)))
  | ((with_reducible refine' isi_tup false ?hw ?hv ?_); (case hw => assumption); (case hv => exact (by decide +kernel)))
  | ((with_reducible refine' isi_lst true ?hw ?hv ?_); (case hw => assumption); (case hv => exact (by decide +kernel)))
  | ((with_reducible refine' isi_lst false ?hw ?hv ?_); (case hw => assumption); (case hv => exact (by decide +kernel)))))
local macro_rules | `(tactic| walk_at "om") => `(tactic| first | omega | (simp only [List.length_cons, List.length_nil, List.length_map, List.length_append, List.length_range]; omega))
local macro_rules | `(tactic| walk_at "d") => `(tactic| (first
  | ((with_reducible refine' i_dt ?hv ?_); (case hv => walk_at "om"))
  | ((with_reducible refine' i_df ?hv ?_); (case hv => walk_at "om"))
  | ((with_reducible refine' i_ndt ?hv ?_); (case hv => walk_at "om"))
  | ((with_reducible refine' i_ndf ?hv ?_); (case hv => walk_at "om"))))
local macro_rules | `(tactic| walk_at "x") => `(tactic| first
  | ((with_reducible refine' o_ixA ?hv ?hw ?_); (case hv => assumption); (case hw => exact rfl))
  | ((with_reducible refine' o_ixU ?hv ?hw ?_); (case hv => assumption); (case hw => exact rfl))
  | ((with_reducible refine' o_ixL ?hv ?hw ?_); (case hv => assumption); (case hw => exact rfl))
  | ((with_reducible refine' o_ixT ?hv ?hw ?_); (case hv => assumption); (case hw => exact rfl))
  | ((with_reducible refine' set_ ?hv ?hw ?_); (case hv => assumption); (case hw => exact rfl))
  | ((with_reducible refine' e_lenM ?hv ?_); (case hv => first | assumption | exact slO (by assumption)))
  | ((with_reducible refine' e_lenN ?hv ?_); (case hv => first | assumption | exact stO (by assumption)))
  | ((with_reducible refine' e_lenL ?hv ?_); (case hv => first | assumption | exact slO (by assumption)))
  | ((with_reducible refine' e_lenT ?hv ?_); (case hv => first | assumption | exact stO (by assumption))))
local macro_rules | `(tactic| walk_at "c") => `(tactic| first
  | ((with_reducible refine' c_listL ?hv ?_); (case hv => assumption))
  | ((with_reducible refine' c_listT ?hv ?_); (case hv => assumption))
  | ((with_reducible refine' c_tupL ?hv ?_); (case hv => first | assumption | exact slO (by assumption)))
  | ((with_reducible refine' c_tupT ?hv ?_); (case hv => assumption))
  | ((with_reducible refine' t_lst ?hv ?_); (case hv => first | assumption | exact slO (by assumption)))
  | ((with_reducible refine' t_tup ?hv ?_); (case hv => assumption))
  | ((with_reducible refine' r_sl ?hv ?_); (case hv => first | assumption | exact slO (by assumption)))
  | ((with_reducible refine' o_inL ?hv ?_); (case hv => first | assumption | exact slO (by assumption)))
  | ((with_reducible refine' o_inT ?hv ?_); (case hv => first | assumption | exact stO (by assumption)))
  | ((with_reducible refine' o_niL ?hv ?_); (case hv => first | assumption | exact slO (by assumption)))
  | ((with_reducible refine' o_niT ?hv ?_); (case hv => first | assumption | exact stO (by assumption)))
  | ((with_reducible refine' ty_lst ?hv ?_); (case hv => assumption)))
local macro_rules | `(tactic| walk_at "mo") => `(tactic| repeat' (first | exact m_yes | exact m_var | exact m_c | exact m_I0 | exact m_I | exact m_ix | exact m_add | exact m_in | exact m_int1 | exact m_abs | exact m_nil | refine' m_and ?_ ?_ | refine' m_test ?_ | refine' m_tB ?_ | refine' m_op ?_ ?_ ?_ | refine' m_cons ?_ ?_ | refine' m_cb ?_ ?_))
local macro_rules | `(tactic| walk_at "go") => `(tactic| repeat' (first | walk_at "s" | walk_at "v" | walk_at "a" | walk_at "x" | walk_at "m" | walk_at "c" | walk_at "i" | walk_at "d"))

section
variable {P : Program} {w : World} {K : PySem.W.Frag} {mg : Str → Option Value} {base : Heap}
/-! ### kinds of numbers -/
abbrev isI : V → Bool
  | .int _ => true
  | _ => false
abbrev isN : V → Bool
  | .int i => decide (0 ≤ i)
  | _ => false
abbrev plainV : V → Bool
  | .int _ => true | .non => true | .bl _ => true | .str _ => true
  | _ => false
abbrev within (x : V) (lo hi : Int) : Bool := match x with
  | .int i => decide (lo ≤ i) && decide (i ≤ hi)
  | _ => false
abbrev markB : V → Bool
  | .non => true
  | x => within x (-1000000000000000000) 1000000000000000000
/-- something that is no scalar: a tuple (b), or something else -/
structure Kd (K : PySem.W.Frag) (H : Hp) (v : V) (b : Bool) : Prop where
  ex : ∃ (a : Addr) (t : Value), v = .ref a ∧ TyX K H v t ∧ PySem.W.kitOne K t (.type "int") = some false ∧ PySem.W.kitOne K t (.type "bool") = some false ∧ PySem.W.kitOne K t (.type "str") = some false ∧ PySem.W.kitOne K t (.type "tuple") = some b
theorem Kd.tup {H : Hp} {a : Addr} {xs : List V} (h : SqT K H a xs) : Kd K H (.ref a) true := ⟨a, _, rfl, tyx_st h, kit_ty (by decide +kernel), kit_ty (by decide +kernel), kit_ty (by decide +kernel), kit_ty (by decide +kernel)⟩
theorem Kd.lst {H : Hp} {a : Addr} {xs : List V} (h : H a = some (.lst xs)) : Kd K H (.ref a) false := ⟨a, _, rfl, .base (.lst h), kit_ty (by decide +kernel), kit_ty (by decide +kernel), kit_ty (by decide +kernel), kit_ty (by decide +kernel)⟩
theorem Kd.dct {H : Hp} {a : Addr} {kvs : List (Key × V)} (h : H a = some (.dK kvs)) : Kd K H (.ref a) false := ⟨a, _, rfl, .base (.dK h), kit_ty (by decide +kernel), kit_ty (by decide +kernel), kit_ty (by decide +kernel), kit_ty (by decide +kernel)⟩
section
variable {H : Hp} {v : V} {b : Bool} {Q : VK}
theorem Kd.int (h : Kd K H v b) (q : Q (.bl false) H) : rIsi K [v, .ty "int"] H Q := by
  obtain ⟨a, t, rfl, ty, h1, h2, h3, h4⟩ := h
  exact ⟨_, _, t, _, false, rfl, .ty _, ty, h1, q⟩
theorem Kd.str (h : Kd K H v b) (q : Q (.bl false) H) : rIsi K [v, .ty "str"] H Q := by
  obtain ⟨a, t, rfl, ty, h1, h2, h3, h4⟩ := h
  exact ⟨_, _, t, _, false, rfl, .ty _, ty, h3, q⟩
theorem Kd.tpl (h : Kd K H v b) (q : Q (.bl b) H) : rIsi K [v, .ty "tuple"] H Q := by
  obtain ⟨a, t, rfl, ty, h1, h2, h3, h4⟩ := h
  exact ⟨_, _, t, _, b, rfl, .ty _, ty, h4, q⟩
theorem Kd.ref (h : Kd K H v b) : ∃ a, v = .ref a := by
  obtain ⟨a, _, e, _⟩ := h.ex
  exact ⟨a, e⟩
end
/-- a scalar, or anything else -/
def Od (K : PySem.W.Frag) (H : Hp) (v : V) : Prop := plainV v = true ∨ ∃ b, Kd K H v b
def OdS (K : PySem.W.Frag) (H : Hp) (v : V) : Prop := (match v with | .str z => decide (z.length ≤ 100000) | x => plainV x) = true ∨ ∃ b, Kd K H v b
def sp_is_integer (K : PySem.W.Frag) : Sp := fun vs H Q _ => ∃ x, vs = [x] ∧ Od K H x ∧ Q (.bl (isI x)) H
theorem ok_is_integer (T : Txt K mg) : FnOk P w K mg base CX0 1 T.is_integer.f T.is_integer.fd ["thing"] (sp_is_integer K) := by
  refine T.is_integer.F.ok sc_is_integer (fun vs H Q E h => ?_) (fun cdv A outer s H vs Q E hr h => ?_)
  · obtain ⟨x, rfl, _⟩ := h
    rfl
  · obtain ⟨x, rfl, hp, k⟩ := h
    refine ⟨_, (pss_one (ps_ret (pe_and (pe_callB (cIsi (K := K)) (by rfl) T.z_isinstance (by decide +kernel) (pa_cons (pv 0) (pa_cons (pe_bltn (v := .ty "int") (by rfl) T.z_int (by decide +kernel) rfl) pa_nil))) (pe_one (pe_not (pe_callB (cIsi (K := K)) (by rfl) T.z_isinstance (by decide +kernel) (pa_cons (pv 0) (pa_cons (pe_bltn (v := .ty "bool") (by rfl) T.z_bool (by decide +kernel) rfl) pa_nil)))))))), ?_⟩
    rcases hp with hp | ⟨b, hp⟩
    rotate_left 1
    · walk_at "go"
      refine hp.int ?_
      obtain ⟨a, rfl⟩ := hp.ref
      walk_at "go"
      exact k
    cases x with
    | int a => walk_at "go"; exact k
    | non => walk_at "go"; exact k
    | bl b => walk_at "go"; exact k
    | str z => walk_at "go"; exact k
    | _ => cases hp
def sp_is_within (K : PySem.W.Frag) : Sp := fun vs H Q _ => ∃ x lo hi, vs = [x, .int lo, .int hi] ∧ Od K H x ∧ Q (.bl (within x lo hi)) H
theorem ok_is_within (T : Txt K mg) : FnOk P w K mg base CX0 2 T.is_within.f T.is_within.fd ["thing", "low", "high"] (sp_is_within K) := by
  refine T.is_within.F.ok sc_is_within (fun vs H Q E h => ?_) (fun cdv A outer s H vs Q E hr h => ?_)
  · obtain ⟨x, lo, hi, rfl, _⟩ := h
    rfl
  · obtain ⟨x, lo, hi, rfl, hp, k⟩ := h
    refine ⟨_, (pss_one (ps_ret (pe_and (pe_call (ok_is_integer T) (hr.mono (by decide)) (by rfl) T.is_integer.g T.is_integer.F.kp T.is_integer.b .nil pass0 (pa_cons (pv 0) pa_nil)) (pe_one (pe_chain op_le op_le (pv 1) (pv 0) (pv 2)))))), ?_⟩
    walk_at "go"
    refine ⟨x, rfl, hp, ?_⟩
    rcases hp with hp | ⟨b, hp⟩
    rotate_left 1
    · obtain ⟨a, rfl⟩ := hp.ref
      walk_at "go"
      exact k
    cases x with
    | int a =>
      walk_at "go"
      refine i_d (fun h1 => ?_) (fun h1 => ?_)
      · walk_at "go"
        simpa [within, h1] using k
      · walk_at "go"
        simpa [within, h1] using k
    | non => walk_at "go"; exact k
    | bl b => walk_at "go"; exact k
    | str z => walk_at "go"; exact k
    | _ => cases hp
def sp_is_number (K : PySem.W.Frag) : Sp := fun vs H Q _ => ∃ x, vs = [x] ∧ Od K H x ∧ Q (.bl (isN x)) H
theorem ok_is_number (T : Txt K mg) : FnOk P w K mg base CX0 2 T.is_number.f T.is_number.fd ["thing"] (sp_is_number K) := by
  refine T.is_number.F.ok sc_is_number (fun vs H Q E h => ?_) (fun cdv A outer s H vs Q E hr h => ?_)
  · obtain ⟨x, rfl, _⟩ := h
    rfl
  · obtain ⟨x, rfl, hp, k⟩ := h
    refine ⟨_, (pss_one (ps_ret (pe_and (pe_call (ok_is_integer T) (hr.mono (by decide)) (by rfl) T.is_integer.g T.is_integer.F.kp T.is_integer.b .nil pass0 (pa_cons (pv 0) pa_nil)) (pe_one (pe_cmpR op_ge (pv 0) pe_int (nomark _)))))), ?_⟩
    walk_at "go"
    refine ⟨x, rfl, hp, ?_⟩
    rcases hp with hp | ⟨b, hp⟩
    rotate_left 1
    · obtain ⟨a, rfl⟩ := hp.ref
      walk_at "go"
      exact k
    cases x with
    | int a => walk_at "go"; exact k
    | non => walk_at "go"; exact k
    | bl b => walk_at "go"; exact k
    | str z => walk_at "go"; exact k
    | _ => cases hp
/-! ### words and items -/
def wordB (z : Str) : Bool := decide (z.length ≤ 12) && (decide (z = "") || (Txt.isascii z && (Txt.isalpha z && Txt.islower z)))
abbrev smallV (x : V) : Bool := match x with
  | .str z => decide (z.length ≤ 100000)
  | x => plainV x
theorem small_plain {x : V} (h : smallV x = true) : plainV x = true := by
  cases x <;> first | rfl | exact h
abbrev isW : V → Bool
  | .str z => wordB z
  | _ => false
theorem OdS.od {H : Hp} {v : V} (h : OdS K H v) : Od K H v := h.imp (fun h => small_plain h) id
def sp_is_word (K : PySem.W.Frag) : Sp := fun vs H Q _ => ∃ x, vs = [x] ∧ OdS K H x ∧ Q (.bl (isW x)) H
theorem ok_is_word (T : Txt K mg) : FnOk P w K mg base CX0 1 T.is_word.f T.is_word.fd ["thing"] (sp_is_word K) := by
  refine T.is_word.F.ok sc_is_word (fun vs H Q E h => ?_) (fun cdv A outer s H vs Q E hr h => ?_)
  · obtain ⟨x, rfl, _⟩ := h
    rfl
  · obtain ⟨x, rfl, hp, k⟩ := h
    refine ⟨_, (pss_cons (ps_if (PW.pt (pw_or (pt_not (ptTruth (K := K) (pe_callB (cIsi (K := K)) (by rfl) T.z_isinstance (by decide +kernel) (pa_cons (pv 0) (pa_cons (pe_bltn (v := .ty "str") (by rfl) T.z_str (by decide +kernel) rfl) pa_nil))) (by intro _; rfl))) (pw_or1 (pt_cmpR op_gt (pe_callB (cLen (K := K)) (by rfl) T.z_len PySem.boot_len (pa_cons (pv 0) pa_nil)) (pe_glob (by rfl) T.c_LONGEST_WORD.h T.c_LONGEST_WORD.r) (nomark _))))) (pss_one (ps_ret pe_bl)) pss_nil)
    (pss_one (ps_ret (pe_or (pe_cmpR (oEq (K := K) hr.units) (pv 0) pe_str (nomark _)) (pe_one (pe_and (peIsascii (K := K) (pv 0)) (pe_and (peIsalpha (K := K) (pv 0)) (pe_one (peIslower (K := K) (pv 0)))))))))), ?_⟩
    rcases hp with hp | ⟨b, hp⟩
    rotate_left 1
    · walk_at "go"
      refine hp.str ?_
      obtain ⟨a, rfl⟩ := hp.ref
      walk_at "go"
      exact k
    cases x with
    | int a => walk_at "go"; exact k
    | non => walk_at "go"; exact k
    | bl b => walk_at "go"; exact k
    | str z =>
      have hz : z.length ≤ 100000 := of_decide_eq_true hp
      walk_at "go"
      refine e_lenS hz ?_
      walk_at "go"
      have k : Q (.bl (wordB z)) H := k
      unfold wordB at k
      refine i_d (fun q => ?_) (fun q => ?_)
      · rw [decide_eq_false (show ¬ z.length ≤ 12 by omega)] at k
        walk_at "go"
        exact k
      · rw [decide_eq_true (show z.length ≤ 12 by omega), Bool.true_and] at k
        walk_at "go"
        refine i_d (fun q2 => ?_) (fun q2 => ?_)
        · rw [decide_eq_true q2, Bool.true_or] at k
          walk_at "go"
          exact k
        · rw [decide_eq_false q2, Bool.false_or] at k
          walk_at "go"
          cases e1 : Txt.isascii z with
          | false =>
            rw [e1] at k
            walk_at "go"
            exact k
          | true =>
            rw [e1, Bool.true_and] at k
            walk_at "go"
            cases e2 : Txt.isalpha z with
            | false =>
              rw [e2] at k
              walk_at "go"
              exact k
            | true =>
              rw [e2, Bool.true_and] at k
              walk_at "go"
              exact k
    | _ => cases hp
def itemB (x : V) : Bool := isW x || within x (-1000000000000000000000000000000) 1000000000000000000000000000000
def sp_is_item (K : PySem.W.Frag) : Sp := fun vs H Q _ => ∃ x, vs = [x] ∧ OdS K H x ∧ Q (.bl (itemB x)) H
theorem ok_is_item (T : Txt K mg) : FnOk P w K mg base CX0 3 T.is_item.f T.is_item.fd ["thing"] (sp_is_item K) := by
  refine T.is_item.F.ok sc_is_item (fun vs H Q E h => ?_) (fun cdv A outer s H vs Q E hr h => ?_)
  · obtain ⟨x, rfl, _⟩ := h
    rfl
  · obtain ⟨x, rfl, hp, k⟩ := h
    refine ⟨_, (pss_one (ps_ret (pe_or (pe_call (ok_is_word T) (hr.mono (by decide)) (by rfl) T.is_word.g T.is_word.F.kp T.is_word.b .nil pass0 (pa_cons (pv 0) pa_nil)) (pe_one (pe_call (ok_is_within T) (hr.mono (by decide)) (by rfl) T.is_within.g T.is_within.F.kp T.is_within.b .nil pass0 (pa_cons (pv 0) (pa_cons (pe_un un_neg (pe_glob (by rfl) T.c_GREATEST_ITEM.h T.c_GREATEST_ITEM.r)) (pa_cons (pe_glob (by rfl) T.c_GREATEST_ITEM.h T.c_GREATEST_ITEM.r) pa_nil)))))))), ?_⟩
    walk_at "go"
    refine ⟨x, rfl, hp, ?_⟩
    unfold itemB at k
    cases e : isW x with
    | true =>
      rw [e] at k
      walk_at "go"
      exact k
    | false =>
      rw [e, Bool.false_or] at k
      walk_at "go"
      exact ⟨x, _, _, rfl, hp.od, k⟩
/-! ### lots -/
def ascF (ns : List Int) (k : Nat) : Bool := decide (ns.getD k 0 < ns.getD (k + 1) 0)
def ascB (ns : List Int) : Bool := ((List.range (ns.length - 1)).map (ascF ns)).all id
def sp_is_ascending (K : PySem.W.Frag) : Sp := fun vs H Q _ => ∃ a ns, vs = [.ref a] ∧ SqT K H a (ns.map V.int) ∧ ns.length ≤ 1000 ∧ ∀ H', Same H H' → Q (.bl (ascB ns)) H'
theorem ok_is_ascending (T : Txt K mg) : FnOk P w K mg base CX0 1 T.is_ascending.f T.is_ascending.fd ["row"] (sp_is_ascending K) := by
  refine T.is_ascending.F.ok sc_is_ascending (fun vs H Q E h => ?_) (fun cdv A outer s H vs Q E hr h => ?_)
  · obtain ⟨a, ns, rfl, _⟩ := h
    rfl
  · obtain ⟨a, ns, rfl, hS, hl, k⟩ := h
    refine ⟨_, (pss_one (ps_ret (pe_callB (cAll (K := K) rfl) (by rfl) T.z_all (by decide +kernel) (pa_cons (pe_lc (own := [("k", 1)]) rfl sc_is_ascending.nd (pi_range1 (by rfl) T.z_range (pa_cons (pe_op op_sub (pe_callB (cLen (K := K)) (by rfl) T.z_len PySem.boot_len (pa_cons (pv 0) pa_nil)) pe_int) pa_nil)) (blkOk_by (N := n_is_ascending) (sc := defScope s_is_ascending) (by decide +kernel)) (fun _ _ _ _ _ => (pg_name (i := 1) sc_is_ascending.nd rfl (Or.inl rfl))) (fun _ _ _ _ _ => pts_nil) (fun _ _ _ _ _ => (pe_cmpR oLt (pe_ix (ixLT (K := K)) (pv 0) (pv 1) (fun _ _ => rfl)) (pe_ix (ixLT (K := K)) (pv 0) (pe_op oAdd (pv 1) pe_int) (fun _ _ => rfl)) (nomark _)))) pa_nil)))), ?_⟩
    walk_at "go"
    refine i_rng (ns.length - 1) (by omega) (by omega) (by omega) ?_
    refine c_rng (fun i acc H1 => Same H H1 ∧ acc = ((List.range i).map (ascF ns)).map V.bl) (fun D hD => ⟨upd_free (Same.refl _) hD, rfl⟩) (fun acc D H1 hD hp p => ?_) (fun _ => rfl) (fun i acc H1 D hi hD hp p => ?_)
    · obtain ⟨p1, rfl⟩ := p
      walk_at "go"
      exact e_allB hp (k _ p1)
    · obtain ⟨p1, rfl⟩ := p
      have hS1 := st_ p1 hS
      walk_at "go"
      refine o_ixT hS1 (atI_map i rfl (by omega)) ?_
      walk_at "go"
      refine o_ixT hS1 (atI_map (i + 1) (by omega) (by omega)) ?_
      walk_at "go"
      refine ⟨_, hp, lt_size (by simp; omega), _, upd_same, upd_free p1 hD, ?_⟩
      rw [List.range_succ, List.map_append, List.map_append]; rfl
def lotB (ns : List Int) : Bool := ns.all (fun i => decide (0 ≤ i)) && ascB ns
def vInt : V → Int
  | .int i => i
  | _ => 0
def lotV (xs : List V) : Bool := xs.all isN && ascB (xs.map vInt)
theorem all_nums : ∀ {xs : List V}, xs.all isN = true → xs = (xs.map vInt).map V.int
  | [], _ => rfl
  | x :: xs, h => by
    rw [List.all_cons, Bool.and_eq_true] at h
    have e : x = V.int (vInt x) := by
      cases x with
      | int i => rfl
      | _ => cases h.1
    rw [List.map_cons, List.map_cons, ← all_nums h.2, ← e]
theorem ty_same {H H' : Hp} {v : V} {t : Value} (h : TyX K H v t) (s : Same H H') : TyX K H' v t := by
  cases h with
  | base h =>
    refine .base ?_
    cases h with
    | non => exact .non
    | bl x => exact .bl x
    | int i => exact .int i
    | str x => exact .str x
    | flt x => exact .flt x
    | lst e => exact .lst (s _ _ e)
    | frz e => exact .frz (s _ _ e)
    | tup e => exact .tup (s _ _ e)
    | dK e => exact .dK (s _ _ e)
    | dT e => exact .dT (s _ _ e)
    | ins e cl ha hn htk hm => exact .ins (s _ _ e) cl ha hn htk hm
  | byt b => exact .byt b
  | set e => exact .set (s _ _ e)
  | kList e c => exact .kList e c
  | kTuple e c => exact .kTuple e c
  | kDict e c => exact .kDict e c
  | fTuple e => exact .fTuple (s _ _ e)
  | fDict e => exact .fDict (s _ _ e)
theorem Kd.same {H H' : Hp} {v : V} {b : Bool} (h : Kd K H v b) (s : Same H H') : Kd K H' v b := by
  obtain ⟨a, t, rfl, ty, r⟩ := h
  exact ⟨a, t, rfl, ty_same ty s, r⟩
theorem Od.same {H H' : Hp} {v : V} (h : Od K H v) (s : Same H H') : Od K H' v := h.imp id fun ⟨b, h⟩ => ⟨b, h.same s⟩
theorem OdS.same {H H' : Hp} {v : V} (h : OdS K H v) (s : Same H H') : OdS K H' v := h.imp id fun ⟨b, h⟩ => ⟨b, h.same s⟩
/-- a thing with a look into it: a scalar, something that is no tuple, or a tuple of such -/
inductive Th (K : PySem.W.Frag) (H : Hp) : V → Option (List V) → Prop
  | od {v : V} (h : (match v with | .str z => decide (z.length ≤ 100000) | x => plainV x) = true ∨ Kd K H v false) : Th K H v none
  | tup {a : Addr} {xs : List V} (h : SqT K H a xs) (l : xs.length ≤ 1000) (i : ∀ x ∈ xs, OdS K H x) : Th K H (.ref a) (some xs)
theorem Th.ods {H : Hp} {v : V} {o : Option (List V)} (h : Th K H v o) : OdS K H v := by
  cases h with
  | od h => exact h.imp id fun h => ⟨false, h⟩
  | tup h l i => exact .inr ⟨true, Kd.tup h⟩
theorem Th.same {H H' : Hp} {v : V} {o : Option (List V)} (h : Th K H v o) (s : Same H H') : Th K H' v o := by
  cases h with
  | od h => exact .od (h.imp id fun h => h.same s)
  | tup h l i => exact .tup (st_ s h) l fun x hx => (i x hx).same s
def lotO : Option (List V) → Bool
  | some xs => lotV xs
  | none => false
def sp_is_lot (K : PySem.W.Frag) : Sp := fun vs H Q _ => ∃ v o, vs = [v] ∧ Th K H v o ∧ ∀ H', Same H H' → Q (.bl (lotO o)) H'
theorem ok_is_lot (T : Txt K mg) : FnOk P w K mg base CX0 3 T.is_lot.f T.is_lot.fd ["thing"] (sp_is_lot K) := by
  refine T.is_lot.F.ok sc_is_lot (fun vs H Q E h => ?_) (fun cdv A outer s H vs Q E hr h => ?_)
  · obtain ⟨v, o, rfl, _⟩ := h
    rfl
  · obtain ⟨v, o, rfl, hv, k⟩ := h
    refine ⟨_, (pss_one (ps_ret (pe_and (pe_callB (cIsi (K := K)) (by rfl) T.z_isinstance (by decide +kernel) (pa_cons (pv 0) (pa_cons (pe_bltn (v := .ty "tuple") (by rfl) T.z_tuple (by decide +kernel) rfl) pa_nil))) (pe_and (pe_callB (cAll (K := K) rfl) (by rfl) T.z_all (by decide +kernel) (pa_cons (pe_lc (own := [("item", 1)]) rfl sc_is_lot.nd (piT (K := K) (pv 0)) (blkOk_by (N := n_is_lot) (sc := defScope s_is_lot) (by decide +kernel)) (fun _ _ _ _ _ => (pg_name (i := 1) sc_is_lot.nd rfl (Or.inl rfl))) (fun _ _ _ _ _ => pts_nil) (fun _ _ _ _ _ => (pe_call (ok_is_number T) (hr.mono (by decide)) (by rfl) T.is_number.g T.is_number.F.kp T.is_number.b .nil pass0 (pa_cons (pv 1) pa_nil)))) pa_nil)) (pe_one (pe_call (ok_is_ascending T) (hr.mono (by decide)) (by rfl) T.is_ascending.g T.is_ascending.F.kp T.is_ascending.b .nil pass0 (pa_cons (pv 0) pa_nil))))))), ?_⟩
    cases hv with
    | od hv =>
      rcases hv with hp | hp
      · cases v with
        | int a => walk_at "go"; exact k _ (Same.refl _)
        | non => walk_at "go"; exact k _ (Same.refl _)
        | bl b => walk_at "go"; exact k _ (Same.refl _)
        | str z => walk_at "go"; exact k _ (Same.refl _)
        | _ => cases hp
      · walk_at "go"
        refine hp.tpl ?_
        walk_at "go"
        exact k _ (Same.refl _)
    | @tup a xs hS hl hi =>
      walk_at "go"
      refine i_tup hS ?_
      refine c_tup (xs := xs) (fun i acc H1 => Same H H1 ∧ acc = ((xs.take i).map isN).map V.bl) (fun D hD => ⟨upd_free (Same.refl _) hD, rfl⟩) (fun i acc H1 hi p => st_ p.1 hS) (fun acc D H1 hD hp p => ?_) (fun _ => rfl) (fun i x acc H1 D hx hD hp p => ?_)
      · obtain ⟨p1, rfl⟩ := p
        walk_at "go"
        refine e_allB hp ?_
        walk_at "go"
        have e0 : (List.map isN (List.take xs.length xs)).all id = xs.all isN := by
          rw [List.take_length, List.all_map]; rfl
        rw [e0]
        cases e1 : xs.all isN with
        | true =>
          walk_at "go"
          refine ⟨a, xs.map vInt, rfl, by rw [← all_nums e1]; exact st_ p1 hS, by rw [List.length_map]; exact hl, fun H2 s2 => ?_⟩
          have e2 : lotO (some xs) = ascB (xs.map vInt) := by show (xs.all isN && ascB (xs.map vInt)) = _; rw [e1]; rfl
          rw [← e2]
          exact k _ (p1.trans s2)
        | false =>
          walk_at "go"
          have e2 : lotO (some xs) = false := by show (xs.all isN && ascB (xs.map vInt)) = _; rw [e1]; rfl
          rw [← e2]
          exact k _ p1
      · obtain ⟨p1, rfl⟩ := p
        have hi2 : i < xs.length := (List.getElem?_eq_some_iff.mp hx).1
        walk_at "go"
        refine ⟨x, rfl, ((hi x (List.mem_of_getElem? hx)).same p1).od, ?_⟩
        refine ⟨_, hp, lt_size (by simp; omega), _, upd_same, upd_free p1 hD, ?_⟩
        rw [List.take_add_one, hx, List.map_append, List.map_append]; rfl
def itemsB (xs : List V) (lo hi : Int) : Bool := decide (lo ≤ xs.length) && (decide ((xs.length : Int) ≤ hi) && xs.all itemB)
def itemsO (lo hi : Int) : Option (List V) → Bool
  | some xs => itemsB xs lo hi
  | none => false
def sp_is_items (K : PySem.W.Frag) : Sp := fun vs H Q _ => ∃ v o lo hi, vs = [v, .int lo, .int hi] ∧ Th K H v o ∧ ∀ H', Same H H' → Q (.bl (itemsO lo hi o)) H'
theorem ok_is_items (T : Txt K mg) : FnOk P w K mg base CX0 4 T.is_items.f T.is_items.fd ["thing", "least", "most"] (sp_is_items K) := by
  refine T.is_items.F.ok sc_is_items (fun vs H Q E h => ?_) (fun cdv A outer s H vs Q E hr h => ?_)
  · obtain ⟨v, o, lo, hi, rfl, _⟩ := h
    rfl
  · obtain ⟨v, o, lo, hi, rfl, hv, k⟩ := h
    refine ⟨_, (pss_one (ps_ret (pe_and (pe_callB (cIsi (K := K)) (by rfl) T.z_isinstance (by decide +kernel) (pa_cons (pv 0) (pa_cons (pe_bltn (v := .ty "tuple") (by rfl) T.z_tuple (by decide +kernel) rfl) pa_nil))) (pe_and (pe_chain op_le op_le (pv 1) (pe_callB (cLen (K := K)) (by rfl) T.z_len PySem.boot_len (pa_cons (pv 0) pa_nil)) (pv 2)) (pe_one (pe_callB (cAll (K := K) rfl) (by rfl) T.z_all (by decide +kernel) (pa_cons (pe_lc (own := [("item", 3)]) rfl sc_is_items.nd (piT (K := K) (pv 0)) (blkOk_by (N := n_is_items) (sc := defScope s_is_items) (by decide +kernel)) (fun _ _ _ _ _ => (pg_name (i := 3) sc_is_items.nd rfl (Or.inl rfl))) (fun _ _ _ _ _ => pts_nil) (fun _ _ _ _ _ => (pe_call (ok_is_item T) (hr.mono (by decide)) (by rfl) T.is_item.g T.is_item.F.kp T.is_item.b .nil pass0 (pa_cons (pv 3) pa_nil)))) pa_nil))))))), ?_⟩
    cases hv with
    | od hv =>
      rcases hv with hp | hp
      · cases v with
        | int a => walk_at "go"; exact k _ (Same.refl _)
        | non => walk_at "go"; exact k _ (Same.refl _)
        | bl b => walk_at "go"; exact k _ (Same.refl _)
        | str z => walk_at "go"; exact k _ (Same.refl _)
        | _ => cases hp
      · walk_at "go"
        refine hp.tpl ?_
        walk_at "go"
        exact k _ (Same.refl _)
    | @tup a xs hS hl hx =>
      walk_at "go"
      have k : ∀ H', Same H H' → Q (.bl (itemsB xs lo hi)) H' := k
      unfold itemsB at k
      refine i_d (fun q1 => ?_) (fun q1 => ?_)
      · rw [decide_eq_true q1, Bool.true_and] at k
        walk_at "go"
        refine i_d (fun q2 => ?_) (fun q2 => ?_)
        · rw [decide_eq_true q2, Bool.true_and] at k
          walk_at "go"
          refine i_tup hS ?_
          refine c_tup (xs := xs) (fun i acc H1 => Same H H1 ∧ acc = ((xs.take i).map itemB).map V.bl) (fun D hD => ⟨upd_free (Same.refl _) hD, rfl⟩) (fun i acc H1 hi p => st_ p.1 hS) (fun acc D H1 hD hp p => ?_) (fun _ => rfl) (fun i x acc H1 D hx1 hD hp p => ?_)
          · obtain ⟨p1, rfl⟩ := p
            walk_at "go"
            refine e_allB hp ?_
            rw [List.take_length, List.all_map]
            exact k _ p1
          · obtain ⟨p1, rfl⟩ := p
            have hi : i < xs.length := (List.getElem?_eq_some_iff.mp hx1).1
            walk_at "go"
            refine ⟨x, rfl, (hx x (List.mem_of_getElem? hx1)).same p1, ?_⟩
            refine ⟨_, hp, lt_size (by simp; omega), _, upd_same, upd_free p1 hD, ?_⟩
            rw [List.take_add_one, hx1, List.map_append, List.map_append]; rfl
        · rw [decide_eq_false q2] at k
          simp only [Bool.false_and] at k
          walk_at "go"
          exact k _ (Same.refl _)
      · rw [decide_eq_false q1, Bool.false_and] at k
        walk_at "go"
        exact k _ (Same.refl _)
end
end Vw

set_option Elab.async false
set_option linter.all false
set_option maxRecDepth 100000
set_option maxHeartbeats 4000000
namespace Vw
open PySem PySem.Spec PyProof.Rows L2 RT
local macro_rules | `(tactic| walk_at "s") => `(tactic| with_reducible first
  | refine' s_seq ?_ | refine' s_next ?_ | refine' s_set ?_ | refine' s_ret ?_ | refine' s_retN ?_ | refine' s_drop ?_ | refine' s_if ?_ | refine' s_ipI ?_
  | refine' e_c ?_ | refine' e_op ?_ | refine' e_un ?_ | refine' e_neg ?_ | refine' e_test ?_ | refine' e_tB ?_ | refine' e_bl ?_ | refine' e_and ?_ | refine' e_or ?_ | refine' e_not ?_
  | refine' e_andV ?_ | refine' e_orV ?_ | refine' e_notV ?_ | refine' e_kV ?_ | refine' e_ife ?_ | refine' e_nil ?_ | refine' e_cons ?_ | refine' e_cb ?_ | refine' e_call ?_ | refine' e_chain ?_
  | refine' o_addI ?_ | refine' o_eqI ?_ | refine' o_neI ?_ | refine' o_I0 ?_ | refine' o_pow16 ?_ | refine' o_pow17 ?_ | refine' o_pow18 ?_ | refine' o_pow19 ?_ | refine' o_pow30 ?_ | refine' o_pow31 ?_ | refine' o_pow1 ?_ | refine' o_pow2 ?_ | refine' o_pow3 ?_ | refine' o_pow4 ?_ | refine' o_pow5 ?_ | refine' o_pow6 ?_ | refine' o_pow9 ?_ | refine' o_pow10 ?_ | refine' o_pow12 ?_ | refine' o_pow15 ?_ | refine' o_pow20 ?_ | refine' e_lst ?_ | refine' e_tup ?_ | refine' iteT ?_ | refine' i_nt ?_ | refine' i_nf ?_ | refine' iteF ?_ | refine' c_int ?_ | refine' c_abs ?_ | refine' c_min2 ?_ | refine' c_max2 ?_ | refine' e_tru ?_ | refine' t_bl ?_ | refine' t_non ?_ | refine' t_int ?_ | refine' isN_non ?_ | refine' isN_int ?_ | refine' isN_ref ?_ | refine' isN_str ?_ | refine' isN_bl ?_ | refine' noN_non ?_ | refine' noN_int ?_ | refine' noN_ref ?_ | refine' noN_str ?_ | refine' noN_bl ?_
  | refine' s_brk ?_ | refine' s_cont ?_ | refine' s_for ?_ | refine' e_lc ?_ | refine' e_dc ?_ | refine' e_yes ?_ | refine' i_rng1 ?_ | refine' i_lst0 ?_ | refine' i_tup0 ?_ | refine' e_bm ?_ | refine' e_sl ?_ | refine' e_np ?_ | refine' e_pt ?_ | refine' e_ptI ?_ | refine' e_din ?_ | refine' e_dnin ?_ | refine' e_methE ?_ | refine' p_cons ?_ | refine' p_nil ?_ | refine' s_dput ?_ | refine' e_dget2 ?_ | refine' e_dpop1 ?_ | refine' i_enum0 ?_ | refine' i_rev0 ?_ | refine' g_sub ?_ | refine' s_asg ?_ | refine' i_zip0 ?_ | refine' e_revT ?_ | refine' isB_bl ?_ | refine' notB_bl ?_ | refine' o_neB ?_ | refine' i_nrr ?_ | refine' e_meth ?_ | refine' s_setf ?_ | refine' e_fld ?_ | refine' e_bm0 ?_ | refine' r_tx ?_ | refine' o_eqStr ?_ | refine' o_neStr ?_)
local macro_rules | `(tactic| walk_at "v") => `(tactic| ((with_reducible refine' e_var ?hv ?_); (case hv => exact rfl)))
local macro_rules | `(tactic| walk_at "a") => `(tactic| ((with_reducible refine' s_aug ?hv ?_); (case hv => exact rfl)))
local macro_rules | `(tactic| walk_at "m") => `(tactic| first
  | ((with_reducible refine' o_mod ?hv ?_); (case hv => first | decide | omega))
  | ((with_reducible refine' o_mulR ?hv ?_); (case hv => omega))
  | ((with_reducible refine' o_mulL ?hv ?_); (case hv => omega))
  | ((with_reducible refine' o_div ?hv ?hw ?_); (case hv => omega); (case hw => omega))
  | ((with_reducible refine' o_pow _ ?hv ?hw ?hx ?_); (case hv => exact rfl); (case hw => decide); (case hx => decide)))
local macro_rules | `(tactic| walk_at "i") => `(tactic| (first
  | ((with_reducible refine' isi_int true ?hv ?_); (case hv => exact (by decide +kernel)))
  | ((with_reducible refine' isi_int false ?hv ?_); (case hv => exact (by decide +kernel)))
  | ((with_reducible refine' isi_non true ?hv ?_); (case hv => exact (by decide +kernel)))
  | ((with_reducible refine' isi_non false ?hv ?_); (case hv => exact (by decide +kernel)))
  | ((with_reducible refine' isi_str true ?hv ?_); (case hv => exact (by decide +kernel)))
  | ((with_reducible refine' isi_str false ?hv ?_); (case hv => exact (by decide +kernel)))
  | ((with_reducible refine' isi_bl true ?hv ?_); (case hv => exact (by decide +kernel)))
  | ((with_reducible refine' isi_bl false ?hv ?_); (case hv => exact (by decide +kernel)))
  | ((with_reducible refine' isi_t true ?hw ?hv ?_); (case hw => assumption); (case hv => exact (by decide +kernel)))
  | ((with_reducible refine' isi_t false ?hw ?hv ?_); (case hw => assumption); (case hv => exact (by decide +kernel)))
  | ((with_reducible refine' isi_l true ?hw ?hv ?_); (case hw => assumption); (case hv => exact (by decide +kernel)))
  | ((with_reducible refine' isi_l false ?hw ?hv ?_); (case hw => assumption); (case hv => exact (by decide +kernel)))
  | ((with_reducible refine' isi_tup true ?hw ?hv ?_); (case hw => assumption); (case hv => exact (by decide +kernel)))
  | ((with_reducible refine' isi_tup false ?hw ?hv ?_); (case hw => assumption); (case hv => exact (by decide +kernel)))
  | ((with_reducible refine' isi_lst true ?hw ?hv ?_); (case hw => assumption); (case hv => exact (by decide +kernel)))
  | ((with_reducible refine' isi_lst false ?hw ?hv ?_); (case hw => assumption); (case hv => exact (by decide +kernel)))))
local macro_rules | `(tactic| walk_at "om") => `(tactic| first | omega | (simp only [List.length_cons, List.length_nil, List.length_map, List.length_append, List.length_range]; omega))
local macro_rules | `(tactic| walk_at "d") => `(tactic| (first
  | ((with_reducible refine' i_dt ?hv ?_); (case hv => walk_at "om"))
  | ((with_reducible refine' i_df ?hv ?_); (case hv => walk_at "om"))
  | ((with_reducible refine' i_ndt ?hv ?_); (case hv => walk_at "om"))
  | ((with_reducible refine' i_ndf ?hv ?_); (case hv => walk_at "om"))))
local macro_rules | `(tactic| walk_at "x") => `(tactic| first
  | ((with_reducible refine' o_ixA ?hv ?hw ?_); (case hv => assumption); (case hw => exact rfl))
  | ((with_reducible refine' o_ixU ?hv ?hw ?_); (case hv => assumption); (case hw => exact rfl))
  | ((with_reducible refine' o_ixL ?hv ?hw ?_); (case hv => assumption); (case hw => exact rfl))
  | ((with_reducible refine' o_ixT ?hv ?hw ?_); (case hv => assumption); (case hw => exact rfl))
  | ((with_reducible refine' set_ ?hv ?hw ?_); (case hv => assumption); (case hw => exact rfl))
  | ((with_reducible refine' e_lenM ?hv ?_); (case hv => first | assumption | exact slO (by assumption)))
  | ((with_reducible refine' e_lenN ?hv ?_); (case hv => first | assumption | exact stO (by assumption)))
  | ((with_reducible refine' e_lenL ?hv ?_); (case hv => first | assumption | exact slO (by assumption)))
  | ((with_reducible refine' e_lenT ?hv ?_); (case hv => first | assumption | exact stO (by assumption))))
local macro_rules | `(tactic| walk_at "c") => `(tactic| first
  | ((with_reducible refine' c_listL ?hv ?_); (case hv => assumption))
  | ((with_reducible refine' c_listT ?hv ?_); (case hv => assumption))
  | ((with_reducible refine' c_tupL ?hv ?_); (case hv => first | assumption | exact slO (by assumption)))
  | ((with_reducible refine' c_tupT ?hv ?_); (case hv => assumption))
  | ((with_reducible refine' t_lst ?hv ?_); (case hv => first | assumption | exact slO (by assumption)))
  | ((with_reducible refine' t_tup ?hv ?_); (case hv => assumption))
  | ((with_reducible refine' r_sl ?hv ?_); (case hv => first | assumption | exact slO (by assumption)))
  | ((with_reducible refine' o_inL ?hv ?_); (case hv => first | assumption | exact slO (by assumption)))
  | ((with_reducible refine' o_inT ?hv ?_); (case hv => first | assumption | exact stO (by assumption)))
  | ((with_reducible refine' o_niL ?hv ?_); (case hv => first | assumption | exact slO (by assumption)))
  | ((with_reducible refine' o_niT ?hv ?_); (case hv => first | assumption | exact stO (by assumption)))
  | ((with_reducible refine' ty_lst ?hv ?_); (case hv => assumption)))
local macro_rules | `(tactic| walk_at "mo") => `(tactic| repeat' (first | exact m_yes | exact m_var | exact m_c | exact m_I0 | exact m_I | exact m_ix | exact m_add | exact m_in | exact m_int1 | exact m_abs | exact m_nil | refine' m_and ?_ ?_ | refine' m_test ?_ | refine' m_tB ?_ | refine' m_op ?_ ?_ ?_ | refine' m_cons ?_ ?_ | refine' m_cb ?_ ?_))
local macro_rules | `(tactic| walk_at "go") => `(tactic| repeat' (first | walk_at "s" | walk_at "v" | walk_at "a" | walk_at "x" | walk_at "m" | walk_at "c" | walk_at "i" | walk_at "d"))

section
variable {P : Program} {w : World} {K : PySem.W.Frag} {mg : Str → Option Value} {base : Heap}
/-! ### the hand that draws -/
/-- its list, the list of cells, the cells -/
structure Bg where
  hd : Addr
  g : Addr
  ns : List Int
def BagAt (K : PySem.W.Frag) (H : Hp) (B : Bg) : Prop := ∃ i big mix c : Int, H B.hd = some (.lst [.ref B.g, .int i, .int big, .int mix, .int c]) ∧ H B.g = some (.lst (B.ns.map V.int)) ∧ B.g ≠ B.hd ∧ B.ns.length ≤ 63 ∧ (∀ z ∈ B.ns, 0 ≤ z) ∧ 0 ≤ i ∧ 0 ≤ big ∧ 0 ≤ mix ∧ mix < 2147483648 ∧ 0 ≤ c
structure Hs (K : PySem.W.Frag) (B : Bg) (H H' : Hp) : Prop where
  o : Oth B.hd H H'
  b : BagAt K H' B
theorem Hs.trans {B : Bg} {H H1 H2 : Hp} (a : Hs K B H H1) (b : Hs K B H1 H2) : Hs K B H H2 := ⟨a.o.trans b.o, b.b⟩
theorem bag_same {B : Bg} {H H' : Hp} (b : BagAt K H B) (s : Same H H') : BagAt K H' B := by
  obtain ⟨i, big, x, c, h1, h2, h3⟩ := b
  exact ⟨i, big, x, c, s _ _ h1, s _ _ h2, h3⟩
theorem Hs.of {B : Bg} {H H' : Hp} (b : BagAt K H B) (s : Same H H') : Hs K B H H' := ⟨fun c o _ h => s c o h, bag_same b s⟩
theorem Hs.sl {B : Bg} {a : Addr} {H H' : Hp} {xs : List V} (h : Hs K B H H') (n : a ≠ B.hd) (s : SqL K H a xs) : SqL K H' a xs := oth_sl h.o n s
theorem bag_lst {B : Bg} {H : Hp} (b : BagAt K H B) : ∃ xs, H B.hd = some (.lst xs) := by
  obtain ⟨i, big, x, c, h1, h2, h3⟩ := b
  exact ⟨_, h1⟩
theorem Hs.st {B : Bg} {a : Addr} {H H' : Hp} {xs : List V} (h : Hs K B H H') (b : BagAt K H B) (s : SqT K H a xs) : SqT K H' a xs := by
  obtain ⟨ys, q⟩ := bag_lst b
  exact oth_st h.o q s
theorem Hs.ls {B : Bg} {a : Addr} {H H' : Hp} {xs : List V} (h : Hs K B H H') (n : a ≠ B.hd) (s : H a = some (.lst xs)) : H' a = some (.lst xs) := h.o _ _ n s
theorem new_ne {B : Bg} {p : Addr} {H : Hp} (b : BagAt K H B) (n : H p = none) : p ≠ B.hd := by
  obtain ⟨xs, h⟩ := bag_lst b
  exact (ne_of_none h n).symm
theorem Hs.free {B : Bg} {p : Addr} {H H' : Hp} (h : Hs K B H H') (n : H' p = none) : H p = none := by
  cases e : H p with
  | none => rfl
  | some o =>
    by_cases z : p = B.hd
    · obtain ⟨xs, q⟩ := bag_lst h.b
      rw [← z, n] at q; cases q
    · rw [h.o p o z e] at n; cases n
/-- an object of one's own, not there at H, may change -/
theorem Hs.mut {B : Bg} {f : Addr} {H H3 H4 : Hp} (h : Hs K B H H3) (b : BagAt K H B) (n : H f = none) (o : Oth f H3 H4) : Hs K B H H4 := by
  refine ⟨fun c u nc z => o c u (ne_of_none z n) (h.o c u nc z), ?_⟩
  obtain ⟨i, big, x, c, h1, h2, h3⟩ := b
  obtain ⟨i', big', x', c', g1, g2, g3⟩ := h.b
  exact ⟨i', big', x', c', o _ _ (ne_of_none h1 n) g1, o _ _ (ne_of_none h2 n) g2, g3⟩
def sp_hand (K : PySem.W.Frag) : Sp := fun vs H Q _ => ∃ a, ∃ ns : List Int, vs = [.ref a] ∧ SqL K H a (ns.map V.int) ∧ ns.length ≤ 63 ∧ ∀ (B : Bg) H', H B.hd = none → Same H H' → BagAt K H' B → Q (.ref B.hd) H'
theorem ok_law_hand (T : Txt K mg) : FnOk P w K mg base CX0 1 T.law_hand.f T.law_hand.fd ["script"] (sp_hand K) := by
  refine T.law_hand.F.ok sc_law_hand (fun vs H Q E h => ?_) (fun cdv A outer s H vs Q E hr h => ?_)
  · obtain ⟨a, ns, rfl, _⟩ := h
    rfl
  · obtain ⟨a, ns, rfl, hS, hl, k⟩ := h
    refine ⟨_, (pss_cons (ps_setLc (i := 1) (own := [("cell", 2)]) rfl sc_law_hand.nd rfl rfl (sw_true rfl rfl rfl (by decide +kernel)) (piL (K := K) (pe_slice (slL (K := K)) (pv 0) po_none (po_some pe_int))) (blkOk_by (N := n_law_hand) (sc := defScope s_law_hand) (by decide +kernel)) (fun _ _ _ _ _ => (pg_name (i := 2) sc_law_hand.nd rfl (Or.inl rfl))) (fun _ _ _ _ _ => pts_nil) (fun _ _ _ _ _ => (pe_callB cAbs (by rfl) T.z_abs (by decide +kernel) (pa_cons (pe_callTy cInt (by rfl) T.z_int (by decide +kernel) (pa_cons (pv 2) pa_nil)) pa_nil))))
    (pss_one (ps_ret (pe_lst (pa_cons (pv 1) (pa_cons pe_int (pa_cons pe_int (pa_cons (pe_op oAdd pe_int (pe_callB (cLen (K := K)) (by rfl) T.z_len PySem.boot_len (pa_cons (pv 1) pa_nil))) (pa_cons pe_int pa_nil))))))))), ?_⟩
    walk_at "go"
    refine n_new0 fun p1 H1 n1 s1 h1 => ?_
    obtain ⟨ms, e1, e2, _⟩ := cut_map (f := V.int) ns none (some 63)
    rw [e1] at h1
    refine i_lst (slO h1) ?_
    refine c_lst (xs := ms.map V.int) (fun i acc H' => Same H1 H' ∧ acc = ((ms.take i).map fun z => if z < 0 then -z else z).map V.int) (fun D hD => ⟨upd_free (Same.refl _) hD, rfl⟩) (fun i acc H' hi p => slO (at_ p.1 h1)) (fun acc D H2 hD hp p => ?_) (fun _ => rfl) (fun i x acc H' D hx hD hp p => ?_)
    · obtain ⟨s2, rfl⟩ := p
      rw [List.length_map, List.take_length] at hp
      walk_at "go"
      refine n_new (le_size (by simp)) fun p3 H3 n3 s3 h3 => ?_
      have ss := s1.trans s2
      rw [List.length_map] at h3
      refine k ⟨p3, D, ms.map fun z => if z < 0 then -z else z⟩ H3 (free_ ss n3) (ss.trans s3) ⟨0, 0, 1 + (ms.length : Nat), 0, h3, at_ s3 hp, ne_new hp n3, by show (List.map _ ms).length ≤ 63; rw [List.length_map]; omega, fun z hz => ?_, by omega, by omega, by omega, by omega, by omega⟩
      obtain ⟨y, _, e⟩ := List.mem_map.mp hz
      rw [← e]; split <;> omega
    · obtain ⟨s2, rfl⟩ := p
      have hi : i < ms.length := by
        have := (List.getElem?_eq_some_iff.mp hx).1
        simpa using this
      have ex : x = .int ms[i] := by
        rw [List.getElem?_map, List.getElem?_eq_getElem hi] at hx
        exact (Option.some.inj hx).symm
      subst ex
      walk_at "go"
      refine ⟨_, hp, lt_size (by simp; omega), _, upd_same, upd_free s2 hD, ?_⟩
      rw [List.take_add_one, List.getElem?_eq_getElem hi, List.map_append, List.map_append]; rfl
def sp_draw (K : PySem.W.Frag) : Sp := fun vs H Q _ => ∃ (B : Bg) (m : Int), vs = [.ref B.hd, .int m] ∧ BagAt K H B ∧ 0 < m ∧ m < 2 ^ 100 ∧ ∀ r H', 0 ≤ r → r < m → Hs K B H H' → Q (.int r) H'
theorem ok_law_draw (T : Txt K mg) : FnOk P w K mg base CX0 1 T.law_draw.f T.law_draw.fd ["hand", "many"] (sp_draw K) := by
  refine T.law_draw.F.ok sc_law_draw (fun vs H Q E h => ?_) (fun cdv A outer s H vs Q E hr h => ?_)
  · obtain ⟨a, b, rfl, _⟩ := h
    rfl
  · obtain ⟨⟨hd, g, ns⟩, m, rfl, ⟨i, big, mix, c, h1, h2, h3, h4, hn, h5, h6, h7, h8, h9⟩, hm, hM, k⟩ := h
    dsimp only at h1 h2 h3 h4 hn k ⊢
    refine ⟨_, (Evl.pss_cut (ps_if (PW.pt (pw_and (pt_cmpR (oEq (K := K) hr.units) (pe_ix (ixLT (K := K)) (pv 0) pe_int (fun _ _ => rfl)) pe_int (nomark _)) (pw_and1 (pt_cmpR oLt (pe_ix (ixLT (K := K)) (pv 0) pe_int (fun _ _ => rfl)) (pe_callB (cLen (K := K)) (by rfl) T.z_len PySem.boot_len (pa_cons (pe_ix (ixLT (K := K)) (pv 0) pe_int (fun _ _ => rfl)) pa_nil)) (nomark _))))) (pss_cons (ps_set (i := 2) sc_law_draw.nd rfl (Or.inl rfl) (pe_ix (ixLT (K := K)) (pe_ix (ixLT (K := K)) (pv 0) pe_int (fun _ _ => rfl)) (pe_ix (ixLT (K := K)) (pv 0) pe_int (fun _ _ => rfl)) (fun _ _ => rfl)))
    (pss_cons (ps_asg (pe_op oAdd (pe_ix (ixLT (K := K)) (pv 0) pe_int (fun _ _ => rfl)) pe_int) (pg_sub (pv 0) pe_int set_list))
    (pss_cons (ps_asg (pe_op op_mod (pe_callTy cInt (by rfl) T.z_int (by decide +kernel) (pa_cons (pe_op oAdd (pe_op oAdd (pe_op oMul (pe_ix (ixLT (K := K)) (pv 0) pe_int (fun _ _ => rfl)) pe_int) (pv 2)) pe_int) pa_nil)) pe_int) (pg_sub (pv 0) pe_int set_list))
    (pss_one (ps_if (pt_cmpR op_ge (pv 2) (pe_op op_pow pe_int pe_int) (nomark _)) (pss_one (ps_asg (pv 2) (pg_sub (pv 0) pe_int set_list))) pss_nil))))) pss_nil)
    (pss_cons (ps_if (pt_cmpR op_gt (pe_ix (ixLT (K := K)) (pv 0) pe_int (fun _ _ => rfl)) pe_int (nomark _)) (pss_cons (ps_set (i := 3) sc_law_draw.nd rfl (Or.inl rfl) (pe_op op_mod (pe_callTy cInt (by rfl) T.z_int (by decide +kernel) (pa_cons (pe_ix (ixLT (K := K)) (pv 0) pe_int (fun _ _ => rfl)) pa_nil)) (pv 1)))
    (pss_cons (ps_asg (pe_op op_fdivW (pe_ix (ixLT (K := K)) (pv 0) pe_int (fun _ _ => rfl)) (pv 1)) (pg_sub (pv 0) pe_int set_list))
    (pss_one (ps_ret (pv 3))))) pss_nil)
    (pss_cons (ps_asg (pe_op oAdd (pe_ix (ixLT (K := K)) (pv 0) pe_int (fun _ _ => rfl)) pe_int) (pg_sub (pv 0) pe_int set_list))
    (pss_cons (ps_set (i := 4) sc_law_draw.nd rfl (Or.inl rfl) (pe_op op_mod (pe_callTy cInt (by rfl) T.z_int (by decide +kernel) (pa_cons (pe_op oMul (pe_callTy cInt (by rfl) T.z_int (by decide +kernel) (pa_cons (pe_op oAdd (pe_ix (ixLT (K := K)) (pv 0) pe_int (fun _ _ => rfl)) (pe_op oMul pe_int (pe_ix (ixLT (K := K)) (pv 0) pe_int (fun _ _ => rfl)))) pa_nil)) pe_int) pa_nil)) pe_int))
    (pss_cons (ps_set (i := 4) sc_law_draw.nd rfl (Or.inl rfl) (pe_op op_mod (pe_callTy cInt (by rfl) T.z_int (by decide +kernel) (pa_cons (pe_op oMul (pv 4) (pe_op oAdd (pe_op op_fdivW (pv 4) pe_int) pe_int)) pa_nil)) pe_int))
    (pss_cons (ps_set (i := 4) sc_law_draw.nd rfl (Or.inl rfl) (pe_op op_mod (pe_callTy cInt (by rfl) T.z_int (by decide +kernel) (pa_cons (pe_op oMul (pv 4) (pe_op oAdd (pe_op op_fdivW (pv 4) pe_int) pe_int)) pa_nil)) pe_int))
    (pss_one (ps_ret (pe_op op_mod (pe_callTy cInt (by rfl) T.z_int (by decide +kernel) (pa_cons (pe_op op_fdivW (pv 4) pe_int) pa_nil)) (pv 1)))))))))), ?_⟩
    walk_at "go"
    refine s_cut (fun σ2 H2 => Oth hd H H2 ∧ ∃ i' big' mix' : Int, ∃ y2, σ2 = [some (.ref hd), some (.int m), y2, none, none] ∧ H2 hd = some (.lst [.ref g, .int i', .int big', .int mix', .int c]) ∧ 0 ≤ i' ∧ 0 ≤ big' ∧ 0 ≤ mix' ∧ mix' < 2147483648) ?_ ?_
    · walk_at "go"
      have self : Oth hd H H := fun _ _ _ z => z
      refine i_d (fun q1 => ?_) (fun q1 => ?_)
      · walk_at "go"
        refine i_d (fun q2 => ?_) (fun q2 => ?_)
        · walk_at "go"
          have hj : i.toNat < ns.length := by omega
          refine o_ixL (slO h2) (atI_map i.toNat (by omega) hj) ?_
          have c0 := hn _ (getD_mem hj)
          generalize ns.getD i.toNat 0 = cell at *
          walk_at "go"
          intro H1 o1 e1
          walk_at "go"
          intro H2 o2 e2
          have m0 : 0 ≤ (mix * 69621 + cell + 11) % 2147483629 := Int.emod_nonneg _ (by omega)
          have m1 : (mix * 69621 + cell + 11) % 2147483629 < 2147483629 := Int.emod_lt_of_pos _ (by omega)
          generalize (mix * 69621 + cell + 11) % 2147483629 = mix2 at *
          walk_at "go"
          refine i_d (fun q3 => ?_) (fun q3 => ?_)
          · walk_at "go"
            intro H3 o3 e3
            exact ⟨o1.trans (o2.trans o3), i + 1, cell, mix2, _, rfl, e3, by omega, by omega, by omega, by omega⟩
          · walk_at "go"
            exact ⟨o1.trans o2, i + 1, big, mix2, _, rfl, e2, by omega, by omega, by omega, by omega⟩
        · walk_at "go"
          exact ⟨self, i, big, mix, none, rfl, h1, h5, h6, h7, h8⟩
      · walk_at "go"
        exact ⟨self, i, big, mix, none, rfl, h1, h5, h6, h7, h8⟩
    · rintro σ2 H2 ⟨o1, i', big', mix', y2, rfl, e1, g5, g6, g7, g8⟩
      have g1 : H2 g = some (.lst (ns.map V.int)) := o1 _ _ h3 h2
      clear h1 h5 h6 h7 h8
      walk_at "go"
      refine i_d (fun q1 => ?_) (fun q1 => ?_)
      · walk_at "go"
        intro H3 o3 e3
        walk_at "go"
        exact k _ _ (Int.emod_nonneg _ (by omega)) (Int.emod_lt_of_pos _ hm) ⟨o1.trans o3, i', big' / m, mix', c, e3, o3 _ _ h3 g1, h3, h4, hn, g5, Int.ediv_nonneg g6 (by omega), g7, g8, h9⟩
      · walk_at "go"
        intro H3 o3 e3
        walk_at "go"
        exact k _ _ (Int.emod_nonneg _ (by omega)) (Int.emod_lt_of_pos _ hm) ⟨o1.trans o3, i', big', mix', c + 1, e3, o3 _ _ h3 g1, h3, h4, hn, g5, g6, g7, g8, by omega⟩
def sp_any (K : PySem.W.Frag) : Sp := fun vs H Q _ => ∃ (B : Bg) (a : Addr) (xs : List V), vs = [.ref B.hd, .ref a] ∧ BagAt K H B ∧ SqL K H a xs ∧ a ≠ B.hd ∧ 0 < xs.length ∧ xs.length < 100000 ∧ ∀ x H', x ∈ xs → Hs K B H H' → Q x H'
theorem ok_law_any (T : Txt K mg) : FnOk P w K mg base CX0 2 T.law_any.f T.law_any.fd ["hand", "some"] (sp_any K) := by
  refine T.law_any.F.ok sc_law_any (fun vs H Q E h => ?_) (fun cdv A outer s H vs Q E hr h => ?_)
  · obtain ⟨B, a, xs, rfl, _⟩ := h
    rfl
  · obtain ⟨B, a, xs, rfl, b, hS, ha, h0, h1, k⟩ := h
    refine ⟨_, (pss_one (ps_ret (pe_ix (ixLT (K := K)) (pv 1) (pe_call (ok_law_draw T) (hr.mono (by decide)) (by rfl) T.law_draw.g T.law_draw.F.kp T.law_draw.b .nil pass0 (pa_cons (pv 0) (pa_cons (pe_callB (cLen (K := K)) (by rfl) T.z_len PySem.boot_len (pa_cons (pv 1) pa_nil)) pa_nil))) (fun _ _ => rfl)))), ?_⟩
    walk_at "go"
    refine ⟨B, _, rfl, b, by omega, by omega, fun r H1 r0 r1 hs => ?_⟩
    have hj : r.toNat < xs.length := by omega
    refine o_ixL (hs.sl ha hS) (atI_in (j := r.toNat) (by omega) (List.getElem?_eq_getElem hj)) ?_
    walk_at "go"
    exact k _ H1 (List.getElem_mem hj) hs
end
end Vw

set_option Elab.async false
set_option linter.all false
set_option maxRecDepth 100000
set_option maxHeartbeats 4000000
namespace Vw
open PySem PySem.Spec PyProof.Rows L2 RT
local macro_rules | `(tactic| walk_at "s") => `(tactic| with_reducible first
  | refine' s_seq ?_ | refine' s_next ?_ | refine' s_set ?_ | refine' s_ret ?_ | refine' s_retN ?_ | refine' s_drop ?_ | refine' s_if ?_ | refine' s_ipI ?_
  | refine' e_c ?_ | refine' e_op ?_ | refine' e_un ?_ | refine' e_neg ?_ | refine' e_test ?_ | refine' e_tB ?_ | refine' e_bl ?_ | refine' e_and ?_ | refine' e_or ?_ | refine' e_not ?_
  | refine' e_andV ?_ | refine' e_orV ?_ | refine' e_notV ?_ | refine' e_kV ?_ | refine' e_ife ?_ | refine' e_nil ?_ | refine' e_cons ?_ | refine' e_cb ?_ | refine' e_call ?_ | refine' e_chain ?_
  | refine' o_addI ?_ | refine' o_eqI ?_ | refine' o_neI ?_ | refine' o_I0 ?_ | refine' o_pow16 ?_ | refine' o_pow17 ?_ | refine' o_pow18 ?_ | refine' o_pow19 ?_ | refine' o_pow30 ?_ | refine' o_pow31 ?_ | refine' o_pow1 ?_ | refine' o_pow2 ?_ | refine' o_pow3 ?_ | refine' o_pow4 ?_ | refine' o_pow5 ?_ | refine' o_pow6 ?_ | refine' o_pow9 ?_ | refine' o_pow10 ?_ | refine' o_pow12 ?_ | refine' o_pow15 ?_ | refine' o_pow20 ?_ | refine' e_lst ?_ | refine' e_tup ?_ | refine' iteT ?_ | refine' i_nt ?_ | refine' i_nf ?_ | refine' iteF ?_ | refine' c_int ?_ | refine' c_abs ?_ | refine' c_min2 ?_ | refine' c_max2 ?_ | refine' e_tru ?_ | refine' t_bl ?_ | refine' t_non ?_ | refine' t_int ?_ | refine' isN_non ?_ | refine' isN_int ?_ | refine' isN_ref ?_ | refine' isN_str ?_ | refine' isN_bl ?_ | refine' noN_non ?_ | refine' noN_int ?_ | refine' noN_ref ?_ | refine' noN_str ?_ | refine' noN_bl ?_
  | refine' s_brk ?_ | refine' s_cont ?_ | refine' s_for ?_ | refine' e_lc ?_ | refine' e_dc ?_ | refine' e_yes ?_ | refine' i_rng1 ?_ | refine' i_lst0 ?_ | refine' i_tup0 ?_ | refine' e_bm ?_ | refine' e_sl ?_ | refine' e_np ?_ | refine' e_pt ?_ | refine' e_ptI ?_ | refine' e_din ?_ | refine' e_dnin ?_ | refine' e_methE ?_ | refine' p_cons ?_ | refine' p_nil ?_ | refine' s_dput ?_ | refine' e_dget2 ?_ | refine' e_dpop1 ?_ | refine' i_enum0 ?_ | refine' i_rev0 ?_ | refine' g_sub ?_ | refine' s_asg ?_ | refine' i_zip0 ?_ | refine' e_revT ?_ | refine' isB_bl ?_ | refine' notB_bl ?_ | refine' o_neB ?_ | refine' i_nrr ?_ | refine' e_meth ?_ | refine' s_setf ?_ | refine' e_fld ?_ | refine' e_bm0 ?_ | refine' r_tx ?_ | refine' o_eqStr ?_ | refine' o_neStr ?_)
local macro_rules | `(tactic| walk_at "v") => `(tactic| ((with_reducible refine' e_var ?hv ?_); (case hv => exact rfl)))
local macro_rules | `(tactic| walk_at "a") => `(tactic| ((with_reducible refine' s_aug ?hv ?_); (case hv => exact rfl)))
local macro_rules | `(tactic| walk_at "m") => `(tactic| first
  | ((with_reducible refine' o_mod ?hv ?_); (case hv => first | decide | omega))
  | ((with_reducible refine' o_mulR ?hv ?_); (case hv => omega))
  | ((with_reducible refine' o_mulL ?hv ?_); (case hv => omega))
  | ((with_reducible refine' o_div ?hv ?hw ?_); (case hv => omega); (case hw => omega))
  | ((with_reducible refine' o_pow _ ?hv ?hw ?hx ?_); (case hv => exact rfl); (case hw => decide); (case hx => decide)))
local macro_rules | `(tactic| walk_at "i") => `(tactic| (first
  | ((with_reducible refine' isi_int true ?hv ?_); (case hv => exact (by decide +kernel)))
  | ((with_reducible refine' isi_int false ?hv ?_); (case hv => exact (by decide +kernel)))
  | ((with_reducible refine' isi_non true ?hv ?_); (case hv => exact (by decide +kernel)))
  | ((with_reducible refine' isi_non false ?hv ?_); (case hv => exact (by decide +kernel)))
  | ((with_reducible refine' isi_str true ?hv ?_); (case hv => exact (by decide +kernel)))
  | ((with_reducible refine' isi_str false ?hv ?_); (case hv => exact (by decide +kernel)))
  | ((with_reducible refine' isi_bl true ?hv ?_); (case hv => exact (by decide +kernel)))
  | ((with_reducible refine' isi_bl false ?hv ?_); (case hv => exact (by decide +kernel)))
  | ((with_reducible refine' isi_t true ?hw ?hv ?_); (case hw => assumption); (case hv => exact (by decide +kernel)))
  | ((with_reducible refine' isi_t false ?hw ?hv ?_); (case hw => assumption); (case hv => exact (by decide +kernel)))
  | ((with_reducible refine' isi_l true ?hw ?hv ?_); (case hw => assumption); (case hv => exact (by decide +kernel)))
  | ((with_reducible refine' isi_l false ?hw ?hv ?_); (case hw => assumption); (case hv => exact (by decide +kernel)))
  | ((with_reducible refine' isi_tup true ?hw ?hv ?_); (case hw => assumption); (case hv => exact (by decide +kernel)))
  | ((with_reducible refine' isi_tup false ?hw ?hv ?_); (case hw => assumption); (case hv => exact (by decide +kernel)))
  | ((with_reducible refine' isi_lst true ?hw ?hv ?_); (case hw => assumption); (case hv => exact (by decide +kernel)))
  | ((with_reducible refine' isi_lst false ?hw ?hv ?_); (case hw => assumption); (case hv => exact (by decide +kernel)))))
local macro_rules | `(tactic| walk_at "om") => `(tactic| first | omega | (simp only [List.length_cons, List.length_nil, List.length_map, List.length_append, List.length_range]; omega))
local macro_rules | `(tactic| walk_at "d") => `(tactic| (first
  | ((with_reducible refine' i_dt ?hv ?_); (case hv => walk_at "om"))
  | ((with_reducible refine' i_df ?hv ?_); (case hv => walk_at "om"))
  | ((with_reducible refine' i_ndt ?hv ?_); (case hv => walk_at "om"))
  | ((with_reducible refine' i_ndf ?hv ?_); (case hv => walk_at "om"))))
local macro_rules | `(tactic| walk_at "x") => `(tactic| first
  | ((with_reducible refine' o_ixA ?hv ?hw ?_); (case hv => assumption); (case hw => exact rfl))
  | ((with_reducible refine' o_ixU ?hv ?hw ?_); (case hv => assumption); (case hw => exact rfl))
  | ((with_reducible refine' o_ixL ?hv ?hw ?_); (case hv => assumption); (case hw => exact rfl))
  | ((with_reducible refine' o_ixT ?hv ?hw ?_); (case hv => assumption); (case hw => exact rfl))
  | ((with_reducible refine' set_ ?hv ?hw ?_); (case hv => assumption); (case hw => exact rfl))
  | ((with_reducible refine' e_lenM ?hv ?_); (case hv => first | assumption | exact slO (by assumption)))
  | ((with_reducible refine' e_lenN ?hv ?_); (case hv => first | assumption | exact stO (by assumption)))
  | ((with_reducible refine' e_lenL ?hv ?_); (case hv => first | assumption | exact slO (by assumption)))
  | ((with_reducible refine' e_lenT ?hv ?_); (case hv => first | assumption | exact stO (by assumption))))
local macro_rules | `(tactic| walk_at "c") => `(tactic| first
  | ((with_reducible refine' c_listL ?hv ?_); (case hv => assumption))
  | ((with_reducible refine' c_listT ?hv ?_); (case hv => assumption))
  | ((with_reducible refine' c_tupL ?hv ?_); (case hv => first | assumption | exact slO (by assumption)))
  | ((with_reducible refine' c_tupT ?hv ?_); (case hv => assumption))
  | ((with_reducible refine' t_lst ?hv ?_); (case hv => first | assumption | exact slO (by assumption)))
  | ((with_reducible refine' t_tup ?hv ?_); (case hv => assumption))
  | ((with_reducible refine' r_sl ?hv ?_); (case hv => first | assumption | exact slO (by assumption)))
  | ((with_reducible refine' o_inL ?hv ?_); (case hv => first | assumption | exact slO (by assumption)))
  | ((with_reducible refine' o_inT ?hv ?_); (case hv => first | assumption | exact stO (by assumption)))
  | ((with_reducible refine' o_niL ?hv ?_); (case hv => first | assumption | exact slO (by assumption)))
  | ((with_reducible refine' o_niT ?hv ?_); (case hv => first | assumption | exact stO (by assumption)))
  | ((with_reducible refine' ty_lst ?hv ?_); (case hv => assumption)))
local macro_rules | `(tactic| walk_at "mo") => `(tactic| repeat' (first | exact m_yes | exact m_var | exact m_c | exact m_I0 | exact m_I | exact m_ix | exact m_add | exact m_in | exact m_int1 | exact m_abs | exact m_nil | refine' m_and ?_ ?_ | refine' m_test ?_ | refine' m_tB ?_ | refine' m_op ?_ ?_ ?_ | refine' m_cons ?_ ?_ | refine' m_cb ?_ ?_))
local macro_rules | `(tactic| walk_at "go") => `(tactic| repeat' (first | walk_at "s" | walk_at "v" | walk_at "a" | walk_at "x" | walk_at "m" | walk_at "c" | walk_at "i" | walk_at "d"))

section
variable {P : Program} {w : World} {K : PySem.W.Frag} {mg : Str → Option Value} {base : Heap}
/-! ### a disk's fields -/
def df (l w : Addr) (pw : V) (rc : Int) : List (Str × V) := [("_lies", .ref l), ("_waits", .ref w), ("_power", pw), ("_reached", .int rc)]
section
variable (l w : Addr) (pw v : V) (rc n : Int)
theorem df_l : (df l w pw rc).lookup ("_lies" : Str) = some (V.ref l) := rfl
theorem df_w : (df l w pw rc).lookup ("_waits" : Str) = some (V.ref w) := rfl
theorem df_p : (df l w pw rc).lookup ("_power" : Str) = some pw := rfl
theorem df_r : (df l w pw rc).lookup ("_reached" : Str) = some (V.int rc) := rfl
theorem df_pp : putF "_power" v (df l w pw rc) = df l w v rc := rfl
theorem df_pr : putF "_reached" (.int n) (df l w pw rc) = df l w pw n := rfl
theorem df_pw (w2 : Addr) : putF "_waits" (.ref w2) (df l w pw rc) = df l w2 pw rc := rfl
theorem df_new : putF "_reached" (.int rc) (putF "_power" pw (putF "_waits" (.ref w) (putF "_lies" (.ref l) []))) = df l w pw rc := rfl
theorem df_no {m : Str} (h : ((["_lies", "_waits", "_power", "_reached"] : List Str)).contains m = false) : (df l w pw rc).lookup m = none := by
  unfold df
  simp only [List.contains_cons, List.contains_nil, Bool.or_false, Bool.or_eq_false_iff] at h
  simp only [List.lookup, h.1, h.2.1, h.2.2.1, h.2.2.2]
end
abbrev pwV : Option Int → V
  | none => .non
  | some i => .int i
structure Dsk where
  l : Addr
  lies : List Addr
  w : Addr
  rows : List (Int × Addr × List Addr)
  pw : Option Int
  rc : Int
structure DiskAt (C : Addr) (H : Hp) (p : Addr) (D : Dsk) : Prop where
  ob : InsAt C H p (df D.l D.w (pwV D.pw) D.rc)
  hl : H D.l = some (.lst (D.lies.map V.ref))
  hw : H D.w = some (.dK (D.rows.map fun r => ((Sum.inl r.1 : Key), V.ref r.2.1)))
  hr : ∀ r ∈ D.rows, H r.2.1 = some (.lst (r.2.2.map V.ref)) ∧ r.2.2 ≠ []
  nd : (D.rows.map (·.2.1)).Nodup
  kd : (D.rows.map (·.1)).Nodup
  lr : D.l ∉ D.rows.map (·.2.1)
  few : D.lies.length ≤ 600
  kb : ∀ r ∈ D.rows, 0 ≤ r.1 ∧ r.1 < D.lies.length
/-- the places that a disk holds -/
def Dsk.foot (D : Dsk) (p : Addr) : List Addr := p :: D.l :: D.w :: D.rows.map (·.2.1)
/-- all but some places is as it was -/
def But (as : List Addr) (H H' : Hp) : Prop := ∀ b o, b ∉ as → H b = some o → H' b = some o
theorem ins_same {C p : Addr} {H H' : Hp} {fs : List (Str × V)} (s : Same H H') (h : InsAt C H p fs) : InsAt C H' p fs := h.elim fun dx h => ⟨dx, s _ _ h⟩
theorem DiskAt.same {C p : Addr} {H H' : Hp} {D : Dsk} (s : Same H H') (h : DiskAt C H p D) : DiskAt C H' p D :=
  ⟨ins_same s h.ob, s _ _ h.hl, s _ _ h.hw, fun r hr => ⟨s _ _ (h.hr r hr).1, (h.hr r hr).2⟩, h.nd, h.kd, h.lr, h.few, h.kb⟩
def sp_disk_blocks (C : Addr) : Sp := fun vs H Q _ => ∃ p D, vs = [.ref p] ∧ DiskAt C H p D ∧ Q (.int D.lies.length) H
theorem ok_Disk_blocks (T : Txt K mg) : FnOk P w K mg base CX0 1 T.m_Disk_blocks.f T.m_Disk_blocks.fd ["self"] ((sp_disk_blocks T.C_Disk)) := by
  refine T.m_Disk_blocks.F.ok sc_Disk_blocks (fun vs H Q E h => ?_) (fun cdv A outer s H vs Q E hr h => ?_)
  · obtain ⟨p, D, rfl, _⟩ := h
    rfl
  · obtain ⟨p, D, rfl, h, k⟩ := h
    refine ⟨_, (pss_one (ps_ret (pe_callB (cLen (K := K)) (by rfl) T.z_len PySem.boot_len (pa_cons (peFld (K := K) (pv 0) rfl) pa_nil)))), ?_⟩
    have hl := slO (K := K) h.hl
    walk_at "go"
    refine o_fld h.ob T.k_Disk.cl T.n_Disk__lies (df_l _ _ _ _) ?_
    walk_at "go"
    exact k
def sp_disk_reached (C : Addr) : Sp := fun vs H Q _ => ∃ p D, vs = [.ref p] ∧ DiskAt C H p D ∧ Q (.int D.rc) H
theorem ok_Disk_reached (T : Txt K mg) : FnOk P w K mg base CX0 1 T.m_Disk_reached.f T.m_Disk_reached.fd ["self"] ((sp_disk_reached T.C_Disk)) := by
  refine T.m_Disk_reached.F.ok sc_Disk_reached (fun vs H Q E h => ?_) (fun cdv A outer s H vs Q E hr h => ?_)
  · obtain ⟨p, D, rfl, _⟩ := h
    rfl
  · obtain ⟨p, D, rfl, h, k⟩ := h
    refine ⟨_, (pss_one (ps_ret (peFld (K := K) (pv 0) rfl))), ?_⟩
    walk_at "go"
    refine o_fld h.ob T.k_Disk.cl T.n_Disk__reached (df_r _ _ _ _) ?_
    walk_at "go"
    exact k
theorem within_int {v : V} {lo hi : Int} (h : within v lo hi = true) : ∃ b, v = .int b ∧ lo ≤ b ∧ b ≤ hi := by
  cases v with
  | int b =>
    have h : (decide (lo ≤ b) && decide (b ≤ hi)) = true := h
    rw [Bool.and_eq_true, decide_eq_true_eq, decide_eq_true_eq] at h
    exact ⟨b, rfl, h.1, h.2⟩
  | _ => cases h
/-- no block of the disk is asked for -/
def NoB (K : PySem.W.Frag) (C Cb : Addr) : List V → Hp → XK → Prop := fun vs H E => ∃ p D v r, vs = .ref p :: v :: r ∧ DiskAt C H p D ∧ Od K H v ∧ within v 0 ((D.lies.length : Int) - 1) = false ∧ E (.ref Cb) none H
def sp_disk_need_block (K : PySem.W.Frag) (C Cb : Addr) : Sp := fun vs H Q E => (∃ p D b, vs = [.ref p, .int b] ∧ DiskAt C H p D ∧ 0 ≤ b ∧ b < D.lies.length ∧ Q .non H) ∨ (vs.length = 2 ∧ NoB K C Cb vs H E)
theorem ok_Disk__need_block (T : Txt K mg) : FnOk P w K mg base (L2.CX P w) 3 T.m_Disk__need_block.f T.m_Disk__need_block.fd ["self", "block"] ((sp_disk_need_block K T.C_Disk T.e_NoBlock.C)) := by
  refine T.m_Disk__need_block.F.okX sc_Disk__need_block (fun vs H Q E h => ?_) (fun cdv A outer s H vs Q E hr h => ?_)
  · rcases h with ⟨p, D, b, rfl, _⟩ | h
    · rfl
    · exact h.1
  · rcases h with ⟨p, D, b, rfl, h, h0, h1, k⟩ | ⟨l2, p, D, v, r, rfl, h, hv, hb, kE⟩
    · refine ⟨_, (pss_one (ps_if (pt_not (ptTruth (K := K) (pe_call (ok_is_within T) (hr.mono (by decide)) (by rfl) T.is_within.g T.is_within.F.kp T.is_within.b .nil pass0 (pa_cons (pv 1) (pa_cons pe_int (pa_cons (pe_op op_sub (pe_callB (cLen (K := K)) (by rfl) T.z_len PySem.boot_len (pa_cons (peFld (K := K) (pv 0) rfl) pa_nil)) pe_int) pa_nil)))) (by intro _; rfl))) (pss_one (ps_raise rfl (takes_of rfl rfl rfl rfl) (pmk_oexN T.e_NoBlock.o T.e_NoBlock.i T.e_NoBlock.t (ok_StoreError_init T.m_StoreError_init T.z_ValueError T.vV) (hr.mono (by decide)) T.m_StoreError_init.b pass0 (by rfl) T.e_NoBlock.g))) pss_nil)), ?_⟩
      have hl := slO (K := K) h.hl
      walk_at "go"
      refine o_fld h.ob T.k_Disk.cl T.n_Disk__lies (df_l _ _ _ _) ?_
      walk_at "go"
      refine ⟨_, _, _, rfl, .inl rfl, ?_⟩
      have e : within (.int b) 0 ((D.lies.length : Int) - 1) = true := by simp [within, h0]; omega
      rw [e]
      walk_at "go"
      exact k
    · obtain rfl : r = [] := List.length_eq_zero_iff.mp (by simpa using l2)
      refine ⟨_, (pss_one (ps_if (pt_not (ptTruth (K := K) (pe_call (ok_is_within T) (hr.mono (by decide)) (by rfl) T.is_within.g T.is_within.F.kp T.is_within.b .nil pass0 (pa_cons (pv 1) (pa_cons pe_int (pa_cons (pe_op op_sub (pe_callB (cLen (K := K)) (by rfl) T.z_len PySem.boot_len (pa_cons (peFld (K := K) (pv 0) rfl) pa_nil)) pe_int) pa_nil)))) (by intro _; rfl))) (pss_one (ps_raise rfl (takes_of rfl rfl rfl rfl) (pmk_oexN T.e_NoBlock.o T.e_NoBlock.i T.e_NoBlock.t (ok_StoreError_init T.m_StoreError_init T.z_ValueError T.vV) (hr.mono (by decide)) T.m_StoreError_init.b pass0 (by rfl) T.e_NoBlock.g))) pss_nil)), ?_⟩
      have hl := slO (K := K) h.hl
      walk_at "go"
      refine o_fld h.ob T.k_Disk.cl T.n_Disk__lies (df_l _ _ _ _) ?_
      walk_at "go"
      refine ⟨_, _, _, rfl, hv, ?_⟩
      rw [hb]
      walk_at "go"
      exact e_raise T.e_NoBlock.o kE
def sp_disk_lying (K : PySem.W.Frag) (C Cb : Addr) : Sp := fun vs H Q E => (∃ p D b c, vs = [.ref p, .int b] ∧ DiskAt C H p D ∧ 0 ≤ b ∧ D.lies[b.toNat]? = some c ∧ Q (.ref c) H) ∨ (vs.length = 2 ∧ NoB K C Cb vs H E)
theorem ok_Disk_lying (T : Txt K mg) : FnOk P w K mg base (L2.CX P w) 4 T.m_Disk_lying.f T.m_Disk_lying.fd ["self", "block"] ((sp_disk_lying K T.C_Disk T.e_NoBlock.C)) := by
  refine T.m_Disk_lying.F.okX sc_Disk_lying (fun vs H Q E h => ?_) (fun cdv A outer s H vs Q E hr h => ?_)
  · rcases h with ⟨p, D, b, c, rfl, _⟩ | h
    · rfl
    · exact h.1
  · rcases h with ⟨p, D, b, c, rfl, h, h0, h1, k⟩ | ⟨l2, p, D, v, r, rfl, h, hv, hb, kE⟩
    rotate_left 1
    · obtain rfl : r = [] := List.length_eq_zero_iff.mp (by simpa using l2)
      refine ⟨_, (pss_cons (ps_expr (pe_meth (pv 0) T.k_Disk.cl T.m_Disk__need_block.i (ok_Disk__need_block T) (hr.mono (by decide)) T.m_Disk__need_block.b .nil (passes_call (takes_of rfl rfl rfl rfl) (fun _ _ _ _ h => h)) (pa_cons (pv 1) pa_nil)))
    (pss_one (ps_ret (pe_ix (ixLT (K := K)) (peFld (K := K) (pv 0) rfl) (pv 1) (fun _ _ => rfl))))), ?_⟩
      walk_at "go"
      refine m_call0 h.ob (df_no _ _ _ _ (by decide +kernel)) ?_
      walk_at "go"
      exact .inr ⟨rfl, p, D, v, [], rfl, h, hv, hb, kE⟩
    refine ⟨_, (pss_cons (ps_expr (pe_meth (pv 0) T.k_Disk.cl T.m_Disk__need_block.i (ok_Disk__need_block T) (hr.mono (by decide)) T.m_Disk__need_block.b .nil (passes_call (takes_of rfl rfl rfl rfl) (fun _ _ _ _ h => h)) (pa_cons (pv 1) pa_nil)))
    (pss_one (ps_ret (pe_ix (ixLT (K := K)) (peFld (K := K) (pv 0) rfl) (pv 1) (fun _ _ => rfl))))), ?_⟩
    have hl := slO (K := K) h.hl
    have hb := (List.getElem?_eq_some_iff.mp h1).1
    walk_at "go"
    refine m_call0 h.ob (df_no _ _ _ _ (by decide +kernel)) ?_
    walk_at "go"
    refine .inl ⟨p, D, b, rfl, h, h0, by omega, ?_⟩
    walk_at "go"
    refine o_fld h.ob T.k_Disk.cl T.n_Disk__lies (df_l _ _ _ _) ?_
    walk_at "go"
    refine o_ixL hl (atI_in (j := b.toNat) (by omega) (by rw [List.getElem?_map, h1]; rfl)) ?_
    walk_at "go"
    exact k
def sp_disk_power (K : PySem.W.Frag) (C Cn : Addr) : Sp := fun vs H Q E => (∃ p D m, vs = [.ref p, pwV m] ∧ DiskAt C H p D ∧ (∀ i, m = some i → 0 ≤ i ∧ i ≤ 1000000) ∧ ∀ H', DiskAt C H' p { D with pw := m } → But [p] H H' → Q .non H') ∨ (∃ p D v, vs = [.ref p, v] ∧ DiskAt C H p D ∧ Od K H v ∧ v ≠ .non ∧ within v 0 1000000 = false ∧ E (.ref Cn) none H)
theorem ok_Disk_power (T : Txt K mg) : FnOk P w K mg base (L2.CX P w) 3 T.m_Disk_power.f T.m_Disk_power.fd ["self", "many"] ((sp_disk_power K T.C_Disk T.e_NoNumber.C)) := by
  refine T.m_Disk_power.F.okX sc_Disk_power (fun vs H Q E h => ?_) (fun cdv A outer s H vs Q E hr h => ?_)
  · rcases h with ⟨p, D, m, rfl, _⟩ | ⟨p, D, v, rfl, _⟩
    · rfl
    · rfl
  · rcases h with ⟨p, D, m, rfl, h, hm, k⟩ | ⟨p, D, v, rfl, h, hv, hn, hb, kE⟩
    rotate_left 1
    · refine ⟨_, (pss_cons (ps_if (PW.pt (pw_and (pt_cmpR oNotN (pv 1) pe_non (nomark _)) (pw_and1 (pt_not (ptTruth (K := K) (pe_call (ok_is_within T) (hr.mono (by decide)) (by rfl) T.is_within.g T.is_within.F.kp T.is_within.b .nil pass0 (pa_cons (pv 1) (pa_cons pe_int (pa_cons (pe_glob (by rfl) T.c_MOST_POWER.h T.c_MOST_POWER.r) pa_nil)))) (by intro _; rfl)))))) (pss_one (ps_raise rfl (takes_of rfl rfl rfl rfl) (pmk_oexN T.e_NoNumber.o T.e_NoNumber.i T.e_NoNumber.t (ok_StoreError_init T.m_StoreError_init T.z_ValueError T.vV) (hr.mono (by decide)) T.m_StoreError_init.b pass0 (by rfl) T.e_NoNumber.g))) pss_nil)
    (pss_one (psFld (K := K) (pv 0) (pv 1) rfl))), ?_⟩
      walk_at "go"
      refine ⟨rfl, _, rfl, ?_⟩
      rw [decide_eq_false hn]
      walk_at "go"
      refine ⟨_, _, _, rfl, hv, ?_⟩
      rw [hb]
      walk_at "go"
      exact e_raise T.e_NoNumber.o kE
    refine ⟨_, (pss_cons (ps_if (PW.pt (pw_and (pt_cmpR oNotN (pv 1) pe_non (nomark _)) (pw_and1 (pt_not (ptTruth (K := K) (pe_call (ok_is_within T) (hr.mono (by decide)) (by rfl) T.is_within.g T.is_within.F.kp T.is_within.b .nil pass0 (pa_cons (pv 1) (pa_cons pe_int (pa_cons (pe_glob (by rfl) T.c_MOST_POWER.h T.c_MOST_POWER.r) pa_nil)))) (by intro _; rfl)))))) (pss_one (ps_raise rfl (takes_of rfl rfl rfl rfl) (pmk_oexN T.e_NoNumber.o T.e_NoNumber.i T.e_NoNumber.t (ok_StoreError_init T.m_StoreError_init T.z_ValueError T.vV) (hr.mono (by decide)) T.m_StoreError_init.b pass0 (by rfl) T.e_NoNumber.g))) pss_nil)
    (pss_one (psFld (K := K) (pv 0) (pv 1) rfl))), ?_⟩
    have fin : ∀ σ, (∃ v, σ = L2.start n_Disk_power [.ref p, v]) → True := fun _ _ => trivial
    obtain ⟨dx, hob⟩ := h.ob
    have set1 : Q .non (upd H p (.ins T.C_Disk dx (df D.l D.w (pwV m) D.rc))) := by
      refine k _ ⟨⟨dx, upd_same⟩, ?_, ?_, fun r hr => ⟨?_, (h.hr r hr).2⟩, h.nd, h.kd, h.lr, h.few, h.kb⟩ fun b o hb e => by rw [upd_ne (fun z => hb (by rw [z]; exact List.mem_cons_self))]; exact e
      · show upd H p _ D.l = _
        rw [upd_ne (fun z => by have := h.hl; rw [z, hob] at this; cases this)]; exact h.hl
      · show upd H p _ D.w = _
        rw [upd_ne (fun z => by have := h.hw; rw [z, hob] at this; cases this)]; exact h.hw
      · rw [upd_ne (fun z => by have := (h.hr r hr).1; rw [z, hob] at this; cases this)]; exact (h.hr r hr).1
    cases m with
    | none =>
      walk_at "go"
      refine s_fld rfl hob T.k_Disk.cl T.n_Disk__power (by show 4 < 1000; decide) ?_
      rw [df_pp]
      exact set1
    | some i =>
      obtain ⟨i0, i1⟩ := hm i rfl
      walk_at "go"
      refine ⟨_, _, _, rfl, .inl rfl, ?_⟩
      have e : within (.int i) 0 1000000 = true := by simp [within, i0, i1]
      rw [e]
      walk_at "go"
      refine s_fld rfl hob T.k_Disk.cl T.n_Disk__power (by show 4 < 1000; decide) ?_
      rw [df_pp]
      exact set1
/-- the row of a block -/
def Dsk.row (D : Dsk) (b : Int) : Option (Int × Addr × List Addr) := D.rows.find? fun r => decide (r.1 = b)
theorem val_row {rows : List (Int × Addr × List Addr)} {b : Int} : valV (rows.map fun r => ((Sum.inl r.1 : Key), V.ref r.2.1)) (Sum.inl b : Key) = (rows.find? fun r => decide (r.1 = b)).map fun r => V.ref r.2.1 := by
  unfold valV
  rw [List.find?_map, Option.map_map]
  have e : ((fun kv : Key × V => decide (kv.1 = (Sum.inl b : Key))) ∘ fun r : Int × Addr × List Addr => ((Sum.inl r.1 : Key), V.ref r.2.1)) = fun r => decide (r.1 = b) := by
    funext r
    show decide ((Sum.inl r.1 : Key) = Sum.inl b) = decide (r.1 = b)
    by_cases h : r.1 = b
    · rw [decide_eq_true h, h]; exact decide_eq_true rfl
    · rw [decide_eq_false h]; exact decide_eq_false fun z => h (Sum.inl.inj z)
  rw [e]; rfl
def Dsk.shows (D : Dsk) (b : Int) : Option Addr := match D.row b with
  | some r => r.2.2[r.2.2.length - 1]?
  | none => D.lies[b.toNat]?
def sp_disk_read (K : PySem.W.Frag) (C Cb : Addr) : Sp := fun vs H Q E => (∃ p D b c, vs = [.ref p, .int b] ∧ DiskAt C H p D ∧ 0 ≤ b ∧ b < D.lies.length ∧ D.shows b = some c ∧ Q (.ref c) H) ∨ (vs.length = 2 ∧ NoB K C Cb vs H E)
theorem ok_Disk_read (T : Txt K mg) : FnOk P w K mg base (L2.CX P w) 4 T.m_Disk_read.f T.m_Disk_read.fd ["self", "block"] ((sp_disk_read K T.C_Disk T.e_NoBlock.C)) := by
  refine T.m_Disk_read.F.okX sc_Disk_read (fun vs H Q E h => ?_) (fun cdv A outer s H vs Q E hr h => ?_)
  · rcases h with ⟨p, D, b, c, rfl, _⟩ | h
    · rfl
    · exact h.1
  · rcases h with ⟨p, D, b, c, rfl, h, h0, hb, h1, k⟩ | ⟨l2, p, D, v, r, rfl, h, hv, hb, kE⟩
    rotate_left 1
    · obtain rfl : r = [] := List.length_eq_zero_iff.mp (by simpa using l2)
      refine ⟨_, (pss_cons (ps_expr (pe_meth (pv 0) T.k_Disk.cl T.m_Disk__need_block.i (ok_Disk__need_block T) (hr.mono (by decide)) T.m_Disk__need_block.b .nil (passes_call (takes_of rfl rfl rfl rfl) (fun _ _ _ _ h => h)) (pa_cons (pv 1) pa_nil)))
    (pss_cons (ps_if (pt_cmp (pc_din (hu_of hr) (pv 1) (peFld (K := K) (pv 0) rfl))) (pss_one (ps_ret (pe_ix (ixLT (K := K)) (pe_dget (hu_of hr) (peFld (K := K) (pv 0) rfl) (pv 1) (fun _ _ => rfl)) (pe_un un_neg pe_int) (fun _ _ => rfl)))) pss_nil)
    (pss_one (ps_ret (pe_ix (ixLT (K := K)) (peFld (K := K) (pv 0) rfl) (pv 1) (fun _ _ => rfl)))))), ?_⟩
      walk_at "go"
      refine m_call0 h.ob (df_no _ _ _ _ (by decide +kernel)) ?_
      walk_at "go"
      exact .inr ⟨rfl, p, D, v, [], rfl, h, hv, hb, kE⟩
    refine ⟨_, (pss_cons (ps_expr (pe_meth (pv 0) T.k_Disk.cl T.m_Disk__need_block.i (ok_Disk__need_block T) (hr.mono (by decide)) T.m_Disk__need_block.b .nil (passes_call (takes_of rfl rfl rfl rfl) (fun _ _ _ _ h => h)) (pa_cons (pv 1) pa_nil)))
    (pss_cons (ps_if (pt_cmp (pc_din (hu_of hr) (pv 1) (peFld (K := K) (pv 0) rfl))) (pss_one (ps_ret (pe_ix (ixLT (K := K)) (pe_dget (hu_of hr) (peFld (K := K) (pv 0) rfl) (pv 1) (fun _ _ => rfl)) (pe_un un_neg pe_int) (fun _ _ => rfl)))) pss_nil)
    (pss_one (ps_ret (pe_ix (ixLT (K := K)) (peFld (K := K) (pv 0) rfl) (pv 1) (fun _ _ => rfl)))))), ?_⟩
    have hl := slO (K := K) h.hl
    walk_at "go"
    refine m_call0 h.ob (df_no _ _ _ _ (by decide +kernel)) ?_
    walk_at "go"
    refine .inl ⟨p, D, b, rfl, h, h0, by omega, ?_⟩
    walk_at "go"
    refine o_fld h.ob T.k_Disk.cl T.n_Disk__waits (df_w _ _ _ _) ?_
    refine g_din (k := Sum.inl b) h.hw ?_
    unfold Dsk.shows at h1
    unfold Dsk.row at h1
    cases e : D.rows.find? fun r => decide (r.1 = b) with
    | none =>
      rw [e] at h1
      have h1 : D.lies[b.toNat]? = some c := h1
      rw [show (valV (D.rows.map fun r => ((Sum.inl r.1 : Key), V.ref r.2.1)) (Sum.inl b : Key)).isSome = false by rw [val_row, e]; rfl]
      walk_at "go"
      refine o_fld h.ob T.k_Disk.cl T.n_Disk__lies (df_l _ _ _ _) ?_
      walk_at "go"
      refine o_ixL hl (atI_in (j := b.toNat) (by omega) (by rw [List.getElem?_map, h1]; rfl)) ?_
      walk_at "go"
      exact k
    | some r =>
      rw [e] at h1
      have h1 : r.2.2[r.2.2.length - 1]? = some c := h1
      have hrow := h.hr r (List.mem_of_find?_eq_some e)
      rw [show (valV (D.rows.map fun r => ((Sum.inl r.1 : Key), V.ref r.2.1)) (Sum.inl b : Key)).isSome = true by rw [val_row, e]; rfl]
      walk_at "go"
      refine e_dget ?_
      walk_at "go"
      refine o_fld h.ob T.k_Disk.cl T.n_Disk__waits (df_w _ _ _ _) ?_
      walk_at "go"
      refine o_dget (k := Sum.inl b) h.hw (by rw [val_row, e]; rfl) ?_
      walk_at "go"
      have pos : 0 < r.2.2.length := List.length_pos_iff.mpr hrow.2
      refine o_ixL (slO hrow.1) (atI_neg (by rw [List.length_map]; exact pos) (by rw [List.length_map, List.getElem?_map, h1]; rfl)) ?_
      walk_at "go"
      exact k
def sp_disk_init (K : PySem.W.Frag) (C Cb : Addr) : Sp := fun vs H Q E => (∃ p n, vs = [.ref p, .int n] ∧ InsAt C H p [] ∧ 16 ≤ n ∧ n ≤ 600 ∧ ∀ H' D, DiskAt C H' p D → (∀ a ∈ D.foot p, a = p ∨ H a = none) → D.lies.length = n.toNat → (∀ c ∈ D.lies, SqT K H' c []) → D.rows = [] → D.pw = none → D.rc = 0 → But [p] H H' → Q .non H') ∨ (∃ p v, vs = [.ref p, v] ∧ Od K H v ∧ within v 16 600 = false ∧ E (.ref Cb) none H)
theorem ok_Disk_init (T : Txt K mg) : FnOk P w K mg base (L2.CX P w) 3 T.m_Disk_init.f T.m_Disk_init.fd ["self", "blocks"] ((sp_disk_init K T.C_Disk T.e_BadDisk.C)) := by
  refine T.m_Disk_init.F.okX sc_Disk_init (fun vs H Q E h => ?_) (fun cdv A outer s H vs Q E hr h => ?_)
  · rcases h with ⟨p, n, rfl, _⟩ | ⟨p, v, rfl, _⟩
    · rfl
    · rfl
  · rcases h with ⟨p, n, rfl, hp', h0, h1, k⟩ | ⟨p, v, rfl, hv, hb, kE⟩
    rotate_left 1
    · refine ⟨_, (pss_cons (ps_if (pt_not (ptTruth (K := K) (pe_call (ok_is_within T) (hr.mono (by decide)) (by rfl) T.is_within.g T.is_within.F.kp T.is_within.b .nil pass0 (pa_cons (pv 1) (pa_cons (pe_glob (by rfl) T.c_LEAST_BLOCKS.h T.c_LEAST_BLOCKS.r) (pa_cons (pe_glob (by rfl) T.c_MOST_BLOCKS.h T.c_MOST_BLOCKS.r) pa_nil)))) (by intro _; rfl))) (pss_one (ps_raise rfl (takes_of rfl rfl rfl rfl) (pmk_oexN T.e_BadDisk.o T.e_BadDisk.i T.e_BadDisk.t (ok_StoreError_init T.m_StoreError_init T.z_ValueError T.vV) (hr.mono (by decide)) T.m_StoreError_init.b pass0 (by rfl) T.e_BadDisk.g))) pss_nil)
    (pss_cons (psFld (K := K) (pv 0) (pe_lc (own := [("_", 2)]) rfl sc_Disk_init.nd (pi_range1 (by rfl) T.z_range (pa_cons (pv 1) pa_nil)) (blkOk_by (N := n_Disk_init) (sc := defScope s_Disk_init) (by decide +kernel)) (fun _ _ _ _ _ => (pg_name (i := 2) sc_Disk_init.nd rfl (Or.inl rfl))) (fun _ _ _ _ _ => pts_nil) (fun _ _ _ _ _ => (pe_tup pa_nil))) rfl)
    (pss_cons (psFld (K := K) (pv 0) pe_dnewK rfl)
    (pss_cons (psFld (K := K) (pv 0) pe_non rfl)
    (pss_one (psFld (K := K) (pv 0) pe_int rfl)))))), ?_⟩
      walk_at "go"
      refine ⟨_, _, _, rfl, hv, ?_⟩
      rw [hb]
      walk_at "go"
      exact e_raise T.e_BadDisk.o kE
    refine ⟨_, (pss_cons (ps_if (pt_not (ptTruth (K := K) (pe_call (ok_is_within T) (hr.mono (by decide)) (by rfl) T.is_within.g T.is_within.F.kp T.is_within.b .nil pass0 (pa_cons (pv 1) (pa_cons (pe_glob (by rfl) T.c_LEAST_BLOCKS.h T.c_LEAST_BLOCKS.r) (pa_cons (pe_glob (by rfl) T.c_MOST_BLOCKS.h T.c_MOST_BLOCKS.r) pa_nil)))) (by intro _; rfl))) (pss_one (ps_raise rfl (takes_of rfl rfl rfl rfl) (pmk_oexN T.e_BadDisk.o T.e_BadDisk.i T.e_BadDisk.t (ok_StoreError_init T.m_StoreError_init T.z_ValueError T.vV) (hr.mono (by decide)) T.m_StoreError_init.b pass0 (by rfl) T.e_BadDisk.g))) pss_nil)
    (pss_cons (psFld (K := K) (pv 0) (pe_lc (own := [("_", 2)]) rfl sc_Disk_init.nd (pi_range1 (by rfl) T.z_range (pa_cons (pv 1) pa_nil)) (blkOk_by (N := n_Disk_init) (sc := defScope s_Disk_init) (by decide +kernel)) (fun _ _ _ _ _ => (pg_name (i := 2) sc_Disk_init.nd rfl (Or.inl rfl))) (fun _ _ _ _ _ => pts_nil) (fun _ _ _ _ _ => (pe_tup pa_nil))) rfl)
    (pss_cons (psFld (K := K) (pv 0) pe_dnewK rfl)
    (pss_cons (psFld (K := K) (pv 0) pe_non rfl)
    (pss_one (psFld (K := K) (pv 0) pe_int rfl)))))), ?_⟩
    walk_at "go"
    refine ⟨_, _, _, rfl, .inl rfl, ?_⟩
    have e : within (.int n) 16 600 = true := by simp [within, h0, h1]
    rw [e]
    walk_at "go"
    refine i_rng n.toNat rfl (by omega) (by omega) ?_
    refine c_rng (fun i acc H1 => Same H H1 ∧ ∃ cs : List Addr, acc = cs.map V.ref ∧ cs.length = i ∧ ∀ c ∈ cs, SqT K H1 c []) (fun D hD => ⟨upd_free (Same.refl _) hD, [], rfl, rfl, fun c hc => nomatch hc⟩) (fun acc L H1 hL hp q => ?_) (fun _ => rfl) (fun i acc H1 L hi hL hq q => ?_)
    rotate_left 1
    · obtain ⟨s1, cs, rfl, lc, hc⟩ := q
      walk_at "go"
      refine n_new (le_size (by simp)) fun c H2 n2 s2 h2 => ?_
      have hq2 := at_ s2 hq
      refine ⟨_, hq2, lt_size (by simp; omega), _, upd_same, upd_free (s1.trans s2) hL, cs ++ [c], by rw [List.map_append]; rfl, by simp; omega, fun c' hc' => ?_⟩
      have keep : ∀ c', SqT K H2 c' [] → SqT K (upd H2 L (.lst (cs.map V.ref ++ [V.ref c]))) c' [] := fun c' h => oth_st (fun b o nb z => by rw [upd_ne nb]; exact z) hq2 h
      rcases List.mem_append.mp hc' with z | z
      · exact keep c' (st_ s2 (hc c' z))
      · rw [List.mem_singleton.mp z]; exact keep c (stO h2)
    · obtain ⟨s1, cs, rfl, lc, hc⟩ := q
      obtain ⟨dx, hob⟩ := ins_same s1 hp'
      have pL : p ≠ L := fun z => by
        obtain ⟨dx2, h2⟩ := hp'
        rw [z, hL] at h2; cases h2
      walk_at "go"
      refine s_fld rfl hob T.k_Disk.cl T.n_Disk__lies (by show 0 < 1000; decide) ?_
      have hL2 : upd H1 p (.ins T.C_Disk dx (putF "_lies" (.ref L) [])) L = some (.lst (cs.map V.ref)) := by rw [upd_ne pL.symm]; exact hp
      have hp2 : upd H1 p (.ins T.C_Disk dx (putF "_lies" (.ref L) [])) p = some (.ins T.C_Disk dx (putF "_lies" (.ref L) [])) := upd_same
      have b2 : But [p] H (upd H1 p (.ins T.C_Disk dx (putF "_lies" (.ref L) []))) := fun b o hb e => by rw [upd_ne (fun z => hb (by rw [z]; exact List.mem_cons_self))]; exact s1 _ _ e
      have hc2 : ∀ c ∈ cs, SqT K (upd H1 p (.ins T.C_Disk dx (putF "_lies" (.ref L) []))) c [] := fun c hm => oth_stI (fun b o nb z => by rw [upd_ne nb]; exact z) hob (hc c hm)
      generalize upd H1 p (.ins T.C_Disk dx (putF "_lies" (.ref L) [])) = H2 at *
      walk_at "go"
      refine e_dnew fun w' H3 n3 s3 h3 => ?_
      walk_at "go"
      refine s_fld rfl (at_ s3 hp2) T.k_Disk.cl T.n_Disk__waits (by show 1 < 1000; decide) ?_
      walk_at "go"
      refine s_fld rfl upd_same T.k_Disk.cl T.n_Disk__power (by show 2 < 1000; decide) ?_
      walk_at "go"
      refine s_fld rfl upd_same T.k_Disk.cl T.n_Disk__reached (by show 3 < 1000; decide) ?_
      rw [df_new]
      have nw : w' ≠ p := (ne_of_none hp2 n3).symm
      have oth : ∀ b, b ≠ p → ∀ x y z, upd (upd (upd H3 p x) p y) p z b = H3 b := fun b hb x y z => by rw [upd_ne hb, upd_ne hb, upd_ne hb]
      refine k _ ⟨L, cs, w', [], none, 0⟩ ⟨⟨dx, upd_same⟩, ?_, ?_, fun r hr => (nomatch hr), List.nodup_nil, List.nodup_nil, by simp, by show cs.length ≤ 600; omega, fun r hr => (nomatch hr)⟩ (fun a ha => ?_) lc (fun c hm => ?_) rfl rfl rfl fun b o hb e => ?_
      · show upd _ p _ L = _
        rw [oth _ pL.symm]; exact at_ s3 hL2
      · show upd _ p _ w' = _
        rw [oth _ nw]; exact h3
      · have ha : a ∈ [p, L, w'] := ha
        simp only [List.mem_cons, List.not_mem_nil, or_false] at ha
        rcases ha with z | z | z
        · exact .inl z
        · exact .inr (by rw [z]; exact hL)
        · by_cases q : a = p
          · exact .inl q
          · refine .inr ?_
            cases e : H a with
            | none => rfl
            | some o => have := b2 a o (by simpa using q) e; rw [z, n3] at this; cases this
      · have h4 := st_ s3 (hc2 c hm)
        have hp3 := at_ s3 hp2
        have u : ∀ (G : Hp) (x : HO), Oth p G (upd G p x) := fun G x b o nb z => by rw [upd_ne nb]; exact z
        exact oth_stI (u _ _) upd_same (oth_stI (u _ _) upd_same (oth_stI (u _ _) hp3 h4))
      · rw [oth _ (fun z => hb (by rw [z]; exact List.mem_cons_self))]; exact s3 _ _ (b2 _ _ hb e)
/-- a write waits behind the row of its block, or in a new row at r' -/
def addRow (rows : List (Int × Addr × List Addr)) (b : Int) (c r' : Addr) : List (Int × Addr × List Addr) := match rows.find? fun r => decide (r.1 = b) with
  | some _ => rows.map fun r => if r.1 = b then (r.1, r.2.1, r.2.2 ++ [c]) else r
  | none => rows ++ [(b, r', [c])]
theorem row_uniq : ∀ {rows : List (Int × Addr × List Addr)}, (rows.map (·.1)).Nodup → ∀ r ∈ rows, ∀ s ∈ rows, r.1 = s.1 → r = s
  | [], _, _, h, _, _, _ => nomatch h
  | a :: l, h, r, hr, s, hs, e => by
    obtain ⟨h1, h2⟩ := List.nodup_cons.mp h
    rcases List.mem_cons.mp hr with q | q <;> rcases List.mem_cons.mp hs with q2 | q2
    · rw [q, q2]
    · exact absurd (List.mem_map.mpr ⟨s, q2, by rw [← e, q]⟩) h1
    · exact absurd (List.mem_map.mpr ⟨r, q, by rw [e, q2]⟩) h1
    · exact row_uniq h2 r q s q2 e
theorem adr_uniq : ∀ {rows : List (Int × Addr × List Addr)}, (rows.map (·.2.1)).Nodup → ∀ r ∈ rows, ∀ s ∈ rows, r.2.1 = s.2.1 → r = s
  | [], _, _, h, _, _, _ => nomatch h
  | a :: l, h, r, hr, s, hs, e => by
    obtain ⟨h1, h2⟩ := List.nodup_cons.mp h
    rcases List.mem_cons.mp hr with q | q <;> rcases List.mem_cons.mp hs with q2 | q2
    · rw [q, q2]
    · exact absurd (List.mem_map.mpr ⟨s, q2, by rw [← e, q]⟩) h1
    · exact absurd (List.mem_map.mpr ⟨r, q, by rw [e, q2]⟩) h1
    · exact adr_uniq h2 r q s q2 e
def sp_disk_write (K : PySem.W.Frag) (C Cb Cc : Addr) : Sp := fun vs H Q E => (∃ p D b c xs, vs = [.ref p, .int b, .ref c] ∧ DiskAt C H p D ∧ 0 ≤ b ∧ b < D.lies.length ∧ SqT K H c xs ∧ xs.length ≤ 1000 ∧ (∀ x ∈ xs, smallV x = true) ∧ itemsB xs 0 40 = true ∧ D.rows.length < 1000 ∧ (∀ r ∈ D.rows, r.2.2.length < 1000) ∧
  ∀ H' r', (r' ∈ D.foot p ∨ H r' = none) → DiskAt C H' p { D with rows := addRow D.rows b c r' } → But (D.foot p) H H' → Q .non H') ∨ (vs.length = 3 ∧ NoB K C Cb vs H E) ∨ (∃ p D b v o, vs = [.ref p, .int b, v] ∧ DiskAt C H p D ∧ 0 ≤ b ∧ b < D.lies.length ∧ Th K H v o ∧ itemsO 0 40 o = false ∧ ∀ H', Same H H' → E (.ref Cc) none H')
theorem ok_Disk_write (T : Txt K mg) : FnOk P w K mg base (L2.CX P w) 5 T.m_Disk_write.f T.m_Disk_write.fd ["self", "block", "content"] ((sp_disk_write K T.C_Disk T.e_NoBlock.C T.e_NoContent.C)) := by
  refine T.m_Disk_write.F.okX sc_Disk_write (fun vs H Q E h => ?_) (fun cdv A outer s H vs Q E hr h => ?_)
  · rcases h with ⟨p, D, b, c, xs, rfl, _⟩ | h | ⟨p, D, b, v, o, rfl, _⟩
    · rfl
    · exact h.1
    · rfl
  · rcases h with ⟨p, D, b, c, xs, rfl, h, h0, hb, hc, hl, hx, hi, hn, hrw, k⟩ | ⟨l2, p, D, v, r, rfl, h, hv, hb, kE⟩ | ⟨p, D, b, v, o, rfl, h, h0, hb, hv, ho, kE⟩
    rotate_left 1
    · obtain ⟨x, rfl⟩ : ∃ x, r = [x] := List.length_eq_one_iff.mp (by simpa using l2)
      refine ⟨_, (pss_cons (ps_expr (pe_meth (pv 0) T.k_Disk.cl T.m_Disk__need_block.i (ok_Disk__need_block T) (hr.mono (by decide)) T.m_Disk__need_block.b .nil (passes_call (takes_of rfl rfl rfl rfl) (fun _ _ _ _ h => h)) (pa_cons (pv 1) pa_nil)))
    (pss_cons (ps_if (pt_not (ptTruth (K := K) (pe_call (ok_is_items T) (hr.mono (by decide)) (by rfl) T.is_items.g T.is_items.F.kp T.is_items.b .nil pass0 (pa_cons (pv 2) (pa_cons pe_int (pa_cons (pe_glob (by rfl) T.c_MOST_ITEMS.h T.c_MOST_ITEMS.r) pa_nil)))) (by intro _; rfl))) (pss_one (ps_raise rfl (takes_of rfl rfl rfl rfl) (pmk_oexN T.e_NoContent.o T.e_NoContent.i T.e_NoContent.t (ok_StoreError_init T.m_StoreError_init T.z_ValueError T.vV) (hr.mono (by decide)) T.m_StoreError_init.b pass0 (by rfl) T.e_NoContent.g))) pss_nil)
    (pss_one (ps_expr (peApp (K := K) (pe_bm PySem.F.plainAttrs_list PySem.F.slot_list_append PySem.F.type_list_append mt_append (pe_dsetd (peFld (K := K) (pv 0) rfl) (pv 1) (pe_lst pa_nil) ⟨by rfl, by rfl, by rfl, by rfl⟩) (pa_cons (pv 2) pa_nil))))))), ?_⟩
      walk_at "go"
      refine m_call0 h.ob (df_no _ _ _ _ (by decide +kernel)) ?_
      walk_at "go"
      exact .inr ⟨rfl, p, D, v, [], rfl, h, hv, hb, kE⟩
    · refine ⟨_, (pss_cons (ps_expr (pe_meth (pv 0) T.k_Disk.cl T.m_Disk__need_block.i (ok_Disk__need_block T) (hr.mono (by decide)) T.m_Disk__need_block.b .nil (passes_call (takes_of rfl rfl rfl rfl) (fun _ _ _ _ h => h)) (pa_cons (pv 1) pa_nil)))
    (pss_cons (ps_if (pt_not (ptTruth (K := K) (pe_call (ok_is_items T) (hr.mono (by decide)) (by rfl) T.is_items.g T.is_items.F.kp T.is_items.b .nil pass0 (pa_cons (pv 2) (pa_cons pe_int (pa_cons (pe_glob (by rfl) T.c_MOST_ITEMS.h T.c_MOST_ITEMS.r) pa_nil)))) (by intro _; rfl))) (pss_one (ps_raise rfl (takes_of rfl rfl rfl rfl) (pmk_oexN T.e_NoContent.o T.e_NoContent.i T.e_NoContent.t (ok_StoreError_init T.m_StoreError_init T.z_ValueError T.vV) (hr.mono (by decide)) T.m_StoreError_init.b pass0 (by rfl) T.e_NoContent.g))) pss_nil)
    (pss_one (ps_expr (peApp (K := K) (pe_bm PySem.F.plainAttrs_list PySem.F.slot_list_append PySem.F.type_list_append mt_append (pe_dsetd (peFld (K := K) (pv 0) rfl) (pv 1) (pe_lst pa_nil) ⟨by rfl, by rfl, by rfl, by rfl⟩) (pa_cons (pv 2) pa_nil))))))), ?_⟩
      walk_at "go"
      refine m_call0 h.ob (df_no _ _ _ _ (by decide +kernel)) ?_
      walk_at "go"
      refine .inl ⟨p, D, b, rfl, h, h0, by omega, ?_⟩
      walk_at "go"
      refine ⟨v, o, 0, 40, rfl, hv, fun H1 s1 => ?_⟩
      rw [ho]
      walk_at "go"
      exact e_raise T.e_NoContent.o (kE H1 s1)
    refine ⟨_, (pss_cons (ps_expr (pe_meth (pv 0) T.k_Disk.cl T.m_Disk__need_block.i (ok_Disk__need_block T) (hr.mono (by decide)) T.m_Disk__need_block.b .nil (passes_call (takes_of rfl rfl rfl rfl) (fun _ _ _ _ h => h)) (pa_cons (pv 1) pa_nil)))
    (pss_cons (ps_if (pt_not (ptTruth (K := K) (pe_call (ok_is_items T) (hr.mono (by decide)) (by rfl) T.is_items.g T.is_items.F.kp T.is_items.b .nil pass0 (pa_cons (pv 2) (pa_cons pe_int (pa_cons (pe_glob (by rfl) T.c_MOST_ITEMS.h T.c_MOST_ITEMS.r) pa_nil)))) (by intro _; rfl))) (pss_one (ps_raise rfl (takes_of rfl rfl rfl rfl) (pmk_oexN T.e_NoContent.o T.e_NoContent.i T.e_NoContent.t (ok_StoreError_init T.m_StoreError_init T.z_ValueError T.vV) (hr.mono (by decide)) T.m_StoreError_init.b pass0 (by rfl) T.e_NoContent.g))) pss_nil)
    (pss_one (ps_expr (peApp (K := K) (pe_bm PySem.F.plainAttrs_list PySem.F.slot_list_append PySem.F.type_list_append mt_append (pe_dsetd (peFld (K := K) (pv 0) rfl) (pv 1) (pe_lst pa_nil) ⟨by rfl, by rfl, by rfl, by rfl⟩) (pa_cons (pv 2) pa_nil))))))), ?_⟩
    walk_at "go"
    refine m_call0 h.ob (df_no _ _ _ _ (by decide +kernel)) ?_
    walk_at "go"
    refine .inl ⟨p, D, b, rfl, h, h0, by omega, ?_⟩
    walk_at "go"
    refine ⟨.ref c, some xs, 0, 40, rfl, .tup hc hl fun x hm => .inl (hx x hm), fun H1 s1 => ?_⟩
    rw [show itemsO 0 40 (some xs) = true from hi]
    have h1 := h.same s1
    walk_at "go"
    refine e_dsetd ?_
    walk_at "go"
    refine o_fld h1.ob T.k_Disk.cl T.n_Disk__waits (df_w _ _ _ _) ?_
    refine o_dsetd h1.hw ?_
    walk_at "go"
    refine n_new (le_size (by simp)) fun n H2 n2 s2 h2n => ?_
    have h2 := h1.same s2
    have s12 := s1.trans s2
    refine o_dset (k := Sum.inl b) h2.hw (by rw [List.length_map]; omega) (fun v e => ?_) fun e => ?_
    · rw [val_row] at e
      cases e2 : D.rows.find? fun r => decide (r.1 = b) with
      | none => rw [e2] at e; cases e
      | some r =>
        rw [e2] at e
        have ev : v = .ref r.2.1 := (Option.some.inj e).symm
        subst ev
        have hm := List.mem_of_find?_eq_some e2
        have hk : r.1 = b := of_decide_eq_true (List.find?_some (p := fun r : Int × Addr × List Addr => decide (r.1 = b)) e2)
        have hrow := h2.hr r hm
        refine ty_lst hrow.1 ?_
        walk_at "go"
        refine r_app hrow.1 (by rw [List.length_map]; have := hrw r hm; omega) fun H3 o3 h3 => ?_
        have fm : r.2.1 ∈ D.foot p := List.mem_cons_of_mem _ (List.mem_cons_of_mem _ (List.mem_cons_of_mem _ (List.mem_map.mpr ⟨r, hm, rfl⟩)))
        have ea : addRow D.rows b c r.2.1 = D.rows.map fun r => if r.1 = b then (r.1, r.2.1, r.2.2 ++ [c]) else r := by unfold addRow; rw [e2]
        have k2 := k H3 r.2.1 (.inl fm)
        rw [ea] at k2
        have m1 : ∀ f : Int × Addr × List Addr → Int, True := fun _ => trivial
        have em1 : (D.rows.map fun r => if r.1 = b then (r.1, r.2.1, r.2.2 ++ [c]) else r).map (·.1) = D.rows.map (·.1) := by
          rw [List.map_map]; apply List.map_congr_left; intro q _; show (if q.1 = b then _ else _ : Int × Addr × List Addr).1 = q.1; split <;> rfl
        have em2 : (D.rows.map fun r => if r.1 = b then (r.1, r.2.1, r.2.2 ++ [c]) else r).map (·.2.1) = D.rows.map (·.2.1) := by
          rw [List.map_map]; apply List.map_congr_left; intro q _; show (if q.1 = b then _ else _ : Int × Addr × List Addr).2.1 = q.2.1; split <;> rfl
        have em3 : (D.rows.map fun r => if r.1 = b then (r.1, r.2.1, r.2.2 ++ [c]) else r).map (fun r => ((Sum.inl r.1 : Key), V.ref r.2.1)) = D.rows.map fun r => ((Sum.inl r.1 : Key), V.ref r.2.1) := by
          rw [List.map_map]; apply List.map_congr_left; intro q _; show ((Sum.inl (if q.1 = b then _ else _ : Int × Addr × List Addr).1 : Key), V.ref (if q.1 = b then _ else _ : Int × Addr × List Addr).2.1) = _; split <;> rfl
        obtain ⟨dx, hob⟩ := h2.ob
        refine k2 ⟨⟨dx, o3 _ _ (fun z => by have := hrow.1; rw [← z, hob] at this; cases this) hob⟩, ?_, ?_, fun q hq => ?_, ?_, ?_, ?_, h.few, fun q hq => ?_⟩ fun a o ha e => o3 _ _ (fun z => ha (z ▸ fm)) (s12 _ _ e)
        · exact o3 _ _ (fun z => h.lr (z ▸ List.mem_map.mpr ⟨r, hm, rfl⟩)) h2.hl
        · show H3 D.w = _
          rw [show ({ D with rows := D.rows.map fun r => if r.1 = b then (r.1, r.2.1, r.2.2 ++ [c]) else r } : Dsk).rows.map (fun r => ((Sum.inl r.1 : Key), V.ref r.2.1)) = D.rows.map fun r => ((Sum.inl r.1 : Key), V.ref r.2.1) from em3]
          exact o3 _ _ (fun z => by have := h2.hw; rw [z, hrow.1] at this; cases this) h2.hw
        · obtain ⟨q0, hq0, e0⟩ := List.mem_map.mp hq
          subst e0
          by_cases z : q0.1 = b
          · have eq : q0 = r := row_uniq h.kd q0 hq0 r hm (by rw [z, hk])
            subst eq
            rw [if_pos z]
            exact ⟨by rw [h3, List.map_append]; rfl, by simp⟩
          · rw [if_neg z]
            exact ⟨o3 _ _ (fun y => z (by rw [adr_uniq h.nd q0 hq0 r hm y]; exact hk)) (h2.hr q0 hq0).1, (h2.hr q0 hq0).2⟩
        · show (List.map _ _).Nodup
          rw [em2]; exact h.nd
        · show (List.map _ _).Nodup
          rw [em1]; exact h.kd
        · show D.l ∉ List.map _ _
          rw [em2]; exact h.lr
        · obtain ⟨q0, hq0, e0⟩ := List.mem_map.mp hq
          subst e0
          have := h.kb q0 hq0
          by_cases z : q0.1 = b
          · rw [if_pos z]; exact this
          · rw [if_neg z]; exact this
    · have e2 : D.rows.find? (fun r => decide (r.1 = b)) = none := by
        rw [val_row] at e
        cases q : D.rows.find? fun r => decide (r.1 = b) with
        | none => rfl
        | some r => rw [q] at e; cases e
      rw [putK_new _ e]
      have nl : n ≠ D.w := fun z => by have := h2.hw; rw [← z, h2n] at this; cases this
      have hn3 : upd H2 D.w (.dK ((D.rows.map fun r => ((Sum.inl r.1 : Key), V.ref r.2.1)) ++ [((Sum.inl b : Key), V.ref n)])) n = some (.lst []) := by rw [upd_ne nl]; exact h2n
      have hw3 : upd H2 D.w (.dK ((D.rows.map fun r => ((Sum.inl r.1 : Key), V.ref r.2.1)) ++ [((Sum.inl b : Key), V.ref n)])) D.w = some (.dK ((D.rows.map fun r => ((Sum.inl r.1 : Key), V.ref r.2.1)) ++ [((Sum.inl b : Key), V.ref n)])) := upd_same
      have o3 : Oth D.w H2 (upd H2 D.w (.dK ((D.rows.map fun r => ((Sum.inl r.1 : Key), V.ref r.2.1)) ++ [((Sum.inl b : Key), V.ref n)]))) := fun a o na z => by rw [upd_ne na]; exact z
      generalize upd H2 D.w (.dK ((D.rows.map fun r => ((Sum.inl r.1 : Key), V.ref r.2.1)) ++ [((Sum.inl b : Key), V.ref n)])) = H3 at *
      refine ty_lst hn3 ?_
      walk_at "go"
      refine r_app hn3 (by simp) fun H4 o4 h4 => ?_
      have nfree : H n = none := free_ s1 n2
      have ea : addRow D.rows b c n = D.rows ++ [(b, n, [c])] := by unfold addRow; rw [e2]
      have k2 := k H4 n (.inr nfree)
      rw [ea] at k2
      have go : ∀ a o, a ≠ n → a ≠ D.w → H2 a = some o → H4 a = some o := fun a o na nw e => o4 _ _ na (o3 _ _ nw e)
      have old : ∀ a o, H a = some o → a ≠ n := fun a o e z => by rw [z, nfree] at e; cases e
      obtain ⟨dx, hob⟩ := h.ob
      have nb : ∀ r ∈ D.rows, r.1 ≠ b := fun r hr z => by
        have := List.find?_eq_none.mp e2 r hr
        exact this (decide_eq_true z)
      refine k2 ⟨⟨dx, go _ _ (old _ _ hob) (fun z => by have := h.hw; rw [← z, hob] at this; cases this) (s12 _ _ hob)⟩, ?_, ?_, fun q hq => ?_, ?_, ?_, ?_, h.few, fun q hq => ?_⟩ fun a o ha e => go _ _ (old _ _ e) (fun z => ha (by rw [z]; exact List.mem_cons_of_mem _ (List.mem_cons_of_mem _ List.mem_cons_self))) (s12 _ _ e)
      · exact go _ _ (old _ _ h.hl) (fun z => by have := h.hw; rw [← z, h.hl] at this; cases this) (s12 _ _ h.hl)
      · show H4 D.w = some (.dK (List.map _ (D.rows ++ [(b, n, [c])])))
        rw [List.map_append]
        exact o4 _ _ nl.symm hw3
      · rcases List.mem_append.mp hq with z | z
        · have hr0 := h.hr q z
          exact ⟨go _ _ (old _ _ hr0.1) (fun y => by have := h.hw; rw [← y, hr0.1] at this; cases this) (s12 _ _ hr0.1), hr0.2⟩
        · have z := List.mem_singleton.mp z
          subst z
          exact ⟨h4, by simp⟩
      · show (List.map _ (D.rows ++ [(b, n, [c])])).Nodup
        rw [List.map_append]
        refine List.nodup_append.mpr ⟨h.nd, by simp, fun x hx y hy e => ?_⟩
        obtain ⟨r, hr, er⟩ := List.mem_map.mp hx
        have hy := List.mem_singleton.mp hy
        exact old _ _ (h.hr r hr).1 (by rw [er, e, hy])
      · show (List.map _ (D.rows ++ [(b, n, [c])])).Nodup
        rw [List.map_append]
        refine List.nodup_append.mpr ⟨h.kd, by simp, fun x hx y hy e => ?_⟩
        obtain ⟨r, hr, er⟩ := List.mem_map.mp hx
        have hy := List.mem_singleton.mp hy
        exact nb r hr (by rw [er, e, hy])
      · show D.l ∉ List.map _ (D.rows ++ [(b, n, [c])])
        rw [List.map_append]
        intro z
        rcases List.mem_append.mp z with z | z
        · exact h.lr z
        · exact old _ _ h.hl (List.mem_singleton.mp z)
      · rcases List.mem_append.mp hq with z | z
        · exact h.kb q z
        · have z := List.mem_singleton.mp z
          subst z
          exact ⟨h0, hb⟩
end
end Vw

set_option Elab.async false
set_option linter.all false
set_option maxRecDepth 100000
set_option maxHeartbeats 4000000
namespace Vw
open PySem PySem.Spec PyProof.Rows L2 RT
local macro_rules | `(tactic| walk_at "s") => `(tactic| with_reducible first
  | refine' s_seq ?_ | refine' s_next ?_ | refine' s_set ?_ | refine' s_ret ?_ | refine' s_retN ?_ | refine' s_drop ?_ | refine' s_if ?_ | refine' s_ipI ?_
  | refine' e_c ?_ | refine' e_op ?_ | refine' e_un ?_ | refine' e_neg ?_ | refine' e_test ?_ | refine' e_tB ?_ | refine' e_bl ?_ | refine' e_and ?_ | refine' e_or ?_ | refine' e_not ?_
  | refine' e_andV ?_ | refine' e_orV ?_ | refine' e_notV ?_ | refine' e_kV ?_ | refine' e_ife ?_ | refine' e_nil ?_ | refine' e_cons ?_ | refine' e_cb ?_ | refine' e_call ?_ | refine' e_chain ?_
  | refine' o_addI ?_ | refine' o_eqI ?_ | refine' o_neI ?_ | refine' o_I0 ?_ | refine' o_pow16 ?_ | refine' o_pow17 ?_ | refine' o_pow18 ?_ | refine' o_pow19 ?_ | refine' o_pow30 ?_ | refine' o_pow31 ?_ | refine' o_pow1 ?_ | refine' o_pow2 ?_ | refine' o_pow3 ?_ | refine' o_pow4 ?_ | refine' o_pow5 ?_ | refine' o_pow6 ?_ | refine' o_pow9 ?_ | refine' o_pow10 ?_ | refine' o_pow12 ?_ | refine' o_pow15 ?_ | refine' o_pow20 ?_ | refine' e_lst ?_ | refine' e_tup ?_ | refine' iteT ?_ | refine' i_nt ?_ | refine' i_nf ?_ | refine' iteF ?_ | refine' c_int ?_ | refine' c_abs ?_ | refine' c_min2 ?_ | refine' c_max2 ?_ | refine' e_tru ?_ | refine' t_bl ?_ | refine' t_non ?_ | refine' t_int ?_ | refine' isN_non ?_ | refine' isN_int ?_ | refine' isN_ref ?_ | refine' isN_str ?_ | refine' isN_bl ?_ | refine' noN_non ?_ | refine' noN_int ?_ | refine' noN_ref ?_ | refine' noN_str ?_ | refine' noN_bl ?_
  | refine' s_brk ?_ | refine' s_cont ?_ | refine' s_for ?_ | refine' e_lc ?_ | refine' e_dc ?_ | refine' e_yes ?_ | refine' i_rng1 ?_ | refine' i_lst0 ?_ | refine' i_tup0 ?_ | refine' e_bm ?_ | refine' e_sl ?_ | refine' e_np ?_ | refine' e_pt ?_ | refine' e_ptI ?_ | refine' e_din ?_ | refine' e_dnin ?_ | refine' e_methE ?_ | refine' p_cons ?_ | refine' p_nil ?_ | refine' s_dput ?_ | refine' e_dget2 ?_ | refine' e_dpop1 ?_ | refine' i_enum0 ?_ | refine' i_rev0 ?_ | refine' g_sub ?_ | refine' s_asg ?_ | refine' i_zip0 ?_ | refine' e_revT ?_ | refine' isB_bl ?_ | refine' notB_bl ?_ | refine' o_neB ?_ | refine' i_nrr ?_ | refine' e_meth ?_ | refine' s_setf ?_ | refine' e_fld ?_ | refine' e_bm0 ?_ | refine' r_tx ?_ | refine' o_eqStr ?_ | refine' o_neStr ?_)
local macro_rules | `(tactic| walk_at "v") => `(tactic| ((with_reducible refine' e_var ?hv ?_); (case hv => exact rfl)))
local macro_rules | `(tactic| walk_at "a") => `(tactic| ((with_reducible refine' s_aug ?hv ?_); (case hv => exact rfl)))
local macro_rules | `(tactic| walk_at "m") => `(tactic| first
  | ((with_reducible refine' o_mod ?hv ?_); (case hv => first | decide | omega))
  | ((with_reducible refine' o_mulR ?hv ?_); (case hv => omega))
  | ((with_reducible refine' o_mulL ?hv ?_); (case hv => omega))
  | ((with_reducible refine' o_div ?hv ?hw ?_); (case hv => omega); (case hw => omega))
  | ((with_reducible refine' o_pow _ ?hv ?hw ?hx ?_); (case hv => exact rfl); (case hw => decide); (case hx => decide)))
local macro_rules | `(tactic| walk_at "i") => `(tactic| (first
  | ((with_reducible refine' isi_int true ?hv ?_); (case hv => exact (by decide +kernel)))
  | ((with_reducible refine' isi_int false ?hv ?_); (case hv => exact (by decide +kernel)))
  | ((with_reducible refine' isi_non true ?hv ?_); (case hv => exact (by decide +kernel)))
  | ((with_reducible refine' isi_non false ?hv ?_); (case hv => exact (by decide +kernel)))
  | ((with_reducible refine' isi_str true ?hv ?_); (case hv => exact (by decide +kernel)))
  | ((with_reducible refine' isi_str false ?hv ?_); (case hv => exact (by decide +kernel)))
  | ((with_reducible refine' isi_bl true ?hv ?_); (case hv => exact (by decide +kernel)))
  | ((with_reducible refine' isi_bl false ?hv ?_); (case hv => exact (by decide +kernel)))
  | ((with_reducible refine' isi_t true ?hw ?hv ?_); (case hw => assumption); (case hv => exact (by decide +kernel)))
  | ((with_reducible refine' isi_t false ?hw ?hv ?_); (case hw => assumption); (case hv => exact (by decide +kernel)))
  | ((with_reducible refine' isi_l true ?hw ?hv ?_); (case hw => assumption); (case hv => exact (by decide +kernel)))
  | ((with_reducible refine' isi_l false ?hw ?hv ?_); (case hw => assumption); (case hv => exact (by decide +kernel)))
  | ((with_reducible refine' isi_tup true ?hw ?hv ?_); (case hw => assumption); (case hv => exact (by decide +kernel)))
  | ((with_reducible refine' isi_tup false ?hw ?hv ?_); (case hw => assumption); (case hv => exact (by decide +kernel)))
  | ((with_reducible refine' isi_lst true ?hw ?hv ?_); (case hw => assumption); (case hv => exact (by decide +kernel)))
  | ((with_reducible refine' isi_lst false ?hw ?hv ?_); (case hw => assumption); (case hv => exact (by decide +kernel)))))
local macro_rules | `(tactic| walk_at "om") => `(tactic| first | omega | (simp only [List.length_cons, List.length_nil, List.length_map, List.length_append, List.length_range]; omega))
local macro_rules | `(tactic| walk_at "d") => `(tactic| (first
  | ((with_reducible refine' i_dt ?hv ?_); (case hv => walk_at "om"))
  | ((with_reducible refine' i_df ?hv ?_); (case hv => walk_at "om"))
  | ((with_reducible refine' i_ndt ?hv ?_); (case hv => walk_at "om"))
  | ((with_reducible refine' i_ndf ?hv ?_); (case hv => walk_at "om"))))
local macro_rules | `(tactic| walk_at "x") => `(tactic| first
  | ((with_reducible refine' o_ixA ?hv ?hw ?_); (case hv => assumption); (case hw => exact rfl))
  | ((with_reducible refine' o_ixU ?hv ?hw ?_); (case hv => assumption); (case hw => exact rfl))
  | ((with_reducible refine' o_ixL ?hv ?hw ?_); (case hv => assumption); (case hw => exact rfl))
  | ((with_reducible refine' o_ixT ?hv ?hw ?_); (case hv => assumption); (case hw => exact rfl))
  | ((with_reducible refine' set_ ?hv ?hw ?_); (case hv => assumption); (case hw => exact rfl))
  | ((with_reducible refine' e_lenM ?hv ?_); (case hv => first | assumption | exact slO (by assumption)))
  | ((with_reducible refine' e_lenN ?hv ?_); (case hv => first | assumption | exact stO (by assumption)))
  | ((with_reducible refine' e_lenL ?hv ?_); (case hv => first | assumption | exact slO (by assumption)))
  | ((with_reducible refine' e_lenT ?hv ?_); (case hv => first | assumption | exact stO (by assumption))))
local macro_rules | `(tactic| walk_at "c") => `(tactic| first
  | ((with_reducible refine' c_listL ?hv ?_); (case hv => assumption))
  | ((with_reducible refine' c_listT ?hv ?_); (case hv => assumption))
  | ((with_reducible refine' c_tupL ?hv ?_); (case hv => first | assumption | exact slO (by assumption)))
  | ((with_reducible refine' c_tupT ?hv ?_); (case hv => assumption))
  | ((with_reducible refine' t_lst ?hv ?_); (case hv => first | assumption | exact slO (by assumption)))
  | ((with_reducible refine' t_tup ?hv ?_); (case hv => assumption))
  | ((with_reducible refine' r_sl ?hv ?_); (case hv => first | assumption | exact slO (by assumption)))
  | ((with_reducible refine' o_inL ?hv ?_); (case hv => first | assumption | exact slO (by assumption)))
  | ((with_reducible refine' o_inT ?hv ?_); (case hv => first | assumption | exact stO (by assumption)))
  | ((with_reducible refine' o_niL ?hv ?_); (case hv => first | assumption | exact slO (by assumption)))
  | ((with_reducible refine' o_niT ?hv ?_); (case hv => first | assumption | exact stO (by assumption)))
  | ((with_reducible refine' ty_lst ?hv ?_); (case hv => assumption)))
local macro_rules | `(tactic| walk_at "mo") => `(tactic| repeat' (first | exact m_yes | exact m_var | exact m_c | exact m_I0 | exact m_I | exact m_ix | exact m_add | exact m_in | exact m_int1 | exact m_abs | exact m_nil | refine' m_and ?_ ?_ | refine' m_test ?_ | refine' m_tB ?_ | refine' m_op ?_ ?_ ?_ | refine' m_cons ?_ ?_ | refine' m_cb ?_ ?_))
local macro_rules | `(tactic| walk_at "go") => `(tactic| repeat' (first | walk_at "s" | walk_at "v" | walk_at "a" | walk_at "x" | walk_at "m" | walk_at "c" | walk_at "i" | walk_at "d"))

section
variable {P : Program} {w : World} {K : PySem.W.Frag} {mg : Str → Option Value} {base : Heap}
/-! ### what may change -/
def muT : HO → Bool
  | .tup _ => true
  | .frz _ _ => true
  | .ext _ => true
  | .tbl _ => true
  | _ => false
def Ch (F : List Addr) (H H' : Hp) : Prop := ∀ a o, H a = some o → (a ∉ F ∨ muT o = true) → H' a = some o
section
variable {F F' : List Addr} {H H1 H2 H' : Hp} {a c p : Addr} {o x : HO} {xs : List V}
theorem Ch.refl : Ch F H H := fun _ _ h _ => h
theorem Ch.of_same (s : Same H H') : Ch F H H' := fun a o h _ => s a o h
theorem Ch.trans (h1 : Ch F H H1) (h2 : Ch F' H1 H2) (hf : ∀ a ∈ F', a ∈ F ∨ H a = none) : Ch F H H2 := fun a o h c => by
  refine h2 a o (h1 a o h c) ?_
  rcases c with c | c
  · refine .inl fun m => ?_
    rcases hf a m with z | z
    · exact c z
    · rw [h] at z; cases z
  · exact .inr c
theorem Ch.upd1 (m : a ∈ F) (n : ∀ o, H a = some o → muT o = false) : Ch F H (upd H a x) := fun b o h c => by
  by_cases e : b = a
  · subst e
    rcases c with c | c
    · exact absurd m c
    · rw [n o h] at c; cases c
  · rw [upd_ne e]; exact h
theorem Ch.st (h : Ch F H H') (s : SqT K H c xs) : SqT K H' c xs := by
  rcases s with (s | ⟨u, s⟩) | s
  · exact .inl (.inl (h _ _ s (.inr rfl)))
  · exact .inl (.inr ⟨u, h _ _ s (.inr rfl)⟩)
  · exact .inr s
theorem Ch.sl (h : Ch F H H') (n : c ∉ F) (s : SqL K H c xs) : SqL K H' c xs := by
  rcases s with (s | ⟨u, s⟩) | s
  · exact .inl (.inl (h _ _ s (.inl n)))
  · exact .inl (.inr ⟨u, h _ _ s (.inl n)⟩)
  · exact .inr s
theorem Ch.at_ (h : Ch F H H') (n : a ∉ F) (e : H a = some o) : H' a = some o := h a o e (.inl n)
theorem Ch.mono (h : Ch F H H') (hs : ∀ a ∈ F, a ∈ F' ∨ H a = none) : Ch F' H H' := fun a o e c => h a o e (c.imp (fun c m => by
  rcases hs a m with z | z
  · exact c z
  · rw [e] at z; cases z) id)
theorem Ch.of_but (b : But F H H') (n : ∀ a ∈ F, ∀ o, H a = some o → muT o = false) : Ch F H H' := fun a o e c => by
  by_cases m : a ∈ F
  · rcases c with c | c
    · exact absurd m c
    · rw [n a m o e] at c; cases c
  · exact b a o m e
theorem Ch.of_oth (b : Oth p H H') (m : p ∈ F) (n : ∀ o, H p = some o → muT o = false) : Ch F H H' := fun a o e c => by
  by_cases z : a = p
  · subst z
    rcases c with c | c
    · exact absurd m c
    · rw [n o e] at c; cases c
  · exact b a o z e
end
theorem Ch.tabs {F : List Addr} {H H' : Hp} {TL : List (Addr × Str)} (h : Ch F H H') (t : LamX.Tabs TL H) : LamX.Tabs TL H' := fun p hp => by
  obtain ⟨ps, h1, h2, h3⟩ := t p hp
  refine ⟨ps, h _ _ h1 (.inr rfl), h2, fun pos cv hc => ?_⟩
  obtain ⟨c, e1, e2⟩ := h3 pos cv hc
  exact ⟨c, e1, h _ _ e2 (.inr rfl)⟩
theorem DiskAt.mut {C p : Addr} {H : Hp} {D : Dsk} (h : DiskAt C H p D) : ∀ a ∈ D.foot p, ∀ o, H a = some o → muT o = false := fun a m o e => by
  obtain ⟨dx, hob⟩ := h.ob
  unfold Dsk.foot at m
  rcases List.mem_cons.mp m with z | m
  · subst z; rw [hob] at e; cases e; rfl
  rcases List.mem_cons.mp m with z | m
  · subst z; rw [h.hl] at e; cases e; rfl
  rcases List.mem_cons.mp m with z | m
  · subst z; rw [h.hw] at e; cases e; rfl
  · obtain ⟨r, hr, z⟩ := List.mem_map.mp m
    subst z; rw [(h.hr r hr).1] at e; cases e; rfl
theorem DiskAt.there {C p : Addr} {H : Hp} {D : Dsk} (h : DiskAt C H p D) : ∀ a ∈ D.foot p, H a ≠ none := fun a m e => by
  obtain ⟨dx, hob⟩ := h.ob
  unfold Dsk.foot at m
  rcases List.mem_cons.mp m with z | m
  · subst z; rw [hob] at e; cases e
  rcases List.mem_cons.mp m with z | m
  · subst z; rw [h.hl] at e; cases e
  rcases List.mem_cons.mp m with z | m
  · subst z; rw [h.hw] at e; cases e
  · obtain ⟨r, hr, z⟩ := List.mem_map.mp m
    subst z; rw [(h.hr r hr).1] at e; cases e
/-! ### what a disk is, as data -/
abbrev Ct := List V
structure SD where
  lies : List Ct
  rows : Int → List Ct
  pw : Option Int
  rc : Int
def CtOk (xs : Ct) : Prop := xs.length ≤ 1000 ∧ (∀ x ∈ xs, smallV x = true) ∧ itemsB xs 0 40 = true
structure SD.Ok (S : SD) : Prop where
  ln : S.lies.length ≤ 600
  cl : ∀ xs ∈ S.lies, CtOk xs
  cr : ∀ b, ∀ xs ∈ S.rows b, CtOk xs
  out : ∀ b, S.rows b ≠ [] → 0 ≤ b ∧ b < S.lies.length
  pw : ∀ i, S.pw = some i → 0 ≤ i
/-- the tuples at some places -/
def TupsAt (K : PySem.W.Frag) (H : Hp) (cs : List Addr) (xss : List Ct) : Prop := cs.length = xss.length ∧ ∀ (i : Nat) c xs, cs[i]? = some c → xss[i]? = some xs → SqT K H c xs
section
variable {F : List Addr} {H H' : Hp} {cs : List Addr} {xss : List Ct} {c : Addr} {xs : Ct}
theorem TupsAt.ch (h : TupsAt K H cs xss) (s : Ch F H H') : TupsAt K H' cs xss := ⟨h.1, fun i c xs a b => s.st (h.2 i c xs a b)⟩
theorem TupsAt.nil : TupsAt K H [] [] := ⟨rfl, fun _ _ _ a _ => by cases a⟩
theorem TupsAt.snoc (h : TupsAt K H cs xss) (t : SqT K H c xs) : TupsAt K H (cs ++ [c]) (xss ++ [xs]) := by
  refine ⟨by rw [List.length_append, List.length_append, h.1]; rfl, fun i d ys a b => ?_⟩
  have l := h.1
  by_cases hi : i < cs.length
  · rw [List.getElem?_append_left hi] at a
    rw [List.getElem?_append_left (by omega)] at b
    exact h.2 i d ys a b
  · rw [List.getElem?_append_right (by omega)] at a
    rw [List.getElem?_append_right (by omega)] at b
    rw [l] at a
    cases e : i - xss.length with
    | zero =>
      rw [e] at a b
      cases a; cases b; exact t
    | succ n => rw [e] at a; cases a
theorem TupsAt.cons_inv (h : TupsAt K H cs (xs :: xss)) : ∃ d ds, cs = d :: ds ∧ SqT K H d xs ∧ TupsAt K H ds xss := by
  cases cs with
  | nil => have := h.1; cases this
  | cons d ds => exact ⟨d, ds, rfl, h.2 0 d xs rfl rfl, by have := h.1; simpa using this, fun i c ys a b => h.2 (i + 1) c ys a b⟩
theorem TupsAt.set (h : TupsAt K H cs xss) (i : Nat) (t : SqT K H c xs) : TupsAt K H (cs.set i c) (xss.set i xs) := by
  refine ⟨by rw [List.length_set, List.length_set, h.1], fun j d ys a b => ?_⟩
  rw [List.getElem?_set] at a b
  by_cases e : i = j
  · rw [if_pos e] at a b
    split at a
    · split at b
      · cases a; cases b; exact t
      · cases b
    · cases a
  · rw [if_neg e] at a b
    exact h.2 j d ys a b
theorem TupsAt.get (h : TupsAt K H cs xss) {i : Nat} (e : xss[i]? = some xs) : ∃ d, cs[i]? = some d ∧ SqT K H d xs := by
  have l : i < cs.length := by have := (List.getElem?_eq_some_iff.mp e).1; have := h.1; omega
  exact ⟨cs[i], List.getElem?_eq_getElem l, h.2 i _ _ (List.getElem?_eq_getElem l) e⟩
end
/-- a disk's rows tell S's -/
def RowsAt (K : PySem.W.Frag) (H : Hp) (rows : List (Int × Addr × List Addr)) (f : Int → List Ct) : Prop := ∀ b, match rows.find? fun r => decide (r.1 = b) with
  | none => f b = []
  | some r => TupsAt K H r.2.2 (f b)
structure Sees (K : PySem.W.Frag) (H : Hp) (D : Dsk) (S : SD) : Prop where
  ok : S.Ok
  lv : TupsAt K H D.lies S.lies
  rv : RowsAt K H D.rows S.rows
  pw : D.pw = S.pw
  rc : D.rc = S.rc
def DS (K : PySem.W.Frag) (C : Addr) (H : Hp) (p : Addr) (F : List Addr) (S : SD) : Prop := ∃ D, DiskAt C H p D ∧ F = D.foot p ∧ Sees K H D S
theorem RowsAt.ch {F : List Addr} {H H' : Hp} {rows : List (Int × Addr × List Addr)} {f : Int → List Ct} (h : RowsAt K H rows f) (s : Ch F H H') : RowsAt K H' rows f := fun b => by
  have hb := h b
  split at hb
  · exact hb
  · exact hb.ch s
theorem RowsAt.som {H : Hp} {rows : List (Int × Addr × List Addr)} {f : Int → List Ct} {b : Int} {r} (h : RowsAt K H rows f) (e : rows.find? (fun r => decide (r.1 = b)) = some r) : TupsAt K H r.2.2 (f b) := by
  have hb := h b
  rw [e] at hb; exact hb
theorem RowsAt.non {H : Hp} {rows : List (Int × Addr × List Addr)} {f : Int → List Ct} {b : Int} (h : RowsAt K H rows f) (e : rows.find? (fun r => decide (r.1 = b)) = none) : f b = [] := by
  have hb := h b
  rw [e] at hb; exact hb
theorem RowsAt.there {H : Hp} {rows : List (Int × Addr × List Addr)} {f : Int → List Ct} {b : Int} (h : RowsAt K H rows f) (n : f b ≠ []) : ∃ r, rows.find? (fun r => decide (r.1 = b)) = some r ∧ r ∈ rows ∧ r.1 = b ∧ TupsAt K H r.2.2 (f b) := by
  cases e : rows.find? (fun r => decide (r.1 = b)) with
  | none => exact absurd (h.non e) n
  | some r => exact ⟨r, rfl, List.mem_of_find?_eq_some e, of_decide_eq_true (List.find?_some (p := fun r : Int × Addr × List Addr => decide (r.1 = b)) e), h.som e⟩
theorem Sees.ch {F : List Addr} {H H' : Hp} {D : Dsk} {S : SD} (h : Sees K H D S) (s : Ch F H H') : Sees K H' D S := ⟨h.ok, h.lv.ch s, h.rv.ch s, h.pw, h.rc⟩
/-- a change elsewhere -/
theorem DiskAt.ch {C p : Addr} {F : List Addr} {H H' : Hp} {D : Dsk} (h : DiskAt C H p D) (s : Ch F H H') (n : ∀ a ∈ D.foot p, a ∉ F) : DiskAt C H' p D := by
  obtain ⟨dx, hob⟩ := h.ob
  refine ⟨⟨dx, s.at_ (n p (by unfold Dsk.foot; simp)) hob⟩, s.at_ (n _ (by unfold Dsk.foot; simp)) h.hl, s.at_ (n _ (by unfold Dsk.foot; simp)) h.hw, fun r hr => ⟨s.at_ (n _ ?_) (h.hr r hr).1, (h.hr r hr).2⟩, h.nd, h.kd, h.lr, h.few, h.kb⟩
  unfold Dsk.foot
  exact List.mem_cons_of_mem _ (List.mem_cons_of_mem _ (List.mem_cons_of_mem _ (List.mem_map.mpr ⟨r, hr, rfl⟩)))
theorem DS.ch {C p : Addr} {F G : List Addr} {H H' : Hp} {S : SD} (h : DS K C H p F S) (s : Ch G H H') (n : ∀ a ∈ F, a ∉ G) : DS K C H' p F S := by
  obtain ⟨D, h1, rfl, h2⟩ := h
  exact ⟨D, h1.ch s n, rfl, h2.ch s⟩
theorem DS.same {C p : Addr} {F : List Addr} {H H' : Hp} {S : SD} (h : DS K C H p F S) (s : Same H H') : DS K C H' p F S := h.ch (G := []) (Ch.of_same s) (by simp)
theorem DS.there {C p : Addr} {F : List Addr} {H : Hp} {S : SD} (h : DS K C H p F S) : ∀ a ∈ F, H a ≠ none := by
  obtain ⟨D, h1, rfl, h2⟩ := h
  exact h1.there
end
end Vw

set_option Elab.async false
set_option linter.all false
set_option maxRecDepth 100000
set_option maxHeartbeats 4000000
namespace Vw
open PySem PySem.Spec PyProof.Rows L2 RT
local macro_rules | `(tactic| walk_at "s") => `(tactic| with_reducible first
  | refine' s_seq ?_ | refine' s_next ?_ | refine' s_set ?_ | refine' s_ret ?_ | refine' s_retN ?_ | refine' s_drop ?_ | refine' s_if ?_ | refine' s_ipI ?_
  | refine' e_c ?_ | refine' e_op ?_ | refine' e_un ?_ | refine' e_neg ?_ | refine' e_test ?_ | refine' e_tB ?_ | refine' e_bl ?_ | refine' e_and ?_ | refine' e_or ?_ | refine' e_not ?_
  | refine' e_andV ?_ | refine' e_orV ?_ | refine' e_notV ?_ | refine' e_kV ?_ | refine' e_ife ?_ | refine' e_nil ?_ | refine' e_cons ?_ | refine' e_cb ?_ | refine' e_call ?_ | refine' e_chain ?_
  | refine' o_addI ?_ | refine' o_eqI ?_ | refine' o_neI ?_ | refine' o_I0 ?_ | refine' o_pow16 ?_ | refine' o_pow17 ?_ | refine' o_pow18 ?_ | refine' o_pow19 ?_ | refine' o_pow30 ?_ | refine' o_pow31 ?_ | refine' o_pow1 ?_ | refine' o_pow2 ?_ | refine' o_pow3 ?_ | refine' o_pow4 ?_ | refine' o_pow5 ?_ | refine' o_pow6 ?_ | refine' o_pow9 ?_ | refine' o_pow10 ?_ | refine' o_pow12 ?_ | refine' o_pow15 ?_ | refine' o_pow20 ?_ | refine' e_lst ?_ | refine' e_tup ?_ | refine' iteT ?_ | refine' i_nt ?_ | refine' i_nf ?_ | refine' iteF ?_ | refine' c_int ?_ | refine' c_abs ?_ | refine' c_min2 ?_ | refine' c_max2 ?_ | refine' e_tru ?_ | refine' t_bl ?_ | refine' t_non ?_ | refine' t_int ?_ | refine' isN_non ?_ | refine' isN_int ?_ | refine' isN_ref ?_ | refine' isN_str ?_ | refine' isN_bl ?_ | refine' noN_non ?_ | refine' noN_int ?_ | refine' noN_ref ?_ | refine' noN_str ?_ | refine' noN_bl ?_
  | refine' s_brk ?_ | refine' s_cont ?_ | refine' s_for ?_ | refine' e_lc ?_ | refine' e_dc ?_ | refine' e_yes ?_ | refine' i_rng1 ?_ | refine' i_lst0 ?_ | refine' i_tup0 ?_ | refine' e_bm ?_ | refine' e_sl ?_ | refine' e_np ?_ | refine' e_pt ?_ | refine' e_ptI ?_ | refine' e_din ?_ | refine' e_dnin ?_ | refine' e_methE ?_ | refine' p_cons ?_ | refine' p_nil ?_ | refine' s_dput ?_ | refine' e_dget2 ?_ | refine' e_dpop1 ?_ | refine' i_enum0 ?_ | refine' i_rev0 ?_ | refine' g_sub ?_ | refine' s_asg ?_ | refine' i_zip0 ?_ | refine' e_revT ?_ | refine' isB_bl ?_ | refine' notB_bl ?_ | refine' o_neB ?_ | refine' i_nrr ?_ | refine' e_meth ?_ | refine' s_setf ?_ | refine' e_fld ?_ | refine' e_bm0 ?_ | refine' r_tx ?_ | refine' o_eqStr ?_ | refine' o_neStr ?_)
local macro_rules | `(tactic| walk_at "v") => `(tactic| ((with_reducible refine' e_var ?hv ?_); (case hv => exact rfl)))
local macro_rules | `(tactic| walk_at "a") => `(tactic| ((with_reducible refine' s_aug ?hv ?_); (case hv => exact rfl)))
local macro_rules | `(tactic| walk_at "m") => `(tactic| first
  | ((with_reducible refine' o_mod ?hv ?_); (case hv => first | decide | omega))
  | ((with_reducible refine' o_mulR ?hv ?_); (case hv => omega))
  | ((with_reducible refine' o_mulL ?hv ?_); (case hv => omega))
  | ((with_reducible refine' o_div ?hv ?hw ?_); (case hv => omega); (case hw => omega))
  | ((with_reducible refine' o_pow _ ?hv ?hw ?hx ?_); (case hv => exact rfl); (case hw => decide); (case hx => decide)))
local macro_rules | `(tactic| walk_at "i") => `(tactic| (first
  | ((with_reducible refine' isi_int true ?hv ?_); (case hv => exact (by decide +kernel)))
  | ((with_reducible refine' isi_int false ?hv ?_); (case hv => exact (by decide +kernel)))
  | ((with_reducible refine' isi_non true ?hv ?_); (case hv => exact (by decide +kernel)))
  | ((with_reducible refine' isi_non false ?hv ?_); (case hv => exact (by decide +kernel)))
  | ((with_reducible refine' isi_str true ?hv ?_); (case hv => exact (by decide +kernel)))
  | ((with_reducible refine' isi_str false ?hv ?_); (case hv => exact (by decide +kernel)))
  | ((with_reducible refine' isi_bl true ?hv ?_); (case hv => exact (by decide +kernel)))
  | ((with_reducible refine' isi_bl false ?hv ?_); (case hv => exact (by decide +kernel)))
  | ((with_reducible refine' isi_t true ?hw ?hv ?_); (case hw => assumption); (case hv => exact (by decide +kernel)))
  | ((with_reducible refine' isi_t false ?hw ?hv ?_); (case hw => assumption); (case hv => exact (by decide +kernel)))
  | ((with_reducible refine' isi_l true ?hw ?hv ?_); (case hw => assumption); (case hv => exact (by decide +kernel)))
  | ((with_reducible refine' isi_l false ?hw ?hv ?_); (case hw => assumption); (case hv => exact (by decide +kernel)))
  | ((with_reducible refine' isi_tup true ?hw ?hv ?_); (case hw => assumption); (case hv => exact (by decide +kernel)))
  | ((with_reducible refine' isi_tup false ?hw ?hv ?_); (case hw => assumption); (case hv => exact (by decide +kernel)))
  | ((with_reducible refine' isi_lst true ?hw ?hv ?_); (case hw => assumption); (case hv => exact (by decide +kernel)))
  | ((with_reducible refine' isi_lst false ?hw ?hv ?_); (case hw => assumption); (case hv => exact (by decide +kernel)))))
local macro_rules | `(tactic| walk_at "om") => `(tactic| first | omega | (simp only [List.length_cons, List.length_nil, List.length_map, List.length_append, List.length_range]; omega))
local macro_rules | `(tactic| walk_at "d") => `(tactic| (first
  | ((with_reducible refine' i_dt ?hv ?_); (case hv => walk_at "om"))
  | ((with_reducible refine' i_df ?hv ?_); (case hv => walk_at "om"))
  | ((with_reducible refine' i_ndt ?hv ?_); (case hv => walk_at "om"))
  | ((with_reducible refine' i_ndf ?hv ?_); (case hv => walk_at "om"))))
local macro_rules | `(tactic| walk_at "x") => `(tactic| first
  | ((with_reducible refine' o_ixA ?hv ?hw ?_); (case hv => assumption); (case hw => exact rfl))
  | ((with_reducible refine' o_ixU ?hv ?hw ?_); (case hv => assumption); (case hw => exact rfl))
  | ((with_reducible refine' o_ixL ?hv ?hw ?_); (case hv => assumption); (case hw => exact rfl))
  | ((with_reducible refine' o_ixT ?hv ?hw ?_); (case hv => assumption); (case hw => exact rfl))
  | ((with_reducible refine' set_ ?hv ?hw ?_); (case hv => assumption); (case hw => exact rfl))
  | ((with_reducible refine' e_lenM ?hv ?_); (case hv => first | assumption | exact slO (by assumption)))
  | ((with_reducible refine' e_lenN ?hv ?_); (case hv => first | assumption | exact stO (by assumption)))
  | ((with_reducible refine' e_lenL ?hv ?_); (case hv => first | assumption | exact slO (by assumption)))
  | ((with_reducible refine' e_lenT ?hv ?_); (case hv => first | assumption | exact stO (by assumption))))
local macro_rules | `(tactic| walk_at "c") => `(tactic| first
  | ((with_reducible refine' c_listL ?hv ?_); (case hv => assumption))
  | ((with_reducible refine' c_listT ?hv ?_); (case hv => assumption))
  | ((with_reducible refine' c_tupL ?hv ?_); (case hv => first | assumption | exact slO (by assumption)))
  | ((with_reducible refine' c_tupT ?hv ?_); (case hv => assumption))
  | ((with_reducible refine' t_lst ?hv ?_); (case hv => first | assumption | exact slO (by assumption)))
  | ((with_reducible refine' t_tup ?hv ?_); (case hv => assumption))
  | ((with_reducible refine' r_sl ?hv ?_); (case hv => first | assumption | exact slO (by assumption)))
  | ((with_reducible refine' o_inL ?hv ?_); (case hv => first | assumption | exact slO (by assumption)))
  | ((with_reducible refine' o_inT ?hv ?_); (case hv => first | assumption | exact stO (by assumption)))
  | ((with_reducible refine' o_niL ?hv ?_); (case hv => first | assumption | exact slO (by assumption)))
  | ((with_reducible refine' o_niT ?hv ?_); (case hv => first | assumption | exact stO (by assumption)))
  | ((with_reducible refine' ty_lst ?hv ?_); (case hv => assumption)))
local macro_rules | `(tactic| walk_at "mo") => `(tactic| repeat' (first | exact m_yes | exact m_var | exact m_c | exact m_I0 | exact m_I | exact m_ix | exact m_add | exact m_in | exact m_int1 | exact m_abs | exact m_nil | refine' m_and ?_ ?_ | refine' m_test ?_ | refine' m_tB ?_ | refine' m_op ?_ ?_ ?_ | refine' m_cons ?_ ?_ | refine' m_cb ?_ ?_))
local macro_rules | `(tactic| walk_at "go") => `(tactic| repeat' (first | walk_at "s" | walk_at "v" | walk_at "a" | walk_at "x" | walk_at "m" | walk_at "c" | walk_at "i" | walk_at "d"))

section
variable {P : Program} {w : World} {K : PySem.W.Frag} {mg : Str → Option Value} {base : Heap}
def SD.got (S : SD) (b : Int) (c : Ct) (cs : List Ct) : SD := ⟨S.lies.set b.toNat c, fun x => if x = b then cs else S.rows x, S.pw.map (· - 1), S.rc + 1⟩
theorem SD.got_ok {S : SD} {b : Int} {c : Ct} {cs : List Ct} (h : S.Ok) (e : S.rows b = c :: cs) (np : S.pw ≠ some 0) : (S.got b c cs).Ok := by
  refine ⟨by show (S.lies.set _ _).length ≤ 600; rw [List.length_set]; exact h.ln, fun xs hx => ?_, fun x xs hx => ?_, fun x hx => ?_, fun i hi => ?_⟩
  · rcases List.mem_or_eq_of_mem_set hx with z | z
    · exact h.cl xs z
    · subst z; exact h.cr b _ (by rw [e]; simp)
  · have hx : xs ∈ (if x = b then cs else S.rows x) := hx
    split at hx
    · exact h.cr b _ (by rw [e]; exact List.mem_cons_of_mem _ hx)
    · exact h.cr x _ hx
  · show 0 ≤ x ∧ x < (S.lies.set _ _).length
    rw [List.length_set]
    have hx : (if x = b then cs else S.rows x) ≠ [] := hx
    split at hx
    · next z => rw [z]; exact h.out b (by rw [e]; simp)
    · exact h.out x hx
  · have hi : S.pw.map (· - 1) = some i := hi
    cases q : S.pw with
    | none => rw [q] at hi; cases hi
    | some j =>
      rw [q] at hi
      have := h.pw j q
      have e2 : j - 1 = i := Option.some.inj hi
      have : j ≠ 0 := fun z => np (by rw [q, z])
      omega
/-- the rows behind a write that reached -/
def gotRows (rows : List (Int × Addr × List Addr)) (b : Int) (as : List Addr) : List (Int × Addr × List Addr) := if as = [] then rows.filter (fun q => decide (q.1 ≠ b)) else rows.map fun q => if q.1 = b then (q.1, q.2.1, as) else q
theorem gotRows_find {rows : List (Int × Addr × List Addr)} {b : Int} {as : List Addr} {x : Int} : (gotRows rows b as).find? (fun q => decide (q.1 = x)) =
    if x = b then (if as = [] then none else (rows.find? fun q => decide (q.1 = b)).map fun q => (q.1, q.2.1, as)) else rows.find? fun q => decide (q.1 = x) := by
  unfold gotRows
  by_cases ha : as = []
  · rw [if_pos ha, if_pos ha, List.find?_filter]
    by_cases hx : x = b
    · rw [if_pos hx, List.find?_eq_none]
      intro q _ z
      simp only [decide_not, Bool.and_eq_true, Bool.not_eq_true', decide_eq_false_iff_not, decide_eq_true_eq] at z
      exact z.1 (by rw [z.2, hx])
    · rw [if_neg hx]
      congr 1
      funext q
      by_cases z : q.1 = x
      · have : q.1 ≠ b := fun y => hx (by rw [← z, y])
        simp [z, this, hx]
      · simp [z]
  · rw [if_neg ha, if_neg ha, List.find?_map]
    have e : ((fun q : Int × Addr × List Addr => decide (q.1 = x)) ∘ fun q => if q.1 = b then (q.1, q.2.1, as) else q) = fun q => decide (q.1 = x) := by
      funext q
      show decide ((if q.1 = b then (q.1, q.2.1, as) else q).1 = x) = decide (q.1 = x)
      split <;> rfl
    rw [e]
    by_cases hx : x = b
    · rw [if_pos hx, hx]
      cases q : rows.find? fun q => decide (q.1 = b) with
      | none => rfl
      | some r =>
        have : r.1 = b := of_decide_eq_true (List.find?_some (p := fun r : Int × Addr × List Addr => decide (r.1 = b)) q)
        show some (if r.1 = b then (r.1, r.2.1, as) else r) = some (r.1, r.2.1, as)
        rw [if_pos this]
    · rw [if_neg hx]
      cases q : rows.find? fun q => decide (q.1 = x) with
      | none => rfl
      | some r =>
        have : r.1 = x := of_decide_eq_true (List.find?_some (p := fun r : Int × Addr × List Addr => decide (r.1 = x)) q)
        show some (if r.1 = b then (r.1, r.2.1, as) else r) = some r
        rw [if_neg (by rw [this]; exact hx)]
theorem gotRows_sub {rows : List (Int × Addr × List Addr)} {b : Int} {as : List Addr} {q} (h : q ∈ gotRows rows b as) : ∃ q0 ∈ rows, q0.1 = q.1 ∧ q0.2.1 = q.2.1 ∧ ((q0.1 ≠ b ∧ q = q0) ∨ (q0.1 = b ∧ as ≠ [] ∧ q.2.2 = as)) := by
  unfold gotRows at h
  split at h
  · obtain ⟨h1, h2⟩ := List.mem_filter.mp h
    exact ⟨q, h1, rfl, rfl, .inl ⟨of_decide_eq_true h2, rfl⟩⟩
  · next ha =>
    obtain ⟨q0, h1, h2⟩ := List.mem_map.mp h
    by_cases z : q0.1 = b
    · rw [if_pos z] at h2
      subst h2
      exact ⟨q0, h1, rfl, rfl, .inr ⟨z, ha, rfl⟩⟩
    · rw [if_neg z] at h2
      subst h2
      exact ⟨q0, h1, rfl, rfl, .inl ⟨z, rfl⟩⟩
theorem sub_nodup {α β : Type} [DecidableEq β] {f : α → β} {l : List α} (p : α → Bool) (h : (l.map f).Nodup) : ((l.filter p).map f).Nodup := h.sublist (List.Sublist.map f List.filter_sublist)
theorem gotRows_m1 {rows : List (Int × Addr × List Addr)} {b : Int} {as : List Addr} (h : (rows.map (·.1)).Nodup) : ((gotRows rows b as).map (·.1)).Nodup := by
  unfold gotRows
  split
  · exact sub_nodup _ h
  · rw [List.map_map]
    have e : ((fun q : Int × Addr × List Addr => q.1) ∘ fun q => if q.1 = b then (q.1, q.2.1, as) else q) = (·.1) := by
      funext q
      show (if q.1 = b then (q.1, q.2.1, as) else q).1 = q.1
      split <;> rfl
    rw [e]; exact h
theorem gotRows_m2 {rows : List (Int × Addr × List Addr)} {b : Int} {as : List Addr} (h : (rows.map (·.2.1)).Nodup) : ((gotRows rows b as).map (·.2.1)).Nodup := by
  unfold gotRows
  split
  · exact sub_nodup _ h
  · rw [List.map_map]
    have e : ((fun q : Int × Addr × List Addr => q.2.1) ∘ fun q => if q.1 = b then (q.1, q.2.1, as) else q) = (·.2.1) := by
      funext q
      show (if q.1 = b then (q.1, q.2.1, as) else q).2.1 = q.2.1
      split <;> rfl
    rw [e]; exact h
abbrev kvs_of (rows : List (Int × Addr × List Addr)) : List (Key × V) := rows.map fun r => ((Sum.inl r.1 : Key), V.ref r.2.1)
theorem gotRows_kvs {rows : List (Int × Addr × List Addr)} {b : Int} {as : List Addr} : kvs_of (gotRows rows b as) = if as = [] then dropK (kvs_of rows) (Sum.inl b) else kvs_of rows := by
  unfold gotRows kvs_of dropK
  split
  · rw [List.filter_map]
    congr 1
    congr 1
    funext q
    show decide (q.1 ≠ b) = decide ((Sum.inl q.1 : Key) ≠ Sum.inl b)
    by_cases h : q.1 = b
    · simp [h]
    · simp [h]
  · rw [List.map_map]
    congr 1
    funext q
    show ((Sum.inl (if q.1 = b then (q.1, q.2.1, as) else q).1 : Key), V.ref (if q.1 = b then (q.1, q.2.1, as) else q).2.1) = _
    split <;> rfl
theorem got_core {C p : Addr} {H H4 : Hp} {D : Dsk} {S : SD} {b : Int} {c : Ct} {cs : List Ct} {r : Int × Addr × List Addr} {a : Addr} {as : List Addr} (h : DiskAt C H p D) (v : Sees K H D S) (e : S.rows b = c :: cs) (np : S.pw ≠ some 0)
    (hm : r ∈ D.rows) (hk : r.1 = b) (ef : D.rows.find? (fun r => decide (r.1 = b)) = some r) (er : r.2.2 = a :: as) (ha : SqT K H a c) (has : TupsAt K H as cs)
    (ob : InsAt C H4 p (df D.l D.w (pwV (D.pw.map (· - 1))) (D.rc + 1))) (hl : H4 D.l = some (.lst ((D.lies.set b.toNat a).map V.ref))) (hw : H4 D.w = some (.dK (kvs_of (gotRows D.rows b as)))) (hra : H4 r.2.1 = some (.lst (as.map V.ref)))
    (oth : ∀ x o, x ≠ p → x ≠ D.l → x ≠ D.w → x ≠ r.2.1 → H x = some o → H4 x = some o) :
    DS K C H4 p (({ D with lies := D.lies.set b.toNat a, rows := gotRows D.rows b as, pw := D.pw.map (· - 1), rc := D.rc + 1 } : Dsk).foot p) (S.got b c cs) ∧ Ch (D.foot p) H H4 ∧ ∀ x ∈ ({ D with lies := D.lies.set b.toNat a, rows := gotRows D.rows b as, pw := D.pw.map (· - 1), rc := D.rc + 1 } : Dsk).foot p, x ∈ D.foot p := by
  have fr : r.2.1 ∈ D.foot p := by
    unfold Dsk.foot
    exact List.mem_cons_of_mem _ (List.mem_cons_of_mem _ (List.mem_cons_of_mem _ (List.mem_map.mpr ⟨r, hm, rfl⟩)))
  have ch : Ch (D.foot p) H H4 := fun x o hx q => by
    have n : x ∉ D.foot p := fun m => by
      rcases q with q | q
      · exact q m
      · rw [h.mut x m o hx] at q; cases q
    exact oth x o (fun z => n (by rw [z]; unfold Dsk.foot; simp)) (fun z => n (by rw [z]; unfold Dsk.foot; simp)) (fun z => n (by rw [z]; unfold Dsk.foot; simp)) (fun z => n (by rw [z]; exact fr)) hx
  refine ⟨⟨_, ⟨ob, hl, hw, fun q hq => ?_, gotRows_m2 h.nd, gotRows_m1 h.kd, fun z => ?_, ?_, fun q hq => ?_⟩, rfl, ⟨SD.got_ok v.ok e np, (v.lv.ch ch).set _ (ch.st ha), fun x => ?_, ?_, ?_⟩⟩, ch, fun x hx => ?_⟩
  · obtain ⟨q0, h0, e1, e2, z⟩ := gotRows_sub hq
    rcases z with ⟨z, rfl⟩ | ⟨z, n, e3⟩
    · refine ⟨oth _ _ ?_ ?_ ?_ ?_ (h.hr q h0).1, (h.hr q h0).2⟩
      · intro y; obtain ⟨dx, hob⟩ := h.ob; have := (h.hr q h0).1; rw [y, hob] at this; cases this
      · intro y; exact h.lr (y ▸ List.mem_map.mpr ⟨q, h0, rfl⟩)
      · intro y; have := (h.hr q h0).1; rw [y, h.hw] at this; cases this
      · intro y; have := adr_uniq h.nd q h0 r hm y; rw [this] at z; exact z hk
    · have : q0 = r := row_uniq h.kd q0 h0 r hm (by rw [z, hk])
      subst this
      rw [← e2, e3]; exact ⟨hra, n⟩
  · obtain ⟨q, hq, y⟩ := List.mem_map.mp z
    obtain ⟨q0, h0, e1, e2, _⟩ := gotRows_sub hq
    exact h.lr (List.mem_map.mpr ⟨q0, h0, by rw [e2, y]⟩)
  · show (D.lies.set _ _).length ≤ 600
    rw [List.length_set]; exact h.few
  · obtain ⟨q0, h0, e1, e2, _⟩ := gotRows_sub hq
    show 0 ≤ q.1 ∧ q.1 < ((D.lies.set _ _).length : Nat)
    rw [← e1, List.length_set]; exact h.kb q0 h0
  · have hx := v.rv x
    show match (gotRows D.rows b as).find? fun q => decide (q.1 = x) with
      | none => (if x = b then cs else S.rows x) = []
      | some r => TupsAt K H4 r.2.2 (if x = b then cs else S.rows x)
    rw [gotRows_find]
    by_cases hxb : x = b
    · rw [if_pos hxb, if_pos hxb]
      by_cases hna : as = []
      · rw [if_pos hna]
        have := has.1
        rw [hna] at this
        exact List.length_eq_zero_iff.mp this.symm
      · rw [if_neg hna, ef]
        exact has.ch ch
    · rw [if_neg hxb, if_neg hxb]
      exact (v.rv.ch ch) x
  · show D.pw.map _ = S.pw.map _
    rw [v.pw]
  · show D.rc + 1 = S.rc + 1
    rw [v.rc]
  · unfold Dsk.foot at hx ⊢
    simp only [List.mem_cons] at hx ⊢
    rcases hx with z | z | z | z
    · exact .inl z
    · exact .inr (.inl z)
    · exact .inr (.inr (.inl z))
    · obtain ⟨q, hq, y⟩ := List.mem_map.mp z
      obtain ⟨q0, h0, e1, e2, _⟩ := gotRows_sub hq
      exact .inr (.inr (.inr (List.mem_map.mpr ⟨q0, h0, by rw [e2, y]⟩)))
end
end Vw

set_option Elab.async false
set_option linter.all false
set_option maxRecDepth 100000
set_option maxHeartbeats 4000000
namespace Vw
open PySem PySem.Spec PyProof.Rows L2 RT
local macro_rules | `(tactic| walk_at "s") => `(tactic| with_reducible first
  | refine' s_seq ?_ | refine' s_next ?_ | refine' s_set ?_ | refine' s_ret ?_ | refine' s_retN ?_ | refine' s_drop ?_ | refine' s_if ?_ | refine' s_ipI ?_
  | refine' e_c ?_ | refine' e_op ?_ | refine' e_un ?_ | refine' e_neg ?_ | refine' e_test ?_ | refine' e_tB ?_ | refine' e_bl ?_ | refine' e_and ?_ | refine' e_or ?_ | refine' e_not ?_
  | refine' e_andV ?_ | refine' e_orV ?_ | refine' e_notV ?_ | refine' e_kV ?_ | refine' e_ife ?_ | refine' e_nil ?_ | refine' e_cons ?_ | refine' e_cb ?_ | refine' e_call ?_ | refine' e_chain ?_
  | refine' o_addI ?_ | refine' o_eqI ?_ | refine' o_neI ?_ | refine' o_I0 ?_ | refine' o_pow16 ?_ | refine' o_pow17 ?_ | refine' o_pow18 ?_ | refine' o_pow19 ?_ | refine' o_pow30 ?_ | refine' o_pow31 ?_ | refine' o_pow1 ?_ | refine' o_pow2 ?_ | refine' o_pow3 ?_ | refine' o_pow4 ?_ | refine' o_pow5 ?_ | refine' o_pow6 ?_ | refine' o_pow9 ?_ | refine' o_pow10 ?_ | refine' o_pow12 ?_ | refine' o_pow15 ?_ | refine' o_pow20 ?_ | refine' e_lst ?_ | refine' e_tup ?_ | refine' iteT ?_ | refine' i_nt ?_ | refine' i_nf ?_ | refine' iteF ?_ | refine' c_int ?_ | refine' c_abs ?_ | refine' c_min2 ?_ | refine' c_max2 ?_ | refine' e_tru ?_ | refine' t_bl ?_ | refine' t_non ?_ | refine' t_int ?_ | refine' isN_non ?_ | refine' isN_int ?_ | refine' isN_ref ?_ | refine' isN_str ?_ | refine' isN_bl ?_ | refine' noN_non ?_ | refine' noN_int ?_ | refine' noN_ref ?_ | refine' noN_str ?_ | refine' noN_bl ?_
  | refine' s_brk ?_ | refine' s_cont ?_ | refine' s_for ?_ | refine' e_lc ?_ | refine' e_dc ?_ | refine' e_yes ?_ | refine' i_rng1 ?_ | refine' i_lst0 ?_ | refine' i_tup0 ?_ | refine' e_bm ?_ | refine' e_sl ?_ | refine' e_np ?_ | refine' e_pt ?_ | refine' e_ptI ?_ | refine' e_din ?_ | refine' e_dnin ?_ | refine' e_methE ?_ | refine' p_cons ?_ | refine' p_nil ?_ | refine' s_dput ?_ | refine' e_dget2 ?_ | refine' e_dpop1 ?_ | refine' i_enum0 ?_ | refine' i_rev0 ?_ | refine' g_sub ?_ | refine' s_asg ?_ | refine' i_zip0 ?_ | refine' e_revT ?_ | refine' isB_bl ?_ | refine' notB_bl ?_ | refine' o_neB ?_ | refine' i_nrr ?_ | refine' e_meth ?_ | refine' s_setf ?_ | refine' e_fld ?_ | refine' e_bm0 ?_ | refine' r_tx ?_ | refine' o_eqStr ?_ | refine' o_neStr ?_)
local macro_rules | `(tactic| walk_at "v") => `(tactic| ((with_reducible refine' e_var ?hv ?_); (case hv => exact rfl)))
local macro_rules | `(tactic| walk_at "a") => `(tactic| ((with_reducible refine' s_aug ?hv ?_); (case hv => exact rfl)))
local macro_rules | `(tactic| walk_at "m") => `(tactic| first
  | ((with_reducible refine' o_mod ?hv ?_); (case hv => first | decide | omega))
  | ((with_reducible refine' o_mulR ?hv ?_); (case hv => omega))
  | ((with_reducible refine' o_mulL ?hv ?_); (case hv => omega))
  | ((with_reducible refine' o_div ?hv ?hw ?_); (case hv => omega); (case hw => omega))
  | ((with_reducible refine' o_pow _ ?hv ?hw ?hx ?_); (case hv => exact rfl); (case hw => decide); (case hx => decide)))
local macro_rules | `(tactic| walk_at "i") => `(tactic| (first
  | ((with_reducible refine' isi_int true ?hv ?_); (case hv => exact (by decide +kernel)))
  | ((with_reducible refine' isi_int false ?hv ?_); (case hv => exact (by decide +kernel)))
  | ((with_reducible refine' isi_non true ?hv ?_); (case hv => exact (by decide +kernel)))
  | ((with_reducible refine' isi_non false ?hv ?_); (case hv => exact (by decide +kernel)))
  | ((with_reducible refine' isi_str true ?hv ?_); (case hv => exact (by decide +kernel)))
  | ((with_reducible refine' isi_str false ?hv ?_); (case hv => exact (by decide +kernel)))
  | ((with_reducible refine' isi_bl true ?hv ?_); (case hv => exact (by decide +kernel)))
  | ((with_reducible refine' isi_bl false ?hv ?_); (case hv => exact (by decide +kernel)))
  | ((with_reducible refine' isi_t true ?hw ?hv ?_); (case hw => assumption); (case hv => exact (by decide +kernel)))
  | ((with_reducible refine' isi_t false ?hw ?hv ?_); (case hw => assumption); (case hv => exact (by decide +kernel)))
  | ((with_reducible refine' isi_l true ?hw ?hv ?_); (case hw => assumption); (case hv => exact (by decide +kernel)))
  | ((with_reducible refine' isi_l false ?hw ?hv ?_); (case hw => assumption); (case hv => exact (by decide +kernel)))
  | ((with_reducible refine' isi_tup true ?hw ?hv ?_); (case hw => assumption); (case hv => exact (by decide +kernel)))
  | ((with_reducible refine' isi_tup false ?hw ?hv ?_); (case hw => assumption); (case hv => exact (by decide +kernel)))
  | ((with_reducible refine' isi_lst true ?hw ?hv ?_); (case hw => assumption); (case hv => exact (by decide +kernel)))
  | ((with_reducible refine' isi_lst false ?hw ?hv ?_); (case hw => assumption); (case hv => exact (by decide +kernel)))))
local macro_rules | `(tactic| walk_at "om") => `(tactic| first | omega | (simp only [List.length_cons, List.length_nil, List.length_map, List.length_append, List.length_range]; omega))
local macro_rules | `(tactic| walk_at "d") => `(tactic| (first
  | ((with_reducible refine' i_dt ?hv ?_); (case hv => walk_at "om"))
  | ((with_reducible refine' i_df ?hv ?_); (case hv => walk_at "om"))
  | ((with_reducible refine' i_ndt ?hv ?_); (case hv => walk_at "om"))
  | ((with_reducible refine' i_ndf ?hv ?_); (case hv => walk_at "om"))))
local macro_rules | `(tactic| walk_at "x") => `(tactic| first
  | ((with_reducible refine' o_ixA ?hv ?hw ?_); (case hv => assumption); (case hw => exact rfl))
  | ((with_reducible refine' o_ixU ?hv ?hw ?_); (case hv => assumption); (case hw => exact rfl))
  | ((with_reducible refine' o_ixL ?hv ?hw ?_); (case hv => assumption); (case hw => exact rfl))
  | ((with_reducible refine' o_ixT ?hv ?hw ?_); (case hv => assumption); (case hw => exact rfl))
  | ((with_reducible refine' set_ ?hv ?hw ?_); (case hv => assumption); (case hw => exact rfl))
  | ((with_reducible refine' e_lenM ?hv ?_); (case hv => first | assumption | exact slO (by assumption)))
  | ((with_reducible refine' e_lenN ?hv ?_); (case hv => first | assumption | exact stO (by assumption)))
  | ((with_reducible refine' e_lenL ?hv ?_); (case hv => first | assumption | exact slO (by assumption)))
  | ((with_reducible refine' e_lenT ?hv ?_); (case hv => first | assumption | exact stO (by assumption))))
local macro_rules | `(tactic| walk_at "c") => `(tactic| first
  | ((with_reducible refine' c_listL ?hv ?_); (case hv => assumption))
  | ((with_reducible refine' c_listT ?hv ?_); (case hv => assumption))
  | ((with_reducible refine' c_tupL ?hv ?_); (case hv => first | assumption | exact slO (by assumption)))
  | ((with_reducible refine' c_tupT ?hv ?_); (case hv => assumption))
  | ((with_reducible refine' t_lst ?hv ?_); (case hv => first | assumption | exact slO (by assumption)))
  | ((with_reducible refine' t_tup ?hv ?_); (case hv => assumption))
  | ((with_reducible refine' r_sl ?hv ?_); (case hv => first | assumption | exact slO (by assumption)))
  | ((with_reducible refine' o_inL ?hv ?_); (case hv => first | assumption | exact slO (by assumption)))
  | ((with_reducible refine' o_inT ?hv ?_); (case hv => first | assumption | exact stO (by assumption)))
  | ((with_reducible refine' o_niL ?hv ?_); (case hv => first | assumption | exact slO (by assumption)))
  | ((with_reducible refine' o_niT ?hv ?_); (case hv => first | assumption | exact stO (by assumption)))
  | ((with_reducible refine' ty_lst ?hv ?_); (case hv => assumption)))
local macro_rules | `(tactic| walk_at "mo") => `(tactic| repeat' (first | exact m_yes | exact m_var | exact m_c | exact m_I0 | exact m_I | exact m_ix | exact m_add | exact m_in | exact m_int1 | exact m_abs | exact m_nil | refine' m_and ?_ ?_ | refine' m_test ?_ | refine' m_tB ?_ | refine' m_op ?_ ?_ ?_ | refine' m_cons ?_ ?_ | refine' m_cb ?_ ?_))
local macro_rules | `(tactic| walk_at "go") => `(tactic| repeat' (first | walk_at "s" | walk_at "v" | walk_at "a" | walk_at "x" | walk_at "m" | walk_at "c" | walk_at "i" | walk_at "d"))

section
variable {P : Program} {w : World} {K : PySem.W.Frag} {mg : Str → Option Value} {base : Heap}
theorem r_pop0 {l : Addr} {y : V} {ys : List V} {H : Hp} {Q : VK} (h : H l = some (.lst (y :: ys))) (q : ∀ H2, Oth l H H2 → H2 l = some (.lst ys) → Q y H2) : rPopAt (.ref l) [.int 0] H Q :=
  ⟨l, y :: ys, 0, 0, y, rfl, rfl, h, by decide, by decide, by simp [seqIndex?], rfl, q _ (fun b o n z => by rw [upd_ne n]; exact z) upd_same⟩
def sp_reach1 (K : PySem.W.Frag) (C Cs : Addr) : Sp := fun vs H Q E => ∃ p F S b c cs, vs = [.ref p, .int b] ∧ DS K C H p F S ∧ S.rows b = c :: cs ∧ (S.pw = some 0 → E (.ref Cs) none H) ∧
  (S.pw ≠ some 0 → ∀ H' F', DS K C H' p F' (S.got b c cs) → Ch F H H' → (∀ a ∈ F', a ∈ F) → Q .non H')
theorem ok_Disk__reach_one (T : Txt K mg) : FnOk P w K mg base (L2.CX P w) 3 T.m_Disk__reach_one.f T.m_Disk__reach_one.fd ["self", "block"] ((sp_reach1 K T.C_Disk T.e_Stopped.C)) := by
  refine T.m_Disk__reach_one.F.okX sc_Disk__reach_one (fun vs H Q E h => ?_) (fun cdv A outer s H vs Q E hr h => ?_)
  · obtain ⟨p, F, S, b, c, cs, rfl, _⟩ := h
    rfl
  · obtain ⟨p, F, S, b, c, cs, rfl, ⟨D, hD, rfl, v⟩, hrow, k0, k1⟩ := h
    refine ⟨_, (Evl.pss_cut (ps_if (pt_cmpR oNotN (peFld (K := K) (pv 0) rfl) pe_non (nomark _)) (pss_cons (ps_if (pt_cmpR (oEq (K := K) hr.units) (peFld (K := K) (pv 0) rfl) pe_int (nomark _)) (pss_one (ps_raise rfl (takes_of rfl rfl rfl rfl) (pmk_oexN T.e_Stopped.o T.e_Stopped.i T.e_Stopped.t (ok_StoreError_init T.m_StoreError_init T.z_ValueError T.vV) (hr.mono (by decide)) T.m_StoreError_init.b pass0 (by rfl) T.e_Stopped.g))) pss_nil)
    (pss_one (ps_fldaug (pv 0) pe_int in_sub))) pss_nil)
    (pss_cons (ps_set (i := 2) sc_Disk__reach_one.nd rfl (Or.inl rfl) (pe_dget (hu_of hr) (peFld (K := K) (pv 0) rfl) (pv 1) (fun _ _ => rfl)))
    (pss_cons (ps_asg (pe_bm PySem.F.plainAttrs_list PySem.F.slot_list_pop PySem.F.type_list_pop mt_popAt (pv 2) (pa_cons pe_int pa_nil)) (pg_sub (peFld (K := K) (pv 0) rfl) (pv 1) set_list))
    (pss_cons (ps_fldaug (pv 0) pe_int in_add)
    (pss_one (ps_if (pt_not (ptTruth (K := K) (pv 2) (by intro _; rfl))) (pss_one (ps_ddel (peFld (K := K) (pv 0) rfl) (pv 1))) pss_nil)))))), ?_⟩
    walk_at "go"
    refine s_cut (fun σ2 H2 => S.pw ≠ some 0 ∧ σ2 = [some (.ref p), some (.int b), none] ∧ InsAt T.C_Disk H2 p (df D.l D.w (pwV (D.pw.map (· - 1))) D.rc) ∧ (∀ x, x ≠ p → H2 x = H x)) ?_ ?_
    · walk_at "go"
      refine o_fld hD.ob T.k_Disk.cl T.n_Disk__power (df_p _ _ _ _) ?_
      have epw := v.pw
      have hob := hD.ob
      cases ep : D.pw with
      | none =>
        rw [ep] at hob
        walk_at "go"
        exact ⟨by rw [← epw, ep]; simp, rfl, hob, fun _ _ => rfl⟩
      | some i =>
        rw [ep] at hob
        walk_at "go"
        refine o_fld hob T.k_Disk.cl T.n_Disk__power (df_p _ _ _ _) ?_
        walk_at "go"
        refine i_d (fun q => ?_) (fun q => ?_)
        · subst q
          walk_at "go"
          exact e_raise T.e_Stopped.o (k0 (by rw [← epw, ep]))
        · walk_at "go"
          obtain ⟨dx, hob⟩ := hob
          refine ⟨_, rfl, p, T.C_Disk, dx, _, _, rfl, hob, T.k_Disk.cl, T.n_Disk__power, df_p _ _ _ _, ?_⟩
          refine ⟨_, _, rfl, rfl, dx, _, hob, by show 4 < 1000; decide, ?_⟩
          rw [df_pp]
          exact ⟨by rw [← epw, ep]; intro z; exact q (Option.some.inj z), rfl, ⟨dx, upd_same⟩, fun x hx => upd_ne hx⟩
    · rintro σ2 H2 ⟨np, rfl, hob, hoth⟩
      obtain ⟨r, ef, hm, hk, tu⟩ := v.rv.there (b := b) (by rw [hrow]; simp)
      rw [hrow] at tu
      obtain ⟨a, as, er, ta, tas⟩ := tu.cons_inv
      have hr0 := hD.hr r hm
      rw [er] at hr0
      obtain ⟨dx0, hob0⟩ := hD.ob
      have hpw : D.w ≠ p := fun z => by have := hD.hw; rw [z, hob0] at this; cases this
      have hpl : D.l ≠ p := fun z => by have := hD.hl; rw [z, hob0] at this; cases this
      have hpr : r.2.1 ≠ p := fun z => by have := hr0.1; rw [z, hob0] at this; cases this
      have hrl : r.2.1 ≠ D.l := fun z => hD.lr (z ▸ List.mem_map.mpr ⟨r, hm, rfl⟩)
      have hrw : r.2.1 ≠ D.w := fun z => by have := hr0.1; rw [z, hD.hw] at this; cases this
      have hlw : D.l ≠ D.w := fun z => by have := hD.hl; rw [z, hD.hw] at this; cases this
      have hb := hD.kb r hm
      rw [hk] at hb
      have h2w : H2 D.w = _ := (hoth _ hpw).trans hD.hw
      have h2l : H2 D.l = _ := (hoth _ hpl).trans hD.hl
      have h2r : H2 r.2.1 = _ := (hoth _ hpr).trans hr0.1
      walk_at "go"
      refine e_dget ?_
      walk_at "go"
      refine o_fld hob T.k_Disk.cl T.n_Disk__waits (df_w _ _ _ _) ?_
      walk_at "go"
      refine o_dget (k := Sum.inl b) h2w (by rw [val_row, ef]; rfl) ?_
      walk_at "go"
      refine r_pop0 h2r fun H3 o3 h3 => ?_
      obtain ⟨dx, hob⟩ := hob
      have h3p : H3 p = _ := o3 _ _ hpr.symm hob
      have h3l : H3 D.l = _ := o3 _ _ hrl.symm h2l
      have h3w : H3 D.w = _ := o3 _ _ hrw.symm h2w
      walk_at "go"
      refine o_fld ⟨dx, h3p⟩ T.k_Disk.cl T.n_Disk__lies (df_l _ _ _ _) ?_
      walk_at "go"
      refine set_ (j := b.toNat) h3l (ixN_in (by omega) (by rw [List.length_map]; omega)) fun H4 o4 h4 => ?_
      have h4p : H4 p = _ := o4 _ _ hpl.symm h3p
      have h4w : H4 D.w = _ := o4 _ _ hlw.symm h3w
      have h4r : H4 r.2.1 = _ := o4 _ _ hrl h3
      walk_at "go"
      refine ⟨_, rfl, p, T.C_Disk, dx, _, _, rfl, h4p, T.k_Disk.cl, T.n_Disk__reached, df_r _ _ _ _, ?_⟩
      refine ⟨_, _, rfl, rfl, dx, _, h4p, by show 4 < 1000; decide, ?_⟩
      rw [df_pr]
      have h5p : upd H4 p (.ins T.C_Disk dx (df D.l D.w (pwV (D.pw.map (· - 1))) (D.rc + 1))) p = some (.ins T.C_Disk dx (df D.l D.w (pwV (D.pw.map (· - 1))) (D.rc + 1))) := upd_same
      have h5 : ∀ x, x ≠ p → upd H4 p (.ins T.C_Disk dx (df D.l D.w (pwV (D.pw.map (· - 1))) (D.rc + 1))) x = H4 x := fun x hx => upd_ne hx
      generalize upd H4 p (.ins T.C_Disk dx (df D.l D.w (pwV (D.pw.map (· - 1))) (D.rc + 1))) = H5 at *
      have h5r : H5 r.2.1 = _ := (h5 _ hpr).trans h4r
      have h5w : H5 D.w = _ := (h5 _ hpw).trans h4w
      have old : ∀ x o, x ≠ p → x ≠ D.l → x ≠ D.w → x ≠ r.2.1 → H x = some o → H5 x = some o := fun x o n1 n2 n3 n4 q => by
        rw [h5 x n1]; exact o4 _ _ n2 (o3 _ _ n4 ((hoth x n1).trans q))
      have fin := fun (H6 : Hp) (h6 : ∀ x, x ≠ D.w → H6 x = H5 x) (h6w : H6 D.w = some (.dK (kvs_of (gotRows D.rows b as)))) => got_core (H4 := H6) hD v hrow np hm hk ef er ta tas ⟨dx, (h6 p hpw.symm).trans h5p⟩ (by rw [h6 _ hlw, h5 _ hpl, h4, List.map_set]) h6w ((h6 _ hrw).trans h5r) (fun x o n1 n2 n3 n4 q => by rw [h6 x n3]; exact old x o n1 n2 n3 n4 q)
      walk_at "go"
      cases as with
      | nil =>
        walk_at "go"
        refine ⟨_, rfl, p, T.C_Disk, dx, _, _, rfl, h5p, T.k_Disk.cl, T.n_Disk__waits, df_w _ _ _ _, ?_⟩
        refine ⟨_, rfl, D.w, _, Sum.inl b, rfl, h5w, rfl, by rw [val_row, ef]; rfl, ?_⟩
        obtain ⟨g1, g2, g3⟩ := fin (upd H5 D.w (.dK (dropK (kvs_of D.rows) (Sum.inl b)))) (fun x hx => upd_ne hx) (by rw [gotRows_kvs, if_pos rfl]; exact upd_same)
        exact k1 np _ _ g1 g2 g3
      | cons a2 as2 =>
        walk_at "go"
        obtain ⟨g1, g2, g3⟩ := fin H5 (fun x hx => rfl) (by rw [gotRows_kvs, if_neg (by simp)]; exact h5w)
        exact k1 np _ _ g1 g2 g3
end
end Vw

set_option Elab.async false
set_option linter.all false
set_option maxRecDepth 100000
set_option maxHeartbeats 4000000
namespace Vw
open PySem PySem.Spec PyProof.Rows L2 RT
local macro_rules | `(tactic| walk_at "s") => `(tactic| with_reducible first
  | refine' s_seq ?_ | refine' s_next ?_ | refine' s_set ?_ | refine' s_ret ?_ | refine' s_retN ?_ | refine' s_drop ?_ | refine' s_if ?_ | refine' s_ipI ?_
  | refine' e_c ?_ | refine' e_op ?_ | refine' e_un ?_ | refine' e_neg ?_ | refine' e_test ?_ | refine' e_tB ?_ | refine' e_bl ?_ | refine' e_and ?_ | refine' e_or ?_ | refine' e_not ?_
  | refine' e_andV ?_ | refine' e_orV ?_ | refine' e_notV ?_ | refine' e_kV ?_ | refine' e_ife ?_ | refine' e_nil ?_ | refine' e_cons ?_ | refine' e_cb ?_ | refine' e_call ?_ | refine' e_chain ?_
  | refine' o_addI ?_ | refine' o_eqI ?_ | refine' o_neI ?_ | refine' o_I0 ?_ | refine' o_pow16 ?_ | refine' o_pow17 ?_ | refine' o_pow18 ?_ | refine' o_pow19 ?_ | refine' o_pow30 ?_ | refine' o_pow31 ?_ | refine' o_pow1 ?_ | refine' o_pow2 ?_ | refine' o_pow3 ?_ | refine' o_pow4 ?_ | refine' o_pow5 ?_ | refine' o_pow6 ?_ | refine' o_pow9 ?_ | refine' o_pow10 ?_ | refine' o_pow12 ?_ | refine' o_pow15 ?_ | refine' o_pow20 ?_ | refine' e_lst ?_ | refine' e_tup ?_ | refine' iteT ?_ | refine' i_nt ?_ | refine' i_nf ?_ | refine' iteF ?_ | refine' c_int ?_ | refine' c_abs ?_ | refine' c_min2 ?_ | refine' c_max2 ?_ | refine' e_tru ?_ | refine' t_bl ?_ | refine' t_non ?_ | refine' t_int ?_ | refine' isN_non ?_ | refine' isN_int ?_ | refine' isN_ref ?_ | refine' isN_str ?_ | refine' isN_bl ?_ | refine' noN_non ?_ | refine' noN_int ?_ | refine' noN_ref ?_ | refine' noN_str ?_ | refine' noN_bl ?_
  | refine' s_brk ?_ | refine' s_cont ?_ | refine' s_for ?_ | refine' e_lc ?_ | refine' e_dc ?_ | refine' e_yes ?_ | refine' i_rng1 ?_ | refine' i_lst0 ?_ | refine' i_tup0 ?_ | refine' e_bm ?_ | refine' e_sl ?_ | refine' e_np ?_ | refine' e_pt ?_ | refine' e_ptI ?_ | refine' e_din ?_ | refine' e_dnin ?_ | refine' e_methE ?_ | refine' p_cons ?_ | refine' p_nil ?_ | refine' s_dput ?_ | refine' e_dget2 ?_ | refine' e_dpop1 ?_ | refine' i_enum0 ?_ | refine' i_rev0 ?_ | refine' g_sub ?_ | refine' s_asg ?_ | refine' i_zip0 ?_ | refine' e_revT ?_ | refine' isB_bl ?_ | refine' notB_bl ?_ | refine' o_neB ?_ | refine' i_nrr ?_ | refine' e_meth ?_ | refine' s_setf ?_ | refine' e_fld ?_ | refine' e_bm0 ?_ | refine' r_tx ?_ | refine' o_eqStr ?_ | refine' o_neStr ?_)
local macro_rules | `(tactic| walk_at "v") => `(tactic| ((with_reducible refine' e_var ?hv ?_); (case hv => exact rfl)))
local macro_rules | `(tactic| walk_at "a") => `(tactic| ((with_reducible refine' s_aug ?hv ?_); (case hv => exact rfl)))
local macro_rules | `(tactic| walk_at "m") => `(tactic| first
  | ((with_reducible refine' o_mod ?hv ?_); (case hv => first | decide | omega))
  | ((with_reducible refine' o_mulR ?hv ?_); (case hv => omega))
  | ((with_reducible refine' o_mulL ?hv ?_); (case hv => omega))
  | ((with_reducible refine' o_div ?hv ?hw ?_); (case hv => omega); (case hw => omega))
  | ((with_reducible refine' o_pow _ ?hv ?hw ?hx ?_); (case hv => exact rfl); (case hw => decide); (case hx => decide)))
local macro_rules | `(tactic| walk_at "i") => `(tactic| (first
  | ((with_reducible refine' isi_int true ?hv ?_); (case hv => exact (by decide +kernel)))
  | ((with_reducible refine' isi_int false ?hv ?_); (case hv => exact (by decide +kernel)))
  | ((with_reducible refine' isi_non true ?hv ?_); (case hv => exact (by decide +kernel)))
  | ((with_reducible refine' isi_non false ?hv ?_); (case hv => exact (by decide +kernel)))
  | ((with_reducible refine' isi_str true ?hv ?_); (case hv => exact (by decide +kernel)))
  | ((with_reducible refine' isi_str false ?hv ?_); (case hv => exact (by decide +kernel)))
  | ((with_reducible refine' isi_bl true ?hv ?_); (case hv => exact (by decide +kernel)))
  | ((with_reducible refine' isi_bl false ?hv ?_); (case hv => exact (by decide +kernel)))
  | ((with_reducible refine' isi_t true ?hw ?hv ?_); (case hw => assumption); (case hv => exact (by decide +kernel)))
  | ((with_reducible refine' isi_t false ?hw ?hv ?_); (case hw => assumption); (case hv => exact (by decide +kernel)))
  | ((with_reducible refine' isi_l true ?hw ?hv ?_); (case hw => assumption); (case hv => exact (by decide +kernel)))
  | ((with_reducible refine' isi_l false ?hw ?hv ?_); (case hw => assumption); (case hv => exact (by decide +kernel)))
  | ((with_reducible refine' isi_tup true ?hw ?hv ?_); (case hw => assumption); (case hv => exact (by decide +kernel)))
  | ((with_reducible refine' isi_tup false ?hw ?hv ?_); (case hw => assumption); (case hv => exact (by decide +kernel)))
  | ((with_reducible refine' isi_lst true ?hw ?hv ?_); (case hw => assumption); (case hv => exact (by decide +kernel)))
  | ((with_reducible refine' isi_lst false ?hw ?hv ?_); (case hw => assumption); (case hv => exact (by decide +kernel)))))
local macro_rules | `(tactic| walk_at "om") => `(tactic| first | omega | (simp only [List.length_cons, List.length_nil, List.length_map, List.length_append, List.length_range]; omega))
local macro_rules | `(tactic| walk_at "d") => `(tactic| (first
  | ((with_reducible refine' i_dt ?hv ?_); (case hv => walk_at "om"))
  | ((with_reducible refine' i_df ?hv ?_); (case hv => walk_at "om"))
  | ((with_reducible refine' i_ndt ?hv ?_); (case hv => walk_at "om"))
  | ((with_reducible refine' i_ndf ?hv ?_); (case hv => walk_at "om"))))
local macro_rules | `(tactic| walk_at "x") => `(tactic| first
  | ((with_reducible refine' o_ixA ?hv ?hw ?_); (case hv => assumption); (case hw => exact rfl))
  | ((with_reducible refine' o_ixU ?hv ?hw ?_); (case hv => assumption); (case hw => exact rfl))
  | ((with_reducible refine' o_ixL ?hv ?hw ?_); (case hv => assumption); (case hw => exact rfl))
  | ((with_reducible refine' o_ixT ?hv ?hw ?_); (case hv => assumption); (case hw => exact rfl))
  | ((with_reducible refine' set_ ?hv ?hw ?_); (case hv => assumption); (case hw => exact rfl))
  | ((with_reducible refine' e_lenM ?hv ?_); (case hv => first | assumption | exact slO (by assumption)))
  | ((with_reducible refine' e_lenN ?hv ?_); (case hv => first | assumption | exact stO (by assumption)))
  | ((with_reducible refine' e_lenL ?hv ?_); (case hv => first | assumption | exact slO (by assumption)))
  | ((with_reducible refine' e_lenT ?hv ?_); (case hv => first | assumption | exact stO (by assumption))))
local macro_rules | `(tactic| walk_at "c") => `(tactic| first
  | ((with_reducible refine' c_listL ?hv ?_); (case hv => assumption))
  | ((with_reducible refine' c_listT ?hv ?_); (case hv => assumption))
  | ((with_reducible refine' c_tupL ?hv ?_); (case hv => first | assumption | exact slO (by assumption)))
  | ((with_reducible refine' c_tupT ?hv ?_); (case hv => assumption))
  | ((with_reducible refine' t_lst ?hv ?_); (case hv => first | assumption | exact slO (by assumption)))
  | ((with_reducible refine' t_tup ?hv ?_); (case hv => assumption))
  | ((with_reducible refine' r_sl ?hv ?_); (case hv => first | assumption | exact slO (by assumption)))
  | ((with_reducible refine' o_inL ?hv ?_); (case hv => first | assumption | exact slO (by assumption)))
  | ((with_reducible refine' o_inT ?hv ?_); (case hv => first | assumption | exact stO (by assumption)))
  | ((with_reducible refine' o_niL ?hv ?_); (case hv => first | assumption | exact slO (by assumption)))
  | ((with_reducible refine' o_niT ?hv ?_); (case hv => first | assumption | exact stO (by assumption)))
  | ((with_reducible refine' ty_lst ?hv ?_); (case hv => assumption)))
local macro_rules | `(tactic| walk_at "mo") => `(tactic| repeat' (first | exact m_yes | exact m_var | exact m_c | exact m_I0 | exact m_I | exact m_ix | exact m_add | exact m_in | exact m_int1 | exact m_abs | exact m_nil | refine' m_and ?_ ?_ | refine' m_test ?_ | refine' m_tB ?_ | refine' m_op ?_ ?_ ?_ | refine' m_cons ?_ ?_ | refine' m_cb ?_ ?_))
local macro_rules | `(tactic| walk_at "go") => `(tactic| repeat' (first | walk_at "s" | walk_at "v" | walk_at "a" | walk_at "x" | walk_at "m" | walk_at "c" | walk_at "i" | walk_at "d"))

section
variable {P : Program} {w : World} {K : PySem.W.Frag} {mg : Str → Option Value} {base : Heap}
def sp_reach (K : PySem.W.Frag) (C Cs Cn Cb : Addr) : Sp := fun vs H Q E => (vs.length = 2 ∧ NoB K C Cb vs H E) ∨ ∃ p F S b, vs = [.ref p, .int b] ∧ DS K C H p F S ∧ 0 ≤ b ∧ b < S.lies.length ∧ (S.rows b = [] → E (.ref Cn) none H) ∧ ∀ c cs, S.rows b = c :: cs → (S.pw = some 0 → E (.ref Cs) none H) ∧
  (S.pw ≠ some 0 → ∀ H' F', DS K C H' p F' (S.got b c cs) → Ch F H H' → (∀ a ∈ F', a ∈ F) → Q .non H')
theorem ok_Disk_reach (T : Txt K mg) : FnOk P w K mg base (L2.CX P w) 4 T.m_Disk_reach.f T.m_Disk_reach.fd ["self", "block"] ((sp_reach K T.C_Disk T.e_Stopped.C T.e_NothingWaits.C T.e_NoBlock.C)) := by
  refine T.m_Disk_reach.F.okX sc_Disk_reach (fun vs H Q E h => ?_) (fun cdv A outer s H vs Q E hr h => ?_)
  · rcases h with h | ⟨p, F, S, b, rfl, _⟩
    · exact h.1
    · rfl
  · rcases h with ⟨l2, p, D, v, r, rfl, h, hv, hb, kE⟩ | ⟨p, F, S, b, rfl, hS, hb0, hb1, kn, kk⟩
    · obtain rfl : r = [] := List.length_eq_zero_iff.mp (by simpa using l2)
      refine ⟨_, (pss_cons (ps_expr (pe_meth (pv 0) T.k_Disk.cl T.m_Disk__need_block.i (ok_Disk__need_block T) (hr.mono (by decide)) T.m_Disk__need_block.b .nil (passes_call (takes_of rfl rfl rfl rfl) (fun _ _ _ _ h => h)) (pa_cons (pv 1) pa_nil)))
    (pss_cons (ps_if (pt_cmp (pc_dnotin (hu_of hr) (pv 1) (peFld (K := K) (pv 0) rfl))) (pss_one (ps_raise rfl (takes_of rfl rfl rfl rfl) (pmk_oexN T.e_NothingWaits.o T.e_NothingWaits.i T.e_NothingWaits.t (ok_StoreError_init T.m_StoreError_init T.z_ValueError T.vV) (hr.mono (by decide)) T.m_StoreError_init.b pass0 (by rfl) T.e_NothingWaits.g))) pss_nil)
    (pss_one (ps_expr (pe_meth (pv 0) T.k_Disk.cl T.m_Disk__reach_one.i (ok_Disk__reach_one T) (hr.mono (by decide)) T.m_Disk__reach_one.b .nil (passes_call (takes_of rfl rfl rfl rfl) (fun _ _ _ _ h => h)) (pa_cons (pv 1) pa_nil)))))), ?_⟩
      walk_at "go"
      refine m_call0 h.ob (df_no _ _ _ _ (by decide +kernel)) ?_
      walk_at "go"
      exact .inr ⟨rfl, p, D, v, [], rfl, h, hv, hb, kE⟩
    refine ⟨_, (pss_cons (ps_expr (pe_meth (pv 0) T.k_Disk.cl T.m_Disk__need_block.i (ok_Disk__need_block T) (hr.mono (by decide)) T.m_Disk__need_block.b .nil (passes_call (takes_of rfl rfl rfl rfl) (fun _ _ _ _ h => h)) (pa_cons (pv 1) pa_nil)))
    (pss_cons (ps_if (pt_cmp (pc_dnotin (hu_of hr) (pv 1) (peFld (K := K) (pv 0) rfl))) (pss_one (ps_raise rfl (takes_of rfl rfl rfl rfl) (pmk_oexN T.e_NothingWaits.o T.e_NothingWaits.i T.e_NothingWaits.t (ok_StoreError_init T.m_StoreError_init T.z_ValueError T.vV) (hr.mono (by decide)) T.m_StoreError_init.b pass0 (by rfl) T.e_NothingWaits.g))) pss_nil)
    (pss_one (ps_expr (pe_meth (pv 0) T.k_Disk.cl T.m_Disk__reach_one.i (ok_Disk__reach_one T) (hr.mono (by decide)) T.m_Disk__reach_one.b .nil (passes_call (takes_of rfl rfl rfl rfl) (fun _ _ _ _ h => h)) (pa_cons (pv 1) pa_nil)))))), ?_⟩
    obtain ⟨D, hD, eF, v⟩ := id hS
    have ll := v.lv.1
    cases hrow : S.rows b with
    | nil =>
      have ef : D.rows.find? (fun r => decide (r.1 = b)) = none := by
        cases q : D.rows.find? (fun r => decide (r.1 = b)) with
        | none => rfl
        | some r =>
          have tu := v.rv.som q
          rw [hrow] at tu
          exact absurd (List.length_eq_zero_iff.mp tu.1) (hD.hr r (List.mem_of_find?_eq_some q)).2
      walk_at "go"
      refine m_call0 hD.ob (df_no _ _ _ _ (by decide +kernel)) ?_
      walk_at "go"
      refine .inl ⟨p, D, b, rfl, hD, hb0, by omega, ?_⟩
      walk_at "go"
      refine o_fld hD.ob T.k_Disk.cl T.n_Disk__waits (df_w _ _ _ _) ?_
      refine ⟨_, _, rfl, DGet.k (k := Sum.inl b) hD.hw, ?_⟩
      rw [show (valV (D.rows.map fun r => ((Sum.inl r.1 : Key), V.ref r.2.1)) (Sum.inl b : Key)).isSome = false by rw [val_row, ef]; rfl]
      walk_at "go"
      exact e_raise T.e_NothingWaits.o (kn hrow)
    | cons c cs =>
    obtain ⟨k0, k1⟩ := kk c cs hrow
    obtain ⟨r, ef, hm, hk, tu⟩ := v.rv.there (b := b) (by rw [hrow]; simp)
    have hb := hD.kb r hm
    rw [hk] at hb
    walk_at "go"
    refine m_call0 hD.ob (df_no _ _ _ _ (by decide +kernel)) ?_
    walk_at "go"
    refine .inl ⟨p, D, b, rfl, hD, hb.1, hb.2, ?_⟩
    walk_at "go"
    refine o_fld hD.ob T.k_Disk.cl T.n_Disk__waits (df_w _ _ _ _) ?_
    refine ⟨_, _, rfl, DGet.k (k := Sum.inl b) hD.hw, ?_⟩
    rw [show (valV (D.rows.map fun r => ((Sum.inl r.1 : Key), V.ref r.2.1)) (Sum.inl b : Key)).isSome = true by rw [val_row, ef]; rfl]
    walk_at "go"
    refine m_call0 hD.ob (df_no _ _ _ _ (by decide +kernel)) ?_
    walk_at "go"
    refine ⟨p, F, S, b, c, cs, rfl, hS, hrow, k0, fun np H' F' h1 h2 h3 => ?_⟩
    walk_at "go"
    exact k1 np H' F' h1 h2 h3
/-! ### forcing -/
def SD.fB (b : Int) : Nat → SD → SD × Bool
  | 0, S => (S, true)
  | n + 1, S => match S.rows b with
    | [] => (S, true)
    | c :: cs => if S.pw = some 0 then (S, false) else fB b n (S.got b c cs)
def SD.forceB (S : SD) (b : Int) : SD × Bool := SD.fB b (S.rows b).length S
def SD.forceL : List Int → SD → SD × Bool
  | [], S => (S, true)
  | b :: bs, S => if (S.forceB b).2 = true then SD.forceL bs (S.forceB b).1 else ((S.forceB b).1, false)
theorem SD.forceL_cons {S : SD} {b : Int} {bs : List Int} : SD.forceL (b :: bs) S = if (S.forceB b).2 = true then SD.forceL bs (S.forceB b).1 else ((S.forceB b).1, false) := rfl
theorem SD.forceB_nil {S : SD} {b : Int} (h : S.rows b = []) : S.forceB b = (S, true) := by unfold SD.forceB; rw [h]; rfl
theorem SD.forceB_stop {S : SD} {b : Int} {c : Ct} {cs : List Ct} (h : S.rows b = c :: cs) (e : S.pw = some 0) : S.forceB b = (S, false) := by
  unfold SD.forceB
  rw [h, List.length_cons]
  unfold SD.fB
  rw [h]
  exact if_pos e
theorem SD.forceB_got {S : SD} {b : Int} {c : Ct} {cs : List Ct} (h : S.rows b = c :: cs) (e : S.pw ≠ some 0) : S.forceB b = (S.got b c cs).forceB b := by
  have e2 : (S.got b c cs).rows b = cs := if_pos rfl
  unfold SD.forceB
  rw [e2, h, List.length_cons]
  show (match S.rows b with | [] => (S, true) | c' :: cs' => if S.pw = some 0 then (S, false) else SD.fB b cs.length (S.got b c' cs')) = _
  rw [h]
  exact if_neg e
/-- whatever holds at first and is kept by each write that reaches, holds behind a force -/
theorem SD.fB_ind {b : Int} {Pr : SD → Prop} (hs : ∀ S c cs, Pr S → S.rows b = c :: cs → S.pw ≠ some 0 → Pr (S.got b c cs)) : ∀ (n : Nat) (S : SD), Pr S → Pr (SD.fB b n S).1
  | 0, S, h => h
  | n + 1, S, h => by
    unfold SD.fB
    split
    · exact h
    · next c cs e =>
      split
      · exact h
      · next np => exact SD.fB_ind hs n _ (hs S c cs h e np)
theorem SD.forceL_ind {Pr : SD → Prop} (hs : ∀ b S c cs, Pr S → S.rows b = c :: cs → S.pw ≠ some 0 → Pr (S.got b c cs)) : ∀ (l : List Int) (S : SD), Pr S → Pr (SD.forceL l S).1
  | [], S, h => h
  | b :: bs, S, h => by
    have h1 : Pr (S.forceB b).1 := SD.fB_ind (hs b) _ S h
    unfold SD.forceL
    split
    · exact SD.forceL_ind hs bs _ h1
    · exact h1
def sp_force (K : PySem.W.Frag) (C Cs Cb : Addr) : Sp := fun vs H Q E => (∃ p D v o, vs = [.ref p, v] ∧ DiskAt C H p D ∧ Th K H v o ∧ (lotO o = false ∨ ∃ xs, o = some xs ∧ ∃ m, xs[xs.length - 1]? = some (.int m) ∧ (D.lies.length : Int) ≤ m) ∧ ∀ H', Same H H' → E (.ref Cb) none H') ∨ ∃ p F S a ns, vs = [.ref p, .ref a] ∧ DS K C H p F S ∧ SqT K H a (ns.map V.int) ∧ ns.length ≤ 1000 ∧ lotB ns = true ∧ (∀ n ∈ ns, n < S.lies.length) ∧
  ∀ H' F', DS K C H' p F' (SD.forceL ns S).1 → Ch F H H' → (∀ a ∈ F', a ∈ F ∨ H a = none) → if (SD.forceL ns S).2 = true then Q .non H' else E (.ref Cs) none H'
theorem ok_Disk_force (T : Txt K mg) : FnOk P w K mg base (L2.CX P w) 4 T.m_Disk_force.f T.m_Disk_force.fd ["self", "lot"] ((sp_force K T.C_Disk T.e_Stopped.C T.e_NoBlock.C)) := by
  refine T.m_Disk_force.F.okX sc_Disk_force (fun vs H Q E h => ?_) (fun cdv A outer s H vs Q E hr h => ?_)
  · rcases h with ⟨p, D, v, o, rfl, _⟩ | ⟨p, F, S, a, ns, rfl, _⟩
    · rfl
    · rfl
  · rcases h with ⟨p, D, v, o, rfl, h, hv, hbad, kE⟩ | ⟨p, F, S, a, ns, rfl, hS, ht, hl, hlot, hlt, k⟩
    · refine ⟨_, (Evl.pss_cut (ps_if (PW.pt (pw_or (pt_not (ptTruth (K := K) (pe_call (ok_is_lot T) (hr.mono (by decide)) (by rfl) T.is_lot.g T.is_lot.F.kp T.is_lot.b .nil pass0 (pa_cons (pv 1) pa_nil)) (by intro _; rfl))) (pw_or1 (PW.pt (pw_and (pt_cmpR op_gt (pe_callB (cLen (K := K)) (by rfl) T.z_len PySem.boot_len (pa_cons (pv 1) pa_nil)) pe_int (nomark _)) (pw_and1 (pt_cmpR op_ge (pe_ix (ixLT (K := K)) (pv 1) (pe_un un_neg pe_int) (fun _ _ => rfl)) (pe_callB (cLen (K := K)) (by rfl) T.z_len PySem.boot_len (pa_cons (peFld (K := K) (pv 0) rfl) pa_nil)) (nomark _)))))))) (pss_one (ps_raise rfl (takes_of rfl rfl rfl rfl) (pmk_oexN T.e_NoBlock.o T.e_NoBlock.i T.e_NoBlock.t (ok_StoreError_init T.m_StoreError_init T.z_ValueError T.vV) (hr.mono (by decide)) T.m_StoreError_init.b pass0 (by rfl) T.e_NoBlock.g))) pss_nil)
    (pss_one (ps_for (passes_of rfl) rfl (piT (K := K) (pv 1)) (pg_name (i := 2) sc_Disk_force.nd rfl (Or.inl rfl))
      (pss_one (ps_while (passes_of rfl) (pt_cmp (pc_din (hu_of hr) (pv 2) (peFld (K := K) (pv 0) rfl))) (pss_one (ps_expr (pe_meth (pv 0) T.k_Disk.cl T.m_Disk__reach_one.i (ok_Disk__reach_one T) (hr.mono (by decide)) T.m_Disk__reach_one.b .nil (passes_call (takes_of rfl rfl rfl rfl) (fun _ _ _ _ h => h)) (pa_cons (pv 2) pa_nil))))))))), ?_⟩
      walk_at "go"
      refine s_cut (fun _ _ => False) ?_ (fun _ _ z => z.elim)
      walk_at "go"
      refine ⟨v, o, rfl, hv, fun H1 s1 => ?_⟩
      cases e : lotO o with
      | false =>
        walk_at "go"
        exact e_raise T.e_NoBlock.o (kE H1 s1)
      | true =>
        rcases hbad with hbad | ⟨xs, rfl, m, hm, hlm⟩
        · rw [e] at hbad; cases hbad
        cases hv with
        | @tup a _ ht hl hi =>
        have ht1 := st_ s1 ht
        have h1 := h.same s1
        have e1 : 0 < xs.length := by
          have := (List.getElem?_eq_some_iff.mp hm).1
          omega
        walk_at "go"
        refine o_ixT ht1 (atI_neg (by omega) hm) ?_
        walk_at "go"
        refine o_fld h1.ob T.k_Disk.cl T.n_Disk__lies (df_l _ _ _ _) ?_
        have hl1 := slO (K := K) h1.hl
        walk_at "go"
        first
          | exact e_raise T.e_NoBlock.o (kE H1 s1)
          | (refine i_dt (by omega) ?_
             walk_at "go"
             exact e_raise T.e_NoBlock.o (kE H1 s1))
    refine ⟨_, (Evl.pss_cut (ps_if (PW.pt (pw_or (pt_not (ptTruth (K := K) (pe_call (ok_is_lot T) (hr.mono (by decide)) (by rfl) T.is_lot.g T.is_lot.F.kp T.is_lot.b .nil pass0 (pa_cons (pv 1) pa_nil)) (by intro _; rfl))) (pw_or1 (PW.pt (pw_and (pt_cmpR op_gt (pe_callB (cLen (K := K)) (by rfl) T.z_len PySem.boot_len (pa_cons (pv 1) pa_nil)) pe_int (nomark _)) (pw_and1 (pt_cmpR op_ge (pe_ix (ixLT (K := K)) (pv 1) (pe_un un_neg pe_int) (fun _ _ => rfl)) (pe_callB (cLen (K := K)) (by rfl) T.z_len PySem.boot_len (pa_cons (peFld (K := K) (pv 0) rfl) pa_nil)) (nomark _)))))))) (pss_one (ps_raise rfl (takes_of rfl rfl rfl rfl) (pmk_oexN T.e_NoBlock.o T.e_NoBlock.i T.e_NoBlock.t (ok_StoreError_init T.m_StoreError_init T.z_ValueError T.vV) (hr.mono (by decide)) T.m_StoreError_init.b pass0 (by rfl) T.e_NoBlock.g))) pss_nil)
    (pss_one (ps_for (passes_of rfl) rfl (piT (K := K) (pv 1)) (pg_name (i := 2) sc_Disk_force.nd rfl (Or.inl rfl))
      (pss_one (ps_while (passes_of rfl) (pt_cmp (pc_din (hu_of hr) (pv 2) (peFld (K := K) (pv 0) rfl))) (pss_one (ps_expr (pe_meth (pv 0) T.k_Disk.cl T.m_Disk__reach_one.i (ok_Disk__reach_one T) (hr.mono (by decide)) T.m_Disk__reach_one.b .nil (passes_call (takes_of rfl rfl rfl rfl) (fun _ _ _ _ h => h)) (pa_cons (pv 2) pa_nil))))))))), ?_⟩
    obtain ⟨D, hD, eF, v⟩ := id hS
    walk_at "go"
    refine s_cut (fun σ2 H2 => σ2 = [some (.ref p), some (.ref a), none] ∧ Same H H2) ?_ ?_
    · walk_at "go"
      refine ⟨.ref a, some (ns.map V.int), rfl, .tup ht (by rw [List.length_map]; exact hl) (fun x hx => by
        obtain ⟨i, _, rfl⟩ := List.mem_map.mp hx
        exact .inl rfl), fun H1 s1 => ?_⟩
      rw [show lotO (some (ns.map V.int)) = true by
        show ((ns.map V.int).all isN && ascB ((ns.map V.int).map vInt)) = true
        unfold lotB at hlot
        rw [List.all_map, List.map_map]
        have e : (vInt ∘ V.int) = id := rfl
        rw [e, List.map_id]
        exact hlot]
      have ht1 := st_ s1 ht
      have hD1 := hD.same s1
      walk_at "go"
      refine i_d (fun q1 => ?_) (fun q1 => ?_)
      · walk_at "go"
        have e1 : 0 < ns.length := by omega
        refine o_ixT ht1 (atI_negI e1) ?_
        walk_at "go"
        refine o_fld hD1.ob T.k_Disk.cl T.n_Disk__lies (df_l _ _ _ _) ?_
        have hl1 := slO (K := K) hD1.hl
        walk_at "go"
        have := hlt _ (getD_mem (i := ns.length - 1) (by omega))
        have l2 := v.lv.1
        refine i_df (by omega) ?_
        walk_at "go"
        exact ⟨rfl, s1⟩
      · walk_at "go"
        exact ⟨rfl, s1⟩
    · rintro σ2 H2 ⟨rfl, s2⟩
      walk_at "go"
      have ht2 := st_ s2 ht
      refine i_tup ht2 ?_
      refine l_tup (xs := ns.map V.int) (fun i σ3 H3 => ∃ (y : Option V) (S3 : SD) (F3 : List Addr), σ3 = [some (.ref p), some (.ref a), y] ∧ DS K T.C_Disk H3 p F3 S3 ∧ Ch F H H3 ∧ (∀ x ∈ F3, x ∈ F ∨ H x = none) ∧ SD.forceL (ns.drop i) S3 = SD.forceL ns S) ⟨none, S, F, rfl, hS.same s2, Ch.of_same s2, fun x hx => .inl hx, rfl⟩ (fun i σ3 H3 hi q => ?_) (fun σ3 H3 q => ?_) (fun i x σ3 H3 hx q => ?_)
      · obtain ⟨y, S3, F3, _, _, c3, _, _⟩ := q
        exact c3.st ht
      · obtain ⟨y, S3, F3, rfl, d3, c3, f3, e3⟩ := q
        rw [List.length_map, List.drop_length] at e3
        have e4 : SD.forceL ns S = (S3, true) := e3.symm
        have := k H3 F3 (by rw [e4]; exact d3) c3 f3
        rw [e4] at this
        walk_at "go"
        exact this
      · obtain ⟨y, S3, F3, rfl, d3, c3, f3, e3⟩ := q
        have hi : i < ns.length := by
          have := (List.getElem?_eq_some_iff.mp hx).1
          simpa using this
        have ex : x = .int ns[i] := by
          rw [List.getElem?_map, List.getElem?_eq_getElem hi] at hx
          exact (Option.some.inj hx).symm
        subst ex
        rw [List.drop_eq_getElem_cons hi] at e3
        generalize ns[i] = b at *
        walk_at "go"
        refine while_m (fun m σ4 H4 => ∃ (S4 : SD) (F4 : List Addr), m = (S4.rows b).length ∧ σ4 = [some (.ref p), some (.ref a), some (.int b)] ∧ DS K T.C_Disk H4 p F4 S4 ∧ Ch F H H4 ∧ (∀ x ∈ F4, x ∈ F ∨ H x = none) ∧ S4.forceB b = S3.forceB b) _ ⟨S3, F3, rfl, rfl, d3, c3, f3, rfl⟩ ?_
        rintro m σ4 H4 ⟨S4, F4, rfl, rfl, d4, c4, f4, e4⟩
        obtain ⟨D4, hD4, eF4, v4⟩ := id d4
        walk_at "go"
        refine o_fld hD4.ob T.k_Disk.cl T.n_Disk__waits (df_w _ _ _ _) ?_
        refine ⟨_, _, rfl, DGet.k (k := Sum.inl b) hD4.hw, ?_⟩
        cases er : S4.rows b with
        | nil =>
          have ef : D4.rows.find? (fun r => decide (r.1 = b)) = none := by
            cases q : D4.rows.find? (fun r => decide (r.1 = b)) with
            | none => rfl
            | some r =>
              have tu := v4.rv.som q
              rw [er] at tu
              have := (hD4.hr r (List.mem_of_find?_eq_some q)).2
              exact absurd (List.length_eq_zero_iff.mp tu.1) this
          rw [show (valV (D4.rows.map fun r => ((Sum.inl r.1 : Key), V.ref r.2.1)) (Sum.inl b : Key)).isSome = false by rw [val_row, ef]; rfl]
          walk_at "go"
          refine ⟨_, S4, F4, rfl, d4, c4, f4, ?_⟩
          have z : S3.forceB b = (S4, true) := by rw [← e4, SD.forceB_nil er]
          rw [SD.forceL_cons, z, if_pos rfl] at e3
          exact e3
        | cons c cs =>
          obtain ⟨r, ef, hm, hk, tu⟩ := v4.rv.there (b := b) (by rw [er]; simp)
          rw [show (valV (D4.rows.map fun r => ((Sum.inl r.1 : Key), V.ref r.2.1)) (Sum.inl b : Key)).isSome = true by rw [val_row, ef]; rfl]
          walk_at "go"
          refine ⟨fun σ5 H5 => ∃ (S4 : SD) (F4 : List Addr), cs.length = (S4.rows b).length ∧ σ5 = [some (.ref p), some (.ref a), some (.int b)] ∧ DS K T.C_Disk H5 p F4 S4 ∧ Ch F H H5 ∧ (∀ x ∈ F4, x ∈ F ∨ H x = none) ∧ S4.forceB b = S3.forceB b, fun σ5 H5 q => ⟨cs.length, by simp, q⟩, ?_⟩
          walk_at "go"
          refine m_call0 hD4.ob (df_no _ _ _ _ (by decide +kernel)) ?_
          walk_at "go"
          refine ⟨p, F4, S4, b, c, cs, rfl, d4, er, fun np => ?_, fun np H5 F5 g1 g2 g3 => ?_⟩
          · have z : S3.forceB b = (S4, false) := by rw [← e4, SD.forceB_stop er np]
            rw [SD.forceL_cons, z, if_neg Bool.false_ne_true] at e3
            have e4 : SD.forceL ns S = (S4, false) := e3.symm
            have := k H4 F4 (by rw [e4]; exact d4) c4 f4
            rw [e4] at this
            exact this
          · walk_at "go"
            refine ⟨S4.got b c cs, F5, ?_, rfl, g1, c4.trans g2 f4, fun x hx => f4 x (g3 x hx), by rw [← e4, SD.forceB_got er np]⟩
            show cs.length = (if b = b then cs else S4.rows b).length
            rw [if_pos rfl]
end
end Vw

set_option Elab.async false
set_option linter.all false
set_option maxRecDepth 100000
set_option maxHeartbeats 4000000
namespace Vw
open PySem PySem.Spec PyProof.Rows L2 RT
local macro_rules | `(tactic| walk_at "s") => `(tactic| with_reducible first
  | refine' s_seq ?_ | refine' s_next ?_ | refine' s_set ?_ | refine' s_ret ?_ | refine' s_retN ?_ | refine' s_drop ?_ | refine' s_if ?_ | refine' s_ipI ?_
  | refine' e_c ?_ | refine' e_op ?_ | refine' e_un ?_ | refine' e_neg ?_ | refine' e_test ?_ | refine' e_tB ?_ | refine' e_bl ?_ | refine' e_and ?_ | refine' e_or ?_ | refine' e_not ?_
  | refine' e_andV ?_ | refine' e_orV ?_ | refine' e_notV ?_ | refine' e_kV ?_ | refine' e_ife ?_ | refine' e_nil ?_ | refine' e_cons ?_ | refine' e_cb ?_ | refine' e_call ?_ | refine' e_chain ?_
  | refine' o_addI ?_ | refine' o_eqI ?_ | refine' o_neI ?_ | refine' o_I0 ?_ | refine' o_pow16 ?_ | refine' o_pow17 ?_ | refine' o_pow18 ?_ | refine' o_pow19 ?_ | refine' o_pow30 ?_ | refine' o_pow31 ?_ | refine' o_pow1 ?_ | refine' o_pow2 ?_ | refine' o_pow3 ?_ | refine' o_pow4 ?_ | refine' o_pow5 ?_ | refine' o_pow6 ?_ | refine' o_pow9 ?_ | refine' o_pow10 ?_ | refine' o_pow12 ?_ | refine' o_pow15 ?_ | refine' o_pow20 ?_ | refine' e_lst ?_ | refine' e_tup ?_ | refine' iteT ?_ | refine' i_nt ?_ | refine' i_nf ?_ | refine' iteF ?_ | refine' c_int ?_ | refine' c_abs ?_ | refine' c_min2 ?_ | refine' c_max2 ?_ | refine' e_tru ?_ | refine' t_bl ?_ | refine' t_non ?_ | refine' t_int ?_ | refine' isN_non ?_ | refine' isN_int ?_ | refine' isN_ref ?_ | refine' isN_str ?_ | refine' isN_bl ?_ | refine' noN_non ?_ | refine' noN_int ?_ | refine' noN_ref ?_ | refine' noN_str ?_ | refine' noN_bl ?_
  | refine' s_brk ?_ | refine' s_cont ?_ | refine' s_for ?_ | refine' e_lc ?_ | refine' e_dc ?_ | refine' e_yes ?_ | refine' i_rng1 ?_ | refine' i_lst0 ?_ | refine' i_tup0 ?_ | refine' e_bm ?_ | refine' e_sl ?_ | refine' e_np ?_ | refine' e_pt ?_ | refine' e_ptI ?_ | refine' e_din ?_ | refine' e_dnin ?_ | refine' e_methE ?_ | refine' p_cons ?_ | refine' p_nil ?_ | refine' s_dput ?_ | refine' e_dget2 ?_ | refine' e_dpop1 ?_ | refine' i_enum0 ?_ | refine' i_rev0 ?_ | refine' g_sub ?_ | refine' s_asg ?_ | refine' i_zip0 ?_ | refine' e_revT ?_ | refine' isB_bl ?_ | refine' notB_bl ?_ | refine' o_neB ?_ | refine' i_nrr ?_ | refine' e_meth ?_ | refine' s_setf ?_ | refine' e_fld ?_ | refine' e_bm0 ?_ | refine' r_tx ?_ | refine' o_eqStr ?_ | refine' o_neStr ?_)
local macro_rules | `(tactic| walk_at "v") => `(tactic| ((with_reducible refine' e_var ?hv ?_); (case hv => exact rfl)))
local macro_rules | `(tactic| walk_at "a") => `(tactic| ((with_reducible refine' s_aug ?hv ?_); (case hv => exact rfl)))
local macro_rules | `(tactic| walk_at "m") => `(tactic| first
  | ((with_reducible refine' o_mod ?hv ?_); (case hv => first | decide | omega))
  | ((with_reducible refine' o_mulR ?hv ?_); (case hv => omega))
  | ((with_reducible refine' o_mulL ?hv ?_); (case hv => omega))
  | ((with_reducible refine' o_div ?hv ?hw ?_); (case hv => omega); (case hw => omega))
  | ((with_reducible refine' o_pow _ ?hv ?hw ?hx ?_); (case hv => exact rfl); (case hw => decide); (case hx => decide)))
local macro_rules | `(tactic| walk_at "i") => `(tactic| (first
  | ((with_reducible refine' isi_int true ?hv ?_); (case hv => exact (by decide +kernel)))
  | ((with_reducible refine' isi_int false ?hv ?_); (case hv => exact (by decide +kernel)))
  | ((with_reducible refine' isi_non true ?hv ?_); (case hv => exact (by decide +kernel)))
  | ((with_reducible refine' isi_non false ?hv ?_); (case hv => exact (by decide +kernel)))
  | ((with_reducible refine' isi_str true ?hv ?_); (case hv => exact (by decide +kernel)))
  | ((with_reducible refine' isi_str false ?hv ?_); (case hv => exact (by decide +kernel)))
  | ((with_reducible refine' isi_bl true ?hv ?_); (case hv => exact (by decide +kernel)))
  | ((with_reducible refine' isi_bl false ?hv ?_); (case hv => exact (by decide +kernel)))
  | ((with_reducible refine' isi_t true ?hw ?hv ?_); (case hw => assumption); (case hv => exact (by decide +kernel)))
  | ((with_reducible refine' isi_t false ?hw ?hv ?_); (case hw => assumption); (case hv => exact (by decide +kernel)))
  | ((with_reducible refine' isi_l true ?hw ?hv ?_); (case hw => assumption); (case hv => exact (by decide +kernel)))
  | ((with_reducible refine' isi_l false ?hw ?hv ?_); (case hw => assumption); (case hv => exact (by decide +kernel)))
  | ((with_reducible refine' isi_tup true ?hw ?hv ?_); (case hw => assumption); (case hv => exact (by decide +kernel)))
  | ((with_reducible refine' isi_tup false ?hw ?hv ?_); (case hw => assumption); (case hv => exact (by decide +kernel)))
  | ((with_reducible refine' isi_lst true ?hw ?hv ?_); (case hw => assumption); (case hv => exact (by decide +kernel)))
  | ((with_reducible refine' isi_lst false ?hw ?hv ?_); (case hw => assumption); (case hv => exact (by decide +kernel)))))
local macro_rules | `(tactic| walk_at "om") => `(tactic| first | omega | (simp only [List.length_cons, List.length_nil, List.length_map, List.length_append, List.length_range]; omega))
local macro_rules | `(tactic| walk_at "d") => `(tactic| (first
  | ((with_reducible refine' i_dt ?hv ?_); (case hv => walk_at "om"))
  | ((with_reducible refine' i_df ?hv ?_); (case hv => walk_at "om"))
  | ((with_reducible refine' i_ndt ?hv ?_); (case hv => walk_at "om"))
  | ((with_reducible refine' i_ndf ?hv ?_); (case hv => walk_at "om"))))
local macro_rules | `(tactic| walk_at "x") => `(tactic| first
  | ((with_reducible refine' o_ixA ?hv ?hw ?_); (case hv => assumption); (case hw => exact rfl))
  | ((with_reducible refine' o_ixU ?hv ?hw ?_); (case hv => assumption); (case hw => exact rfl))
  | ((with_reducible refine' o_ixL ?hv ?hw ?_); (case hv => assumption); (case hw => exact rfl))
  | ((with_reducible refine' o_ixT ?hv ?hw ?_); (case hv => assumption); (case hw => exact rfl))
  | ((with_reducible refine' set_ ?hv ?hw ?_); (case hv => assumption); (case hw => exact rfl))
  | ((with_reducible refine' e_lenM ?hv ?_); (case hv => first | assumption | exact slO (by assumption)))
  | ((with_reducible refine' e_lenN ?hv ?_); (case hv => first | assumption | exact stO (by assumption)))
  | ((with_reducible refine' e_lenL ?hv ?_); (case hv => first | assumption | exact slO (by assumption)))
  | ((with_reducible refine' e_lenT ?hv ?_); (case hv => first | assumption | exact stO (by assumption))))
local macro_rules | `(tactic| walk_at "c") => `(tactic| first
  | ((with_reducible refine' c_listL ?hv ?_); (case hv => assumption))
  | ((with_reducible refine' c_listT ?hv ?_); (case hv => assumption))
  | ((with_reducible refine' c_tupL ?hv ?_); (case hv => first | assumption | exact slO (by assumption)))
  | ((with_reducible refine' c_tupT ?hv ?_); (case hv => assumption))
  | ((with_reducible refine' t_lst ?hv ?_); (case hv => first | assumption | exact slO (by assumption)))
  | ((with_reducible refine' t_tup ?hv ?_); (case hv => assumption))
  | ((with_reducible refine' r_sl ?hv ?_); (case hv => first | assumption | exact slO (by assumption)))
  | ((with_reducible refine' o_inL ?hv ?_); (case hv => first | assumption | exact slO (by assumption)))
  | ((with_reducible refine' o_inT ?hv ?_); (case hv => first | assumption | exact stO (by assumption)))
  | ((with_reducible refine' o_niL ?hv ?_); (case hv => first | assumption | exact slO (by assumption)))
  | ((with_reducible refine' o_niT ?hv ?_); (case hv => first | assumption | exact stO (by assumption)))
  | ((with_reducible refine' ty_lst ?hv ?_); (case hv => assumption)))
local macro_rules | `(tactic| walk_at "mo") => `(tactic| repeat' (first | exact m_yes | exact m_var | exact m_c | exact m_I0 | exact m_I | exact m_ix | exact m_add | exact m_in | exact m_int1 | exact m_abs | exact m_nil | refine' m_and ?_ ?_ | refine' m_test ?_ | refine' m_tB ?_ | refine' m_op ?_ ?_ ?_ | refine' m_cons ?_ ?_ | refine' m_cb ?_ ?_))
local macro_rules | `(tactic| walk_at "go") => `(tactic| repeat' (first | walk_at "s" | walk_at "v" | walk_at "a" | walk_at "x" | walk_at "m" | walk_at "c" | walk_at "i" | walk_at "d"))

section
variable {P : Program} {w : World} {K : PySem.W.Frag} {mg : Str → Option Value} {base : Heap}
theorem len_le_of_sub {α : Type} [DecidableEq α] : ∀ {l L : List α}, l.Nodup → (∀ x ∈ l, x ∈ L) → l.length ≤ L.length
  | [], L, _, _ => Nat.zero_le _
  | a :: l, L, h, s => by
    obtain ⟨h1, h2⟩ := List.nodup_cons.mp h
    have ha := s a (by simp)
    have : l.length ≤ (L.erase a).length := len_le_of_sub h2 fun x hx => by
      have : x ≠ a := fun z => h1 (z ▸ hx)
      exact (List.mem_erase_of_ne this).mpr (s x (List.mem_cons_of_mem _ hx))
    rw [List.length_erase_of_mem ha] at this
    have := List.length_pos_of_mem ha
    simp only [List.length_cons]; omega
theorem asc_ext : ∀ {l m : List Int}, l.Pairwise (· < ·) → m.Pairwise (· < ·) → (∀ x, x ∈ l ↔ x ∈ m) → l = m
  | [], [], _, _, _ => rfl
  | [], b :: m, _, _, h => absurd ((h b).mpr (by simp)) (by simp)
  | a :: l, [], _, _, h => absurd ((h a).mp (by simp)) (by simp)
  | a :: l, b :: m, h1, h2, h => by
    obtain ⟨p1, q1⟩ := List.pairwise_cons.mp h1
    obtain ⟨p2, q2⟩ := List.pairwise_cons.mp h2
    have e : a = b := by
      rcases List.mem_cons.mp ((h a).mp (by simp)) with z | z
      · exact z
      · rcases List.mem_cons.mp ((h b).mpr (by simp)) with y | y
        · exact y.symm
        · have := p2 a z; have := p1 b y; omega
    subst e
    rw [asc_ext q1 q2 fun x => ?_]
    refine ⟨fun z => ?_, fun z => ?_⟩
    · rcases List.mem_cons.mp ((h x).mp (List.mem_cons_of_mem _ z)) with y | y
      · have := p1 x z; omega
      · exact y
    · rcases List.mem_cons.mp ((h x).mpr (List.mem_cons_of_mem _ z)) with y | y
      · have := p2 x z; omega
      · exact y
theorem asc_of {l : List Int} (h1 : l.Pairwise (· ≤ ·)) (h2 : l.Nodup) : l.Pairwise (· < ·) := by
  refine (h1.and h2).imp fun {a b} h => ?_
  have h3 : a ≠ b := h.2
  have := h.1
  omega
theorem lotB_of {ns : List Int} (h0 : ∀ n ∈ ns, 0 ≤ n) (h : ns.Pairwise (· < ·)) : lotB ns = true := by
  unfold lotB
  rw [Bool.and_eq_true]
  refine ⟨List.all_eq_true.mpr fun n hn => decide_eq_true (h0 n hn), ?_⟩
  unfold ascB
  rw [List.all_map]
  refine List.all_eq_true.mpr fun k hk => ?_
  have hk := List.mem_range.mp hk
  show ascF ns k = true
  unfold ascF
  refine decide_eq_true ?_
  rw [List.getD_eq_getElem?_getD, List.getD_eq_getElem?_getD, List.getElem?_eq_getElem (by omega), List.getElem?_eq_getElem (by omega)]
  exact List.pairwise_iff_getElem.mp h k (k + 1) (by omega) (by omega) (by omega)
/-- the blocks for which something waits -/
structure Wt (S : SD) (ns : List Int) : Prop where
  asc : ns.Pairwise (· < ·)
  mem : ∀ b, b ∈ ns ↔ S.rows b ≠ []
theorem Wt.uniq {S : SD} {ns ms : List Int} (a : Wt S ns) (b : Wt S ms) : ns = ms := asc_ext a.asc b.asc fun x => (a.mem x).trans (b.mem x).symm
def Few (S : SD) : Prop := ∃ L : List Int, L.length < 64 ∧ ∀ b, S.rows b ≠ [] → b ∈ L
theorem rows_mem {C p : Addr} {H : Hp} {D : Dsk} {S : SD} (h : DiskAt C H p D) (v : RowsAt K H D.rows S.rows) (b : Int) : b ∈ D.rows.map (·.1) ↔ S.rows b ≠ [] := by
  refine ⟨fun m => ?_, fun n => ?_⟩
  · obtain ⟨r, hr, e⟩ := List.mem_map.mp m
    cases q : D.rows.find? (fun r => decide (r.1 = b)) with
    | none => exact absurd (decide_eq_true e) (List.find?_eq_none.mp q r hr)
    | some r2 =>
      have tu := v.som q
      have n2 := (h.hr r2 (List.mem_of_find?_eq_some q)).2
      intro z
      rw [z] at tu
      exact n2 (List.length_eq_zero_iff.mp tu.1)
  · obtain ⟨r, _, hm, hk, _⟩ := v.there n
    exact List.mem_map.mpr ⟨r, hm, hk⟩
theorem wt_of {C p : Addr} {H : Hp} {D : Dsk} {S : SD} (h : DiskAt C H p D) (v : RowsAt K H D.rows S.rows) {ys : List Int} (p1 : ys.Perm (D.rows.map (·.1))) (p2 : ys.Pairwise (· ≤ ·)) : Wt S ys :=
  ⟨asc_of p2 (p1.nodup_iff.mpr h.kd), fun b => (p1.mem_iff).trans (rows_mem h v b)⟩
theorem few_of {C p : Addr} {H : Hp} {D : Dsk} {S : SD} (h : DiskAt C H p D) (v : RowsAt K H D.rows S.rows) (f : Few S) : (D.rows.map (·.1)).length < 64 := by
  obtain ⟨L, hl, hL⟩ := f
  have := len_le_of_sub h.kd (L := L) fun x hx => hL x ((rows_mem h v x).mp hx)
  omega
def waitKvs (S : SD) (ns : List Int) : List (Key × V) := ns.map fun b => ((Sum.inl b : Key), V.int ((S.rows b).length : Nat))
def sp_waiting (K : PySem.W.Frag) (C : Addr) : Sp := fun vs H Q E => ∃ p F S, vs = [.ref p] ∧ DS K C H p F S ∧ Few S ∧ (∀ b, (S.rows b).length < 1000) ∧ ∀ ns q H', Wt S ns → Same H H' → H q = none → H' q = some (.dK (waitKvs S ns)) → Q (.ref q) H'
theorem ok_Disk_waiting (T : Txt K mg) : FnOk P w K mg base CX0 1 T.m_Disk_waiting.f T.m_Disk_waiting.fd ["self"] ((sp_waiting K T.C_Disk)) := by
  refine T.m_Disk_waiting.F.ok sc_Disk_waiting (fun vs H Q E h => ?_) (fun cdv A outer s H vs Q E hr h => ?_)
  · obtain ⟨p, F, S, rfl, _⟩ := h
    rfl
  · obtain ⟨p, F, S, rfl, hS, hf, hc, k⟩ := h
    refine ⟨_, (pss_one (ps_ret (pe_dc (own := [("block", 1)]) rfl sc_Disk_waiting.nd (piL (K := K) (pe_callB (call_sortedDI rfl) (by rfl) T.z_sorted (by decide +kernel) (pa_cons (peFld (K := K) (pv 0) rfl) pa_nil))) (blkOk_by (N := n_Disk_waiting) (sc := defScope s_Disk_waiting) (by decide +kernel)) (fun _ _ _ _ _ => (pg_name (i := 1) sc_Disk_waiting.nd rfl (Or.inl rfl))) (fun _ _ _ _ _ => pts_nil) (fun _ _ _ _ _ => (pv 1)) (fun _ _ _ _ _ => (pe_callB (cLen (K := K)) (by rfl) T.z_len PySem.boot_len (pa_cons (pe_dget (hu_of hr) (peFld (K := K) (pv 0) rfl) (pv 1) (fun _ _ => rfl)) pa_nil)))))), ?_⟩
    obtain ⟨D, hD, eF, v⟩ := id hS
    walk_at "go"
    refine o_fld hD.ob T.k_Disk.cl T.n_Disk__waits (df_w _ _ _ _) ?_
    walk_at "go"
    have fw := few_of hD v.rv hf
    refine ⟨D.w, _, D.rows.map (·.1), rfl, .inl hD.hw, by rw [List.map_map, List.map_map]; rfl, fw, fun ys l p1 p2 nl => ?_⟩
    have W := wt_of hD v.rv p1 p2
    have s1 : Same H (upd H l (.lst (ys.map V.int))) := Same.new nl
    have hl : upd H l (.lst (ys.map V.int)) l = some (.lst (ys.map V.int)) := upd_same
    generalize upd H l (.lst (ys.map V.int)) = H1 at *
    have yl : ys.length < 64 := by rw [p1.length_eq]; exact fw
    walk_at "go"
    refine i_lst (slO hl) ?_
    refine d_it (walk_list (xs := ys.map V.int)) (fun i acc H2 => Same H1 H2 ∧ acc = waitKvs S (ys.take i)) (fun q hq => ⟨upd_free (Same.refl _) hq, rfl⟩) (fun i acc H2 hi q => slO (at_ q.1 hl)) (fun acc q H2 nq hq z => ?_) (fun i x acc H2 H3 q hi nq hq z y => ?_)
    · obtain ⟨s2, rfl⟩ := z
      rw [List.length_map, List.take_length] at hq
      walk_at "go"
      exact k ys q H2 W (s1.trans s2) (free_ s1 nq) hq
    · obtain ⟨s2, rfl⟩ := z
      obtain ⟨rfl, hx⟩ := y
      have hi : i < ys.length := by simpa using hi
      have ex : x = .int ys[i] := by
        rw [List.getElem?_map, List.getElem?_eq_getElem hi] at hx
        exact (Option.some.inj hx).symm
      subst ex
      have hn := (W.mem ys[i]).mp (List.getElem_mem hi)
      have hD2 := hD.same (s1.trans s2)
      obtain ⟨r, ef, hm, hk, tu⟩ := v.rv.there hn
      have hr2 := hD2.hr r hm
      refine ⟨rfl, ?_⟩
      walk_at "go"
      refine e_dget ?_
      walk_at "go"
      refine o_fld hD2.ob T.k_Disk.cl T.n_Disk__waits (df_w _ _ _ _) ?_
      walk_at "go"
      refine o_dget (k := Sum.inl ys[i]) hD2.hw (by rw [val_row, ef]; rfl) ?_
      have hsl := slO (K := K) hr2.1
      walk_at "go"
      refine dgot_ (k := Sum.inl ys[i]) (P := fun acc H => Same H1 H ∧ acc = waitKvs S (ys.take (i + 1))) hq (by unfold waitKvs; rw [List.length_map, List.length_take]; omega) ⟨upd_free s2 nq, ?_⟩
      rw [putK_new]
      · unfold waitKvs
        rw [List.take_add_one, List.getElem?_eq_getElem hi, List.map_append, tu.1]
        rfl
      · unfold waitKvs valV
        rw [List.find?_map, Option.map_map]
        have e0 : (List.take i ys).find? ((fun kv : Key × V => decide (kv.1 = Sum.inl ys[i])) ∘ fun b => ((Sum.inl b : Key), V.int ((S.rows b).length : Nat))) = none := by
          refine List.find?_eq_none.mpr fun b hb z => ?_
          have e1 : b = ys[i] := Sum.inl.inj (of_decide_eq_true z)
          obtain ⟨j, hj, e2⟩ := List.getElem_of_mem hb
          rw [List.length_take] at hj
          rw [List.getElem_take] at e2
          have := List.pairwise_iff_getElem.mp W.asc j i (by omega) hi (by omega)
          omega
        rw [e0]; rfl
end
end Vw

set_option Elab.async false
set_option linter.all false
set_option maxRecDepth 100000
set_option maxHeartbeats 4000000
namespace Vw
open PySem PySem.Spec PyProof.Rows L2 RT
local macro_rules | `(tactic| walk_at "s") => `(tactic| with_reducible first
  | refine' s_seq ?_ | refine' s_next ?_ | refine' s_set ?_ | refine' s_ret ?_ | refine' s_retN ?_ | refine' s_drop ?_ | refine' s_if ?_ | refine' s_ipI ?_
  | refine' e_c ?_ | refine' e_op ?_ | refine' e_un ?_ | refine' e_neg ?_ | refine' e_test ?_ | refine' e_tB ?_ | refine' e_bl ?_ | refine' e_and ?_ | refine' e_or ?_ | refine' e_not ?_
  | refine' e_andV ?_ | refine' e_orV ?_ | refine' e_notV ?_ | refine' e_kV ?_ | refine' e_ife ?_ | refine' e_nil ?_ | refine' e_cons ?_ | refine' e_cb ?_ | refine' e_call ?_ | refine' e_chain ?_
  | refine' o_addI ?_ | refine' o_eqI ?_ | refine' o_neI ?_ | refine' o_I0 ?_ | refine' o_pow16 ?_ | refine' o_pow17 ?_ | refine' o_pow18 ?_ | refine' o_pow19 ?_ | refine' o_pow30 ?_ | refine' o_pow31 ?_ | refine' o_pow1 ?_ | refine' o_pow2 ?_ | refine' o_pow3 ?_ | refine' o_pow4 ?_ | refine' o_pow5 ?_ | refine' o_pow6 ?_ | refine' o_pow9 ?_ | refine' o_pow10 ?_ | refine' o_pow12 ?_ | refine' o_pow15 ?_ | refine' o_pow20 ?_ | refine' e_lst ?_ | refine' e_tup ?_ | refine' iteT ?_ | refine' i_nt ?_ | refine' i_nf ?_ | refine' iteF ?_ | refine' c_int ?_ | refine' c_abs ?_ | refine' c_min2 ?_ | refine' c_max2 ?_ | refine' e_tru ?_ | refine' t_bl ?_ | refine' t_non ?_ | refine' t_int ?_ | refine' isN_non ?_ | refine' isN_int ?_ | refine' isN_ref ?_ | refine' isN_str ?_ | refine' isN_bl ?_ | refine' noN_non ?_ | refine' noN_int ?_ | refine' noN_ref ?_ | refine' noN_str ?_ | refine' noN_bl ?_
  | refine' s_brk ?_ | refine' s_cont ?_ | refine' s_for ?_ | refine' e_lc ?_ | refine' e_dc ?_ | refine' e_yes ?_ | refine' i_rng1 ?_ | refine' i_lst0 ?_ | refine' i_tup0 ?_ | refine' e_bm ?_ | refine' e_sl ?_ | refine' e_np ?_ | refine' e_pt ?_ | refine' e_ptI ?_ | refine' e_din ?_ | refine' e_dnin ?_ | refine' e_methE ?_ | refine' p_cons ?_ | refine' p_nil ?_ | refine' s_dput ?_ | refine' e_dget2 ?_ | refine' e_dpop1 ?_ | refine' i_enum0 ?_ | refine' i_rev0 ?_ | refine' g_sub ?_ | refine' s_asg ?_ | refine' i_zip0 ?_ | refine' e_revT ?_ | refine' isB_bl ?_ | refine' notB_bl ?_ | refine' o_neB ?_ | refine' i_nrr ?_ | refine' e_meth ?_ | refine' s_setf ?_ | refine' e_fld ?_ | refine' e_bm0 ?_ | refine' r_tx ?_ | refine' o_eqStr ?_ | refine' o_neStr ?_)
local macro_rules | `(tactic| walk_at "v") => `(tactic| ((with_reducible refine' e_var ?hv ?_); (case hv => exact rfl)))
local macro_rules | `(tactic| walk_at "a") => `(tactic| ((with_reducible refine' s_aug ?hv ?_); (case hv => exact rfl)))
local macro_rules | `(tactic| walk_at "m") => `(tactic| first
  | ((with_reducible refine' o_mod ?hv ?_); (case hv => first | decide | omega))
  | ((with_reducible refine' o_mulR ?hv ?_); (case hv => omega))
  | ((with_reducible refine' o_mulL ?hv ?_); (case hv => omega))
  | ((with_reducible refine' o_div ?hv ?hw ?_); (case hv => omega); (case hw => omega))
  | ((with_reducible refine' o_pow _ ?hv ?hw ?hx ?_); (case hv => exact rfl); (case hw => decide); (case hx => decide)))
local macro_rules | `(tactic| walk_at "i") => `(tactic| (first
  | ((with_reducible refine' isi_int true ?hv ?_); (case hv => exact (by decide +kernel)))
  | ((with_reducible refine' isi_int false ?hv ?_); (case hv => exact (by decide +kernel)))
  | ((with_reducible refine' isi_non true ?hv ?_); (case hv => exact (by decide +kernel)))
  | ((with_reducible refine' isi_non false ?hv ?_); (case hv => exact (by decide +kernel)))
  | ((with_reducible refine' isi_str true ?hv ?_); (case hv => exact (by decide +kernel)))
  | ((with_reducible refine' isi_str false ?hv ?_); (case hv => exact (by decide +kernel)))
  | ((with_reducible refine' isi_bl true ?hv ?_); (case hv => exact (by decide +kernel)))
  | ((with_reducible refine' isi_bl false ?hv ?_); (case hv => exact (by decide +kernel)))
  | ((with_reducible refine' isi_t true ?hw ?hv ?_); (case hw => assumption); (case hv => exact (by decide +kernel)))
  | ((with_reducible refine' isi_t false ?hw ?hv ?_); (case hw => assumption); (case hv => exact (by decide +kernel)))
  | ((with_reducible refine' isi_l true ?hw ?hv ?_); (case hw => assumption); (case hv => exact (by decide +kernel)))
  | ((with_reducible refine' isi_l false ?hw ?hv ?_); (case hw => assumption); (case hv => exact (by decide +kernel)))
  | ((with_reducible refine' isi_tup true ?hw ?hv ?_); (case hw => assumption); (case hv => exact (by decide +kernel)))
  | ((with_reducible refine' isi_tup false ?hw ?hv ?_); (case hw => assumption); (case hv => exact (by decide +kernel)))
  | ((with_reducible refine' isi_lst true ?hw ?hv ?_); (case hw => assumption); (case hv => exact (by decide +kernel)))
  | ((with_reducible refine' isi_lst false ?hw ?hv ?_); (case hw => assumption); (case hv => exact (by decide +kernel)))))
local macro_rules | `(tactic| walk_at "om") => `(tactic| first | omega | (simp only [List.length_cons, List.length_nil, List.length_map, List.length_append, List.length_range]; omega))
local macro_rules | `(tactic| walk_at "d") => `(tactic| (first
  | ((with_reducible refine' i_dt ?hv ?_); (case hv => walk_at "om"))
  | ((with_reducible refine' i_df ?hv ?_); (case hv => walk_at "om"))
  | ((with_reducible refine' i_ndt ?hv ?_); (case hv => walk_at "om"))
  | ((with_reducible refine' i_ndf ?hv ?_); (case hv => walk_at "om"))))
local macro_rules | `(tactic| walk_at "x") => `(tactic| first
  | ((with_reducible refine' o_ixA ?hv ?hw ?_); (case hv => assumption); (case hw => exact rfl))
  | ((with_reducible refine' o_ixU ?hv ?hw ?_); (case hv => assumption); (case hw => exact rfl))
  | ((with_reducible refine' o_ixL ?hv ?hw ?_); (case hv => assumption); (case hw => exact rfl))
  | ((with_reducible refine' o_ixT ?hv ?hw ?_); (case hv => assumption); (case hw => exact rfl))
  | ((with_reducible refine' set_ ?hv ?hw ?_); (case hv => assumption); (case hw => exact rfl))
  | ((with_reducible refine' e_lenM ?hv ?_); (case hv => first | assumption | exact slO (by assumption)))
  | ((with_reducible refine' e_lenN ?hv ?_); (case hv => first | assumption | exact stO (by assumption)))
  | ((with_reducible refine' e_lenL ?hv ?_); (case hv => first | assumption | exact slO (by assumption)))
  | ((with_reducible refine' e_lenT ?hv ?_); (case hv => first | assumption | exact stO (by assumption))))
local macro_rules | `(tactic| walk_at "c") => `(tactic| first
  | ((with_reducible refine' c_listL ?hv ?_); (case hv => assumption))
  | ((with_reducible refine' c_listT ?hv ?_); (case hv => assumption))
  | ((with_reducible refine' c_tupL ?hv ?_); (case hv => first | assumption | exact slO (by assumption)))
  | ((with_reducible refine' c_tupT ?hv ?_); (case hv => assumption))
  | ((with_reducible refine' t_lst ?hv ?_); (case hv => first | assumption | exact slO (by assumption)))
  | ((with_reducible refine' t_tup ?hv ?_); (case hv => assumption))
  | ((with_reducible refine' r_sl ?hv ?_); (case hv => first | assumption | exact slO (by assumption)))
  | ((with_reducible refine' o_inL ?hv ?_); (case hv => first | assumption | exact slO (by assumption)))
  | ((with_reducible refine' o_inT ?hv ?_); (case hv => first | assumption | exact stO (by assumption)))
  | ((with_reducible refine' o_niL ?hv ?_); (case hv => first | assumption | exact slO (by assumption)))
  | ((with_reducible refine' o_niT ?hv ?_); (case hv => first | assumption | exact stO (by assumption)))
  | ((with_reducible refine' ty_lst ?hv ?_); (case hv => assumption)))
local macro_rules | `(tactic| walk_at "mo") => `(tactic| repeat' (first | exact m_yes | exact m_var | exact m_c | exact m_I0 | exact m_I | exact m_ix | exact m_add | exact m_in | exact m_int1 | exact m_abs | exact m_nil | refine' m_and ?_ ?_ | refine' m_test ?_ | refine' m_tB ?_ | refine' m_op ?_ ?_ ?_ | refine' m_cons ?_ ?_ | refine' m_cb ?_ ?_))
local macro_rules | `(tactic| walk_at "go") => `(tactic| repeat' (first | walk_at "s" | walk_at "v" | walk_at "a" | walk_at "x" | walk_at "m" | walk_at "c" | walk_at "i" | walk_at "d"))

section
variable {P : Program} {w : World} {K : PySem.W.Frag} {mg : Str → Option Value} {base : Heap}
/-! ### the law's book -/
def bkv (D : Dsk) : List (Key × V) := [(Sum.inr "lying", .ref D.l), (Sum.inr "waits", .ref D.w), (Sum.inr "power", pwV D.pw), (Sum.inr "reached", .int D.rc)]
section
variable (D : Dsk) (v : V) (i : Int) (m : Option Int) (a : Addr)
theorem bkv_l : valV (bkv D) (Sum.inr "lying") = some (.ref D.l) := rfl
theorem bkv_w : valV (bkv D) (Sum.inr "waits") = some (.ref D.w) := rfl
theorem bkv_p : valV (bkv D) (Sum.inr "power") = some (pwV D.pw) := rfl
theorem bkv_r : valV (bkv D) (Sum.inr "reached") = some (.int D.rc) := rfl
theorem bkv_pp : putK (bkv D) (Sum.inr "power") (pwV m) = bkv { D with pw := m } := rfl
theorem bkv_pr : putK (bkv D) (Sum.inr "reached") (.int i) = bkv { D with rc := i } := rfl
theorem bkv_pw : putK (bkv D) (Sum.inr "waits") (.ref a) = bkv { D with w := a } := rfl
end
structure BookAt (H : Hp) (p : Addr) (D : Dsk) : Prop where
  ob : H p = some (.dK (bkv D))
  hl : H D.l = some (.lst (D.lies.map V.ref))
  hw : H D.w = some (.dK (kvs_of D.rows))
  hr : ∀ r ∈ D.rows, H r.2.1 = some (.lst (r.2.2.map V.ref)) ∧ r.2.2 ≠ []
  nd : (D.rows.map (·.2.1)).Nodup
  kd : (D.rows.map (·.1)).Nodup
  pw : p ≠ D.w
  lr : D.l ∉ D.rows.map (·.2.1)
def BS (K : PySem.W.Frag) (H : Hp) (p : Addr) (F : List Addr) (S : SD) : Prop := ∃ D, BookAt H p D ∧ F = D.foot p ∧ Sees K H D S
theorem BookAt.mut {p : Addr} {H : Hp} {D : Dsk} (h : BookAt H p D) : ∀ a ∈ D.foot p, ∀ o, H a = some o → muT o = false := fun a m o e => by
  unfold Dsk.foot at m
  rcases List.mem_cons.mp m with z | m
  · subst z; rw [h.ob] at e; cases e; rfl
  rcases List.mem_cons.mp m with z | m
  · subst z; rw [h.hl] at e; cases e; rfl
  rcases List.mem_cons.mp m with z | m
  · subst z; rw [h.hw] at e; cases e; rfl
  · obtain ⟨r, hr, z⟩ := List.mem_map.mp m
    subst z; rw [(h.hr r hr).1] at e; cases e; rfl
theorem BookAt.there {p : Addr} {H : Hp} {D : Dsk} (h : BookAt H p D) : ∀ a ∈ D.foot p, H a ≠ none := fun a m e => by
  unfold Dsk.foot at m
  rcases List.mem_cons.mp m with z | m
  · subst z; rw [h.ob] at e; cases e
  rcases List.mem_cons.mp m with z | m
  · subst z; rw [h.hl] at e; cases e
  rcases List.mem_cons.mp m with z | m
  · subst z; rw [h.hw] at e; cases e
  · obtain ⟨r, hr, z⟩ := List.mem_map.mp m
    subst z; rw [(h.hr r hr).1] at e; cases e
theorem BookAt.ch {p : Addr} {F : List Addr} {H H' : Hp} {D : Dsk} (h : BookAt H p D) (s : Ch F H H') (n : ∀ a ∈ D.foot p, a ∉ F) : BookAt H' p D := by
  refine ⟨s.at_ (n p (by unfold Dsk.foot; simp)) h.ob, s.at_ (n _ (by unfold Dsk.foot; simp)) h.hl, s.at_ (n _ (by unfold Dsk.foot; simp)) h.hw, fun r hr => ⟨s.at_ (n _ ?_) (h.hr r hr).1, (h.hr r hr).2⟩, h.nd, h.kd, h.pw, h.lr⟩
  unfold Dsk.foot
  exact List.mem_cons_of_mem _ (List.mem_cons_of_mem _ (List.mem_cons_of_mem _ (List.mem_map.mpr ⟨r, hr, rfl⟩)))
theorem BS.ch {p : Addr} {F G : List Addr} {H H' : Hp} {S : SD} (h : BS K H p F S) (s : Ch G H H') (n : ∀ a ∈ F, a ∉ G) : BS K H' p F S := by
  obtain ⟨D, h1, rfl, h2⟩ := h
  exact ⟨D, h1.ch s n, rfl, h2.ch s⟩
theorem BS.same {p : Addr} {F : List Addr} {H H' : Hp} {S : SD} (h : BS K H p F S) (s : Same H H') : BS K H' p F S := h.ch (G := []) (Ch.of_same s) (by simp)
theorem BS.there {p : Addr} {F : List Addr} {H : Hp} {S : SD} (h : BS K H p F S) : ∀ a ∈ F, H a ≠ none := by
  obtain ⟨D, h1, rfl, h2⟩ := h
  exact h1.there
theorem BS.mut {p : Addr} {F : List Addr} {H : Hp} {S : SD} (h : BS K H p F S) : ∀ a ∈ F, ∀ o, H a = some o → muT o = false := by
  obtain ⟨D, h1, rfl, h2⟩ := h
  exact h1.mut
/-! ### contents -/
def ctSome (r : Int) : List V := [.int 0, .int 1, .int (-7), .int 1000000000000000000000000000000, .int (-1000000000000000000000000000000), .str "", .str "a", .str "abcdefghijkl", .int r]
theorem ctSome_ok {r : Int} (r0 : 0 ≤ r) (r1 : r < 1000) (x : V) (h : x ∈ ctSome r) : smallV x = true ∧ itemB x = true := by
  unfold ctSome at h
  simp only [List.mem_cons, List.not_mem_nil, or_false] at h
  rcases h with z | z | z | z | z | z | z | z | z <;> subst z
  · exact ⟨rfl, by decide +kernel⟩
  · exact ⟨rfl, by decide +kernel⟩
  · exact ⟨rfl, by decide +kernel⟩
  · exact ⟨rfl, by decide +kernel⟩
  · exact ⟨rfl, by decide +kernel⟩
  · exact ⟨by decide +kernel, by decide +kernel⟩
  · exact ⟨by decide +kernel, by decide +kernel⟩
  · exact ⟨by decide +kernel, by decide +kernel⟩
  · refine ⟨rfl, ?_⟩
    unfold itemB
    rw [show within (.int r) (-1000000000000000000000000000000) 1000000000000000000000000000000 = true by simp [within]; omega, Bool.or_true]
def sp_content (K : PySem.W.Frag) : Sp := fun vs H Q _ => ∃ B : Bg, vs = [.ref B.hd] ∧ BagAt K H B ∧ ∀ p xs H', CtOk xs → SqT K H' p xs → Hs K B H H' → Q (.ref p) H'
theorem ok_law_content (T : Txt K mg) : FnOk P w K mg base CX0 3 T.law_content.f T.law_content.fd ["hand"] (sp_content K) := by
  refine T.law_content.F.ok sc_law_content (fun vs H Q E h => ?_) (fun cdv A outer s H vs Q E hr h => ?_)
  · obtain ⟨B, rfl, _⟩ := h
    rfl
  · obtain ⟨B, rfl, hB, k⟩ := h
    refine ⟨_, (pss_cons (ps_set (i := 1) sc_law_content.nd rfl (Or.inr rfl) (pe_lst (pa_cons pe_int (pa_cons pe_int (pa_cons (pe_un un_neg pe_int) (pa_cons (pe_op op_pow pe_int pe_int) (pa_cons (pe_un un_neg (pe_op op_pow pe_int pe_int)) (pa_cons pe_str (pa_cons pe_str (pa_cons pe_str (pa_cons (pe_call (ok_law_draw T) (hr.mono (by decide)) (by rfl) T.law_draw.g T.law_draw.F.kp T.law_draw.b .nil pass0 (pa_cons (pv 0) (pa_cons pe_int pa_nil))) pa_nil)))))))))))
    (pss_cons (ps_set (i := 2) sc_law_content.nd rfl (Or.inl rfl) (pe_call (ok_law_any T) (hr.mono (by decide)) (by rfl) T.law_any.g T.law_any.F.kp T.law_any.b .nil pass0 (pa_cons (pv 0) (pa_cons (pe_lst (pa_cons pe_int (pa_cons pe_int (pa_cons pe_int (pa_cons pe_int (pa_cons pe_int (pa_cons pe_int pa_nil))))))) pa_nil))))
    (pss_one (ps_ret (pe_callTy (cTupOf (K := K)) (by rfl) T.z_tuple (by decide +kernel) (pa_cons (pe_lc (own := [("item", 3)]) rfl sc_law_content.nd (pi_range1 (by rfl) T.z_range (pa_cons (pv 2) pa_nil)) (blkOk_by (N := n_law_content) (sc := defScope s_law_content) (by decide +kernel)) (fun _ _ _ _ _ => (pg_name (i := 3) sc_law_content.nd rfl (Or.inl rfl))) (fun _ _ _ _ _ => pts_nil) (fun _ _ _ _ _ => (pe_call (ok_law_any T) (hr.mono (by decide)) (by rfl) T.law_any.g T.law_any.F.kp T.law_any.b .nil pass0 (pa_cons (pv 0) (pa_cons (pv 1) pa_nil))))) pa_nil)))))), ?_⟩
    walk_at "go"
    refine ⟨B, 1000, rfl, hB, by omega, by omega, fun r H1 r0 r1 s1 => ?_⟩
    walk_at "go"
    refine n_new (le_size (by simp)) fun l H2 n2 s2 h2 => ?_
    have hs2 := s1.trans (Hs.of s1.b s2)
    walk_at "go"
    refine n_new (le_size (by simp)) fun m H3 n3 s3 h3 => ?_
    have hs3 := hs2.trans (Hs.of hs2.b s3)
    walk_at "go"
    refine ⟨B, m, _, rfl, hs3.b, slO h3, new_ne hs2.b n3, by simp, by simp, fun x H4 hx s4 => ?_⟩
    have hx2 : ∃ n : Nat, x = .int n ∧ n ≤ 40 := by
      simp only [List.mem_cons, List.not_mem_nil, or_false] at hx
      rcases hx with z | z | z | z | z | z
      · exact ⟨0, z, by omega⟩
      · exact ⟨1, z, by omega⟩
      · exact ⟨2, z, by omega⟩
      · exact ⟨3, z, by omega⟩
      · exact ⟨5, z, by omega⟩
      · exact ⟨40, z, by omega⟩
    obtain ⟨n, rfl, hn⟩ := hx2
    have hs4 := hs3.trans s4
    have l4 := s4.ls (new_ne s1.b n2) (at_ s3 h2)
    walk_at "go"
    refine i_rng n (by omega) (by omega) (by omega) ?_
    refine c_rng (fun i acc H' => Hs K B H4 H' ∧ acc.length = i ∧ ∀ x ∈ acc, x ∈ ctSome r) (fun D hD => ⟨Hs.of hs4.b (upd_free (Same.refl _) hD), rfl, by simp⟩) (fun acc D H5 hD hp q => ?_) (fun _ => rfl) (fun i acc H5 D hi hD hp q => ?_)
    · obtain ⟨s5, la, ha⟩ := q
      walk_at "go"
      refine n_new0 fun t H6 n6 s6 h6 => ?_
      walk_at "go"
      refine k t acc H6 ⟨by omega, fun x hx => (ctSome_ok r0 r1 x (ha x hx)).1, ?_⟩ (stO h6) (hs4.trans (s5.trans (Hs.of s5.b s6)))
      unfold itemsB
      rw [decide_eq_true (by omega), decide_eq_true (by omega), Bool.true_and, Bool.true_and]
      exact List.all_eq_true.mpr fun x hx => (ctSome_ok r0 r1 x (ha x hx)).2
    · obtain ⟨s5, la, ha⟩ := q
      have l5 := s5.ls (new_ne s1.b n2) l4
      walk_at "go"
      refine ⟨B, l, _, rfl, s5.b, slO l5, new_ne s1.b n2, by simp, by simp, fun x H6 hx s6 => ?_⟩
      have hD6 := s6.ls (new_ne hs4.b hD) hp
      have hx3 : x ∈ ctSome r := hx
      refine ⟨_, hD6, lt_size (by omega), _, upd_same, (s5.trans s6).mut hs4.b hD (fun b o nb z => by rw [upd_ne nb]; exact z), by simp [la], fun y hy => ?_⟩
      rcases List.mem_append.mp hy with z | z
      · exact ha y z
      · rw [List.mem_singleton.mp z]; exact hx3
end
end Vw

set_option Elab.async false
set_option linter.all false
set_option maxRecDepth 100000
set_option maxHeartbeats 4000000
namespace Vw
open PySem PySem.Spec PyProof.Rows L2 RT
local macro_rules | `(tactic| walk_at "s") => `(tactic| with_reducible first
  | refine' s_seq ?_ | refine' s_next ?_ | refine' s_set ?_ | refine' s_ret ?_ | refine' s_retN ?_ | refine' s_drop ?_ | refine' s_if ?_ | refine' s_ipI ?_
  | refine' e_c ?_ | refine' e_op ?_ | refine' e_un ?_ | refine' e_neg ?_ | refine' e_test ?_ | refine' e_tB ?_ | refine' e_bl ?_ | refine' e_and ?_ | refine' e_or ?_ | refine' e_not ?_
  | refine' e_andV ?_ | refine' e_orV ?_ | refine' e_notV ?_ | refine' e_kV ?_ | refine' e_ife ?_ | refine' e_nil ?_ | refine' e_cons ?_ | refine' e_cb ?_ | refine' e_call ?_ | refine' e_chain ?_
  | refine' o_addI ?_ | refine' o_eqI ?_ | refine' o_neI ?_ | refine' o_I0 ?_ | refine' o_pow16 ?_ | refine' o_pow17 ?_ | refine' o_pow18 ?_ | refine' o_pow19 ?_ | refine' o_pow30 ?_ | refine' o_pow31 ?_ | refine' o_pow1 ?_ | refine' o_pow2 ?_ | refine' o_pow3 ?_ | refine' o_pow4 ?_ | refine' o_pow5 ?_ | refine' o_pow6 ?_ | refine' o_pow9 ?_ | refine' o_pow10 ?_ | refine' o_pow12 ?_ | refine' o_pow15 ?_ | refine' o_pow20 ?_ | refine' e_lst ?_ | refine' e_tup ?_ | refine' iteT ?_ | refine' i_nt ?_ | refine' i_nf ?_ | refine' iteF ?_ | refine' c_int ?_ | refine' c_abs ?_ | refine' c_min2 ?_ | refine' c_max2 ?_ | refine' e_tru ?_ | refine' t_bl ?_ | refine' t_non ?_ | refine' t_int ?_ | refine' isN_non ?_ | refine' isN_int ?_ | refine' isN_ref ?_ | refine' isN_str ?_ | refine' isN_bl ?_ | refine' noN_non ?_ | refine' noN_int ?_ | refine' noN_ref ?_ | refine' noN_str ?_ | refine' noN_bl ?_
  | refine' s_brk ?_ | refine' s_cont ?_ | refine' s_for ?_ | refine' e_lc ?_ | refine' e_dc ?_ | refine' e_yes ?_ | refine' i_rng1 ?_ | refine' i_lst0 ?_ | refine' i_tup0 ?_ | refine' e_bm ?_ | refine' e_sl ?_ | refine' e_np ?_ | refine' e_pt ?_ | refine' e_ptI ?_ | refine' e_din ?_ | refine' e_dnin ?_ | refine' e_methE ?_ | refine' p_cons ?_ | refine' p_nil ?_ | refine' s_dput ?_ | refine' e_dget2 ?_ | refine' e_dpop1 ?_ | refine' i_enum0 ?_ | refine' i_rev0 ?_ | refine' g_sub ?_ | refine' s_asg ?_ | refine' i_zip0 ?_ | refine' e_revT ?_ | refine' isB_bl ?_ | refine' notB_bl ?_ | refine' o_neB ?_ | refine' i_nrr ?_ | refine' e_meth ?_ | refine' s_setf ?_ | refine' e_fld ?_ | refine' e_bm0 ?_ | refine' r_tx ?_ | refine' o_eqStr ?_ | refine' o_neStr ?_)
local macro_rules | `(tactic| walk_at "v") => `(tactic| ((with_reducible refine' e_var ?hv ?_); (case hv => exact rfl)))
local macro_rules | `(tactic| walk_at "a") => `(tactic| ((with_reducible refine' s_aug ?hv ?_); (case hv => exact rfl)))
local macro_rules | `(tactic| walk_at "m") => `(tactic| first
  | ((with_reducible refine' o_mod ?hv ?_); (case hv => first | decide | omega))
  | ((with_reducible refine' o_mulR ?hv ?_); (case hv => omega))
  | ((with_reducible refine' o_mulL ?hv ?_); (case hv => omega))
  | ((with_reducible refine' o_div ?hv ?hw ?_); (case hv => omega); (case hw => omega))
  | ((with_reducible refine' o_pow _ ?hv ?hw ?hx ?_); (case hv => exact rfl); (case hw => decide); (case hx => decide)))
local macro_rules | `(tactic| walk_at "i") => `(tactic| (first
  | ((with_reducible refine' isi_int true ?hv ?_); (case hv => exact (by decide +kernel)))
  | ((with_reducible refine' isi_int false ?hv ?_); (case hv => exact (by decide +kernel)))
  | ((with_reducible refine' isi_non true ?hv ?_); (case hv => exact (by decide +kernel)))
  | ((with_reducible refine' isi_non false ?hv ?_); (case hv => exact (by decide +kernel)))
  | ((with_reducible refine' isi_str true ?hv ?_); (case hv => exact (by decide +kernel)))
  | ((with_reducible refine' isi_str false ?hv ?_); (case hv => exact (by decide +kernel)))
  | ((with_reducible refine' isi_bl true ?hv ?_); (case hv => exact (by decide +kernel)))
  | ((with_reducible refine' isi_bl false ?hv ?_); (case hv => exact (by decide +kernel)))
  | ((with_reducible refine' isi_t true ?hw ?hv ?_); (case hw => assumption); (case hv => exact (by decide +kernel)))
  | ((with_reducible refine' isi_t false ?hw ?hv ?_); (case hw => assumption); (case hv => exact (by decide +kernel)))
  | ((with_reducible refine' isi_l true ?hw ?hv ?_); (case hw => assumption); (case hv => exact (by decide +kernel)))
  | ((with_reducible refine' isi_l false ?hw ?hv ?_); (case hw => assumption); (case hv => exact (by decide +kernel)))
  | ((with_reducible refine' isi_tup true ?hw ?hv ?_); (case hw => assumption); (case hv => exact (by decide +kernel)))
  | ((with_reducible refine' isi_tup false ?hw ?hv ?_); (case hw => assumption); (case hv => exact (by decide +kernel)))
  | ((with_reducible refine' isi_lst true ?hw ?hv ?_); (case hw => assumption); (case hv => exact (by decide +kernel)))
  | ((with_reducible refine' isi_lst false ?hw ?hv ?_); (case hw => assumption); (case hv => exact (by decide +kernel)))))
local macro_rules | `(tactic| walk_at "om") => `(tactic| first | omega | (simp only [List.length_cons, List.length_nil, List.length_map, List.length_append, List.length_range]; omega))
local macro_rules | `(tactic| walk_at "d") => `(tactic| (first
  | ((with_reducible refine' i_dt ?hv ?_); (case hv => walk_at "om"))
  | ((with_reducible refine' i_df ?hv ?_); (case hv => walk_at "om"))
  | ((with_reducible refine' i_ndt ?hv ?_); (case hv => walk_at "om"))
  | ((with_reducible refine' i_ndf ?hv ?_); (case hv => walk_at "om"))))
local macro_rules | `(tactic| walk_at "x") => `(tactic| first
  | ((with_reducible refine' o_ixA ?hv ?hw ?_); (case hv => assumption); (case hw => exact rfl))
  | ((with_reducible refine' o_ixU ?hv ?hw ?_); (case hv => assumption); (case hw => exact rfl))
  | ((with_reducible refine' o_ixL ?hv ?hw ?_); (case hv => assumption); (case hw => exact rfl))
  | ((with_reducible refine' o_ixT ?hv ?hw ?_); (case hv => assumption); (case hw => exact rfl))
  | ((with_reducible refine' set_ ?hv ?hw ?_); (case hv => assumption); (case hw => exact rfl))
  | ((with_reducible refine' e_lenM ?hv ?_); (case hv => first | assumption | exact slO (by assumption)))
  | ((with_reducible refine' e_lenN ?hv ?_); (case hv => first | assumption | exact stO (by assumption)))
  | ((with_reducible refine' e_lenL ?hv ?_); (case hv => first | assumption | exact slO (by assumption)))
  | ((with_reducible refine' e_lenT ?hv ?_); (case hv => first | assumption | exact stO (by assumption))))
local macro_rules | `(tactic| walk_at "c") => `(tactic| first
  | ((with_reducible refine' c_listL ?hv ?_); (case hv => assumption))
  | ((with_reducible refine' c_listT ?hv ?_); (case hv => assumption))
  | ((with_reducible refine' c_tupL ?hv ?_); (case hv => first | assumption | exact slO (by assumption)))
  | ((with_reducible refine' c_tupT ?hv ?_); (case hv => assumption))
  | ((with_reducible refine' t_lst ?hv ?_); (case hv => first | assumption | exact slO (by assumption)))
  | ((with_reducible refine' t_tup ?hv ?_); (case hv => assumption))
  | ((with_reducible refine' r_sl ?hv ?_); (case hv => first | assumption | exact slO (by assumption)))
  | ((with_reducible refine' o_inL ?hv ?_); (case hv => first | assumption | exact slO (by assumption)))
  | ((with_reducible refine' o_inT ?hv ?_); (case hv => first | assumption | exact stO (by assumption)))
  | ((with_reducible refine' o_niL ?hv ?_); (case hv => first | assumption | exact slO (by assumption)))
  | ((with_reducible refine' o_niT ?hv ?_); (case hv => first | assumption | exact stO (by assumption)))
  | ((with_reducible refine' ty_lst ?hv ?_); (case hv => assumption)))
local macro_rules | `(tactic| walk_at "mo") => `(tactic| repeat' (first | exact m_yes | exact m_var | exact m_c | exact m_I0 | exact m_I | exact m_ix | exact m_add | exact m_in | exact m_int1 | exact m_abs | exact m_nil | refine' m_and ?_ ?_ | refine' m_test ?_ | refine' m_tB ?_ | refine' m_op ?_ ?_ ?_ | refine' m_cons ?_ ?_ | refine' m_cb ?_ ?_))
local macro_rules | `(tactic| walk_at "go") => `(tactic| repeat' (first | walk_at "s" | walk_at "v" | walk_at "a" | walk_at "x" | walk_at "m" | walk_at "c" | walk_at "i" | walk_at "d"))

section
variable {P : Program} {w : World} {K : PySem.W.Frag} {mg : Str → Option Value} {base : Heap}
def SD.new (n : Nat) : SD := ⟨List.replicate n [], fun _ => [], none, 0⟩
theorem SD.new_ok {n : Nat} (h : n ≤ 600) : (SD.new n).Ok := ⟨by show (List.replicate n _).length ≤ 600; rw [List.length_replicate]; exact h, fun xs hx => (by rw [List.eq_of_mem_replicate hx]; exact ⟨by simp, by simp, by decide +kernel⟩), fun b xs hx => (nomatch hx), fun b h => absurd rfl h, fun i h => (nomatch h)⟩
theorem flat_rep {t : Addr} : ∀ {n : Nat}, (List.replicate n [V.ref t]).flatten = (List.replicate n t).map V.ref
  | 0 => rfl
  | m + 1 => by rw [List.replicate_succ, List.flatten_cons, flat_rep, List.replicate_succ]; rfl
abbrev Rw := List (Int × Addr × List Addr)
def setRow (rows : Rw) (b : Int) (n : Addr) (cs : List Addr) : Rw := if (rows.any fun r => decide (r.1 = b)) = true then rows.map fun r => if r.1 = b then (r.1, n, cs) else r else rows ++ [(b, n, cs)]
theorem kvs_any {rows : Rw} {b : Int} : ((kvs_of rows).any fun kv => decide (kv.1 = (Sum.inl b : Key))) = rows.any fun r => decide (r.1 = b) := by
  rw [List.any_map]
  congr 1
  funext r
  show decide ((Sum.inl r.1 : Key) = Sum.inl b) = decide (r.1 = b)
  by_cases h : r.1 = b
  · simp [h]
  · simp [h]
theorem setRow_kvs {rows : Rw} {b : Int} {n : Addr} {cs : List Addr} : kvs_of (setRow rows b n cs) = putK (kvs_of rows) (Sum.inl b) (.ref n) := by
  unfold setRow putK
  rw [kvs_any]
  split
  · unfold kvs_of
    rw [List.map_map, List.map_map]
    congr 1
    funext r
    show ((Sum.inl (if r.1 = b then (r.1, n, cs) else r).1 : Key), V.ref (if r.1 = b then (r.1, n, cs) else r).2.1) = if (Sum.inl r.1 : Key) = Sum.inl b then ((Sum.inl r.1 : Key), V.ref n) else ((Sum.inl r.1 : Key), V.ref r.2.1)
    by_cases h : r.1 = b
    · rw [if_pos h, if_pos (by rw [h])]
    · rw [if_neg h, if_neg (fun z => h (Sum.inl.inj z))]
  · unfold kvs_of
    rw [List.map_append]; rfl
theorem setRow_find {rows : Rw} {b : Int} {n : Addr} {cs : List Addr} {x : Int} : (setRow rows b n cs).find? (fun q => decide (q.1 = x)) = if x = b then some (b, n, cs) else rows.find? fun q => decide (q.1 = x) := by
  unfold setRow
  split
  · next ha =>
    rw [List.find?_map]
    have e : ((fun q : Int × Addr × List Addr => decide (q.1 = x)) ∘ fun q => if q.1 = b then (q.1, n, cs) else q) = fun q => decide (q.1 = x) := by
      funext q
      show decide ((if q.1 = b then (q.1, n, cs) else q).1 = x) = decide (q.1 = x)
      split <;> rfl
    rw [e]
    by_cases hx : x = b
    · rw [if_pos hx, hx]
      obtain ⟨r0, h0, h1⟩ := List.any_eq_true.mp ha
      cases q : rows.find? fun q => decide (q.1 = b) with
      | none => exact absurd h1 (List.find?_eq_none.mp q r0 h0)
      | some r =>
        have : r.1 = b := of_decide_eq_true (List.find?_some (p := fun r : Int × Addr × List Addr => decide (r.1 = b)) q)
        show some (if r.1 = b then (r.1, n, cs) else r) = some (b, n, cs)
        rw [if_pos this, this]
    · rw [if_neg hx]
      cases q : rows.find? fun q => decide (q.1 = x) with
      | none => rfl
      | some r =>
        have : r.1 = x := of_decide_eq_true (List.find?_some (p := fun r : Int × Addr × List Addr => decide (r.1 = x)) q)
        show some (if r.1 = b then (r.1, n, cs) else r) = some r
        rw [if_neg (by rw [this]; exact hx)]
  · next ha =>
    rw [List.find?_append]
    by_cases hx : x = b
    · rw [if_pos hx, hx]
      have : rows.find? (fun q => decide (q.1 = b)) = none := List.find?_eq_none.mpr fun r hr z => ha (List.any_eq_true.mpr ⟨r, hr, z⟩)
      rw [this, Option.none_or]
      simp
    · rw [if_neg hx]
      cases q : rows.find? fun q => decide (q.1 = x) with
      | none =>
        rw [Option.none_or]
        simp [Ne.symm hx]
      | some r => rfl
theorem setRow_sub {rows : Rw} {b : Int} {n : Addr} {cs : List Addr} {q} (h : q ∈ setRow rows b n cs) : q = (b, n, cs) ∨ (q ∈ rows ∧ q.1 ≠ b) := by
  unfold setRow at h
  split at h
  · obtain ⟨q0, h1, h2⟩ := List.mem_map.mp h
    by_cases z : q0.1 = b
    · rw [if_pos z] at h2
      exact .inl (by rw [← h2, z])
    · rw [if_neg z] at h2
      exact .inr ⟨h2 ▸ h1, h2 ▸ z⟩
  · next ha =>
    rcases List.mem_append.mp h with z | z
    · exact .inr ⟨z, fun y => ha (List.any_eq_true.mpr ⟨q, z, decide_eq_true y⟩)⟩
    · exact .inl (List.mem_singleton.mp z)
theorem setRow_m1 {rows : Rw} {b : Int} {n : Addr} {cs : List Addr} (h : (rows.map (·.1)).Nodup) : ((setRow rows b n cs).map (·.1)).Nodup := by
  unfold setRow
  split
  · rw [List.map_map]
    have e : ((fun q : Int × Addr × List Addr => q.1) ∘ fun q => if q.1 = b then (q.1, n, cs) else q) = (·.1) := by
      funext q
      show (if q.1 = b then (q.1, n, cs) else q).1 = q.1
      split <;> rfl
    rw [e]; exact h
  · next ha =>
    rw [List.map_append]
    refine List.nodup_append.mpr ⟨h, by simp, fun x hx y hy e => ?_⟩
    obtain ⟨r, hr, er⟩ := List.mem_map.mp hx
    have hy : y = b := List.mem_singleton.mp hy
    exact ha (List.any_eq_true.mpr ⟨r, hr, decide_eq_true (by rw [er, e, hy])⟩)
theorem nodup_map_at {α β : Type} {f : α → β} : ∀ {l : List α}, (l.map f).Nodup → ∀ x ∈ l, ∀ y ∈ l, f x = f y → x = y
  | [], _, _, h, _, _, _ => nomatch h
  | a :: l, h, r, hr, s, hs, e => by
    obtain ⟨h1, h2⟩ := List.nodup_cons.mp h
    rcases List.mem_cons.mp hr with q | q <;> rcases List.mem_cons.mp hs with q2 | q2
    · rw [q, q2]
    · exact absurd (List.mem_map.mpr ⟨s, q2, by rw [← e, q]⟩) h1
    · exact absurd (List.mem_map.mpr ⟨r, q, by rw [e, q2]⟩) h1
    · exact nodup_map_at h2 r q s q2 e
theorem setRow_m2 : ∀ {rows : Rw} {b : Int} {n : Addr} {cs : List Addr}, (rows.map (·.1)).Nodup → (rows.map (·.2.1)).Nodup → (∀ r ∈ rows, r.2.1 ≠ n) → ((setRow rows b n cs).map (·.2.1)).Nodup := by
  intro rows b n cs h1 h2 hn
  unfold setRow
  split
  · next ha =>
    clear ha
    induction rows with
    | nil => exact List.nodup_nil
    | cons r rows ih =>
      obtain ⟨a1, a2⟩ := List.nodup_cons.mp h1
      obtain ⟨b1, b2⟩ := List.nodup_cons.mp h2
      rw [List.map_cons, List.map_cons]
      refine List.nodup_cons.mpr ⟨fun m => ?_, ih a2 b2 fun r hr => hn r (List.mem_cons_of_mem _ hr)⟩
      obtain ⟨q, hq, eq⟩ := List.mem_map.mp m
      obtain ⟨q0, h0, e0⟩ := List.mem_map.mp hq
      by_cases z : r.1 = b
      · rw [if_pos z] at eq
        have nq : q0.1 ≠ b := fun y => a1 (List.mem_map.mpr ⟨q0, h0, y.trans z.symm⟩)
        rw [if_neg nq] at e0
        exact hn q0 (List.mem_cons_of_mem _ h0) (by rw [e0]; exact eq)
      · rw [if_neg z] at eq
        by_cases y : q0.1 = b
        · rw [if_pos y] at e0
          rw [← e0] at eq
          exact hn r (by simp) eq.symm
        · rw [if_neg y] at e0
          exact b1 (List.mem_map.mpr ⟨q0, h0, by rw [e0]; exact eq⟩)
  · rw [List.map_append]
    refine List.nodup_append.mpr ⟨h2, by simp, fun x hx y hy e => ?_⟩
    obtain ⟨r, hr, er⟩ := List.mem_map.mp hx
    have hy : y = n := List.mem_singleton.mp hy
    exact hn r hr (by rw [er, e, hy])
def sp_book (K : PySem.W.Frag) : Sp := fun vs H Q _ => ∃ n : Nat, vs = [.int n] ∧ n ≤ 600 ∧ ∀ p F H', BS K H' p F (SD.new n) → (∀ a ∈ F, H a = none) → Same H H' → Q (.ref p) H'
theorem ok_law_book (T : Txt K mg) : FnOk P w K mg base CX0 1 T.law_book.f T.law_book.fd ["blocks"] (sp_book K) := by
  refine T.law_book.F.ok sc_law_book (fun vs H Q E h => ?_) (fun cdv A outer s H vs Q E hr h => ?_)
  · obtain ⟨n, rfl, _⟩ := h
    rfl
  · obtain ⟨n, rfl, hn, k⟩ := h
    refine ⟨_, (pss_one (ps_ret (pe_disp (pps_cons pe_str (pe_op oMul (pe_lst (pa_cons (pe_tup pa_nil) pa_nil)) (pv 0)) (pps_cons pe_str pe_dnewK (pps_cons pe_str pe_non (pps_cons pe_str pe_int pps_nil)))) (by rfl) (by rfl) (fun z => by cases z) (by decide)))), ?_⟩
    walk_at "go"
    refine fun p np => ?_
    have sp : Same H (upd H p (.dK [])) := Same.new np
    have hp0 : upd H p (.dK []) p = some (.dK []) := upd_same
    generalize upd H p (.dK []) = H0 at *
    walk_at "go"
    refine n_new (le_size (by simp)) fun t H1 n1 s1 h1 => ?_
    walk_at "go"
    refine n_new (le_size (by simp)) fun l H2 n2 s2 h2 => ?_
    walk_at "go"
    refine o_rep h2 (by omega) (by simp; omega) ?_
    refine n_new0 fun L H3 n3 s3 h3 => ?_
    walk_at "go"
    refine e_dnew fun w H4 n4 s4 h4 => ?_
    walk_at "go"
    have hp4 := at_ (s1.trans (s2.trans (s3.trans s4))) hp0
    refine ⟨hp4, bkv ⟨L, List.replicate n t, w, [], none, 0⟩, rfl, by show 4 ≤ 15; decide, ?_⟩
    have pL : L ≠ p := (ne_of_none (at_ (s1.trans s2) hp0) n3).symm
    have pw : w ≠ p := (ne_of_none (at_ (s1.trans (s2.trans s3)) hp0) n4).symm
    have hL4 := at_ s4 h3
    have hL4 : H4 L = some (.lst ((List.replicate n t).map V.ref)) := by rw [hL4]; exact congrArg (fun z => some (HO.lst z)) flat_rep
    have s04 := s1.trans (s2.trans (s3.trans s4))
    have ss : Same H (upd H4 p (.dK (mergeK [] (bkv ⟨L, List.replicate n t, w, [], none, 0⟩)))) := fun b o e => by
      rw [upd_ne (ne_of_none e np)]; exact s04 _ _ (sp _ _ e)
    have ht4 : SqT K (upd H4 p (.dK (mergeK [] (bkv ⟨L, List.replicate n t, w, [], none, 0⟩)))) t [] := stO (by
      rw [upd_ne (ne_of_none hp0 n1).symm]; exact at_ (s2.trans (s3.trans s4)) h1)
    refine k p _ _ ⟨⟨L, List.replicate n t, w, [], none, 0⟩, ⟨upd_same, ?_, ?_, fun r hr => (nomatch hr), List.nodup_nil, List.nodup_nil, pw.symm, by simp⟩, rfl, ⟨SD.new_ok hn, ?_, fun b => rfl, rfl, rfl⟩⟩ (fun a ha => ?_) ss
    · show upd H4 p _ L = _
      rw [upd_ne pL]; exact hL4
    · show upd H4 p _ w = _
      rw [upd_ne pw]; exact h4
    · refine ⟨by show (List.replicate n t).length = (List.replicate n _).length; rw [List.length_replicate, List.length_replicate], fun i c xs a b => ?_⟩
      have ha : c ∈ List.replicate n t := List.mem_of_getElem? a
      have hb : xs ∈ List.replicate n ([] : Ct) := List.mem_of_getElem? b
      rw [List.eq_of_mem_replicate ha, List.eq_of_mem_replicate hb]; exact ht4
    · have ha : a ∈ [p, L, w] := ha
      simp only [List.mem_cons, List.not_mem_nil, or_false] at ha
      rcases ha with z | z | z <;> subst z
      · exact np
      · exact free_ (sp.trans (s1.trans s2)) n3
      · exact free_ (sp.trans (s1.trans (s2.trans s3))) n4
theorem brows_mem {p : Addr} {H : Hp} {D : Dsk} {S : SD} (h : BookAt H p D) (v : RowsAt K H D.rows S.rows) (b : Int) : b ∈ D.rows.map (·.1) ↔ S.rows b ≠ [] := by
  refine ⟨fun m => ?_, fun n => ?_⟩
  · obtain ⟨r, hr, e⟩ := List.mem_map.mp m
    cases q : D.rows.find? (fun r => decide (r.1 = b)) with
    | none => exact absurd (decide_eq_true e) (List.find?_eq_none.mp q r hr)
    | some r2 =>
      have tu := v.som q
      have n2 := (h.hr r2 (List.mem_of_find?_eq_some q)).2
      intro z
      rw [z] at tu
      exact n2 (List.length_eq_zero_iff.mp tu.1)
  · obtain ⟨r, _, hm, hk, _⟩ := v.there n
    exact List.mem_map.mpr ⟨r, hm, hk⟩
/-- a row of the book is set to a new list -/
theorem set_core {p : Addr} {H H3 H4 : Hp} {D : Dsk} {S : SD} {b : Int} {cs : List Addr} {css : List Ct} {n : Addr} (h : BookAt H p D) (v : Sees K H D S) (s : Same H H3) (hn : H n = none) (h3 : H3 n = some (.lst (cs.map V.ref))) (e4 : H4 = upd H3 D.w (.dK (kvs_of (setRow D.rows b n cs)))) (nc : cs ≠ [])
    (tu : TupsAt K H cs css) : (∀ S' : SD, S'.Ok → S'.lies = S.lies → (∀ x, S'.rows x = if x = b then css else S.rows x) → S'.pw = S.pw → S'.rc = S.rc → BS K H4 p (({ D with rows := setRow D.rows b n cs } : Dsk).foot p) S') ∧ Ch (D.foot p) H H4 ∧ ∀ a ∈ ({ D with rows := setRow D.rows b n cs } : Dsk).foot p, a ∈ D.foot p ∨ H a = none := by
  have h4 : ∀ x, x ≠ D.w → H4 x = H3 x := fun x hx => by rw [e4]; exact upd_ne hx
  have h4w : H4 D.w = some (.dK (kvs_of (setRow D.rows b n cs))) := by rw [e4]; exact upd_same
  have old : ∀ x o, H x = some o → x ≠ D.w → H4 x = some o := fun x o e ne => by rw [h4 x ne]; exact s _ _ e
  have ch : Ch (D.foot p) H H4 := fun x o hx q => by
    have m : D.w ∈ D.foot p := by unfold Dsk.foot; simp
    refine old x o hx fun z => ?_
    rcases q with q | q
    · exact q (z ▸ m)
    · rw [z, h.hw] at hx; cases hx; cases q
  have nw : n ≠ D.w := fun z => by rw [z, h.hw] at hn; cases hn
  refine ⟨fun S' ok el er ep ec => ⟨({ D with rows := setRow D.rows b n cs } : Dsk), ⟨old _ _ h.ob h.pw, old _ _ h.hl (fun z => by have := h.hl; rw [z, h.hw] at this; cases this), h4w, fun q hq => ?_, setRow_m2 h.kd h.nd fun r hr z => ?_, setRow_m1 h.kd, h.pw, fun z => ?_⟩, rfl, ⟨ok, ?_, fun x => ?_, ?_, ?_⟩⟩, ch, fun a ha => ?_⟩
  · rcases setRow_sub hq with z | ⟨z, _⟩
    · subst z
      exact ⟨(h4 n nw).trans h3, nc⟩
    · exact ⟨old _ _ (h.hr q z).1 (fun y => by have := (h.hr q z).1; rw [y, h.hw] at this; cases this), (h.hr q z).2⟩
  · have := (h.hr r hr).1
    rw [z, hn] at this; cases this
  · obtain ⟨q, hq, y⟩ := List.mem_map.mp z
    rcases setRow_sub hq with x | ⟨x, _⟩
    · subst x
      have := h.hl
      rw [← y, hn] at this; cases this
    · exact h.lr (List.mem_map.mpr ⟨q, x, y⟩)
  · rw [el]; exact v.lv.ch ch
  · show match (setRow D.rows b n cs).find? fun q => decide (q.1 = x) with
      | none => S'.rows x = []
      | some r => TupsAt K H4 r.2.2 (S'.rows x)
    rw [setRow_find, er x]
    by_cases hx : x = b
    · rw [if_pos hx, if_pos hx]; exact tu.ch ch
    · rw [if_neg hx, if_neg hx]; exact (v.rv.ch ch) x
  · rw [ep]; exact v.pw
  · rw [ec]; exact v.rc
  · unfold Dsk.foot at ha ⊢
    simp only [List.mem_cons] at ha ⊢
    rcases ha with z | z | z | z
    · exact .inl (.inl z)
    · exact .inl (.inr (.inl z))
    · exact .inl (.inr (.inr (.inl z)))
    · obtain ⟨q, hq, e⟩ := List.mem_map.mp z
      rcases setRow_sub hq with y | ⟨y, _⟩
      · subst y
        exact .inr (by rw [← e]; exact hn)
      · exact .inl (.inr (.inr (.inr (List.mem_map.mpr ⟨q, y, e⟩))))
def SD.wrote (S : SD) (b : Int) (c : Ct) : SD := { S with rows := fun x => if x = b then S.rows b ++ [c] else S.rows x }
theorem SD.wrote_ok {S : SD} {b : Int} {c : Ct} (h : S.Ok) (h0 : 0 ≤ b) (h1 : b < S.lies.length) (hc : CtOk c) : (S.wrote b c).Ok := by
  refine ⟨h.ln, h.cl, fun x xs hx => ?_, fun x hx => ?_, h.pw⟩
  · have hx : xs ∈ (if x = b then S.rows b ++ [c] else S.rows x) := hx
    split at hx
    · rcases List.mem_append.mp hx with z | z
      · exact h.cr b _ z
      · rw [List.mem_singleton.mp z]; exact hc
    · exact h.cr x _ hx
  · show 0 ≤ x ∧ x < S.lies.length
    have hx : (if x = b then S.rows b ++ [c] else S.rows x) ≠ [] := hx
    split at hx
    · next z => rw [z]; exact ⟨h0, h1⟩
    · exact h.out x hx
def sp_wrote (K : PySem.W.Frag) : Sp := fun vs H Q _ => ∃ p F S b c xs, vs = [.ref p, .int b, .ref c] ∧ BS K H p F S ∧ SqT K H c xs ∧ CtOk xs ∧ 0 ≤ b ∧ b < S.lies.length ∧ (∀ x, (S.rows x).length < 1000) ∧ Few S ∧ ∀ F' H', BS K H' p F' (S.wrote b xs) → Ch F H H' → (∀ a ∈ F', a ∈ F ∨ H a = none) → Q .non H'
theorem ok_law_wrote (T : Txt K mg) : FnOk P w K mg base CX0 1 T.law_wrote.f T.law_wrote.fd ["book", "block", "content"] (sp_wrote K) := by
  refine T.law_wrote.F.ok sc_law_wrote (fun vs H Q E h => ?_) (fun cdv A outer s H vs Q E hr h => ?_)
  · obtain ⟨p, F, S, b, c, xs, rfl, _⟩ := h
    rfl
  · obtain ⟨p, F, S, b, c, xs, rfl, hS, hc, ok, hb0, hb1, hl, hf, k⟩ := h
    refine ⟨_, (pss_one (ps_dput (hu_of hr) (pe_dget (hu_of hr) (pv 0) pe_str (fun _ _ => rfl)) (pv 1) (pe_op oAdd (pe_dget2 (hu_of hr) (pe_dget (hu_of hr) (pv 0) pe_str (fun _ _ => rfl)) (pv 1) (pe_lst pa_nil) ⟨by rfl, by rfl, by rfl, by rfl⟩) (pe_lst (pa_cons (pv 2) pa_nil))) rfl)), ?_⟩
    obtain ⟨D, hD, eF, v⟩ := id hS
    walk_at "go"
    refine e_dget ?_
    walk_at "go"
    refine o_dget (k := Sum.inr "waits") hD.ob (bkv_w D) ?_
    refine o_dsetd hD.hw ?_
    walk_at "go"
    refine n_new (le_size (by simp)) fun m H1 n1 s1 h1 => ?_
    refine o_dget2 (k := Sum.inl b) (at_ s1 hD.hw) ?_
    walk_at "go"
    refine n_new (le_size (by simp)) fun m2 H2 n2 s2 h2 => ?_
    have s12 := s1.trans s2
    have fin : ∀ (l0 : Addr) (as : List Addr), H2 l0 = some (.lst (as.map V.ref)) → TupsAt K H as (S.rows b) → (as ≠ [] → ∃ r, D.rows.find? (fun r => decide (r.1 = b)) = some r ∧ as = r.2.2) → (as = [] → D.rows.find? (fun r => decide (r.1 = b)) = none) →
        rOr rIAdd (rOr rCat rSAdd') (.ref l0) (.ref m2) H2 fun v H3 => tDGet (tVar 0) (tC (V.str (Str.ofString "waits"))) (L2.start n_law_wrote [V.ref p, V.int b, V.ref c]) H3 fun x H4 => tVar 1 (L2.start n_law_wrote [V.ref p, V.int b, V.ref c]) H4 fun y H5 => DpQ x y v H5 fun H6 => Q .non H6 := ?fin
    · cases e : D.rows.find? (fun r => decide (r.1 = b)) with
      | none =>
        have ev : valV (kvs_of D.rows) (Sum.inl b) = none := by rw [val_row, e]; rfl
        rw [ev]
        exact fin m [] (at_ s2 h1) (by rw [v.rv.non e]; exact TupsAt.nil) (fun z => absurd rfl z) (fun _ => e)
      | some r =>
        have ev : valV (kvs_of D.rows) (Sum.inl b) = some (.ref r.2.1) := by rw [val_row, e]; rfl
        rw [ev]
        have hr := hD.hr r (List.mem_of_find?_eq_some e)
        exact fin r.2.1 r.2.2 (at_ s12 hr.1) (v.rv.som e) (fun _ => ⟨r, e, rfl⟩) (fun z => absurd z hr.2)
    · intro l0 as g1 g2 g3 g4
      have la : as.length < 1000 := by rw [g2.1]; exact hl b
      refine o_cat g1 h2 (by simp; omega) ?_
      refine n_new0 fun n3 H3 nn3 s3 h3 => ?_
      have s13 := s12.trans s3
      walk_at "go"
      refine e_dget ?_
      walk_at "go"
      refine o_dget (k := Sum.inr "waits") (at_ s13 hD.ob) (bkv_w D) ?_
      walk_at "go"
      have fw : (D.rows.map (·.1)).length < 64 := by
        obtain ⟨L, hL1, hL2⟩ := hf
        have := len_le_of_sub hD.kd (L := L) fun x hx => hL2 x ((brows_mem hD v.rv x).mp hx)
        omega
      refine o_dput (k := Sum.inl b) (at_ s13 hD.hw) (by rw [List.length_map]; rw [List.length_map] at fw; omega) ?_
      have hn3 : H n3 = none := free_ s12 nn3
      have ers : [V.ref c] = [c].map V.ref := rfl
      rw [ers, ← List.map_append] at h3
      rw [← setRow_kvs (cs := as ++ [c])]
      have core := set_core (K := K) (H4 := upd H3 D.w (.dK (kvs_of (setRow D.rows b n3 (as ++ [c]))))) (cs := as ++ [c]) (css := S.rows b ++ [xs]) (n := n3) hD v s13 hn3 h3 rfl (by simp) (g2.snoc hc)
      exact k _ _ (core.1 (S.wrote b xs) (SD.wrote_ok v.ok hb0 hb1 ok) rfl (fun x => rfl) rfl rfl) (eF ▸ core.2.1) (fun a ha => eF ▸ core.2.2 a ha)
def SD.cut (S : SD) : SD := { S with rows := fun _ => [], pw := none }
theorem SD.cut_ok {S : SD} (h : S.Ok) : S.cut.Ok := ⟨h.ln, h.cl, fun b xs hx => (nomatch hx), fun b z => absurd rfl z, fun i z => (nomatch z)⟩
end
end Vw

set_option Elab.async false
set_option linter.all false
set_option maxRecDepth 100000
set_option maxHeartbeats 4000000
namespace Vw
open PySem PySem.Spec PyProof.Rows L2 RT
local macro_rules | `(tactic| walk_at "s") => `(tactic| with_reducible first
  | refine' s_seq ?_ | refine' s_next ?_ | refine' s_set ?_ | refine' s_ret ?_ | refine' s_retN ?_ | refine' s_drop ?_ | refine' s_if ?_ | refine' s_ipI ?_
  | refine' e_c ?_ | refine' e_op ?_ | refine' e_un ?_ | refine' e_neg ?_ | refine' e_test ?_ | refine' e_tB ?_ | refine' e_bl ?_ | refine' e_and ?_ | refine' e_or ?_ | refine' e_not ?_
  | refine' e_andV ?_ | refine' e_orV ?_ | refine' e_notV ?_ | refine' e_kV ?_ | refine' e_ife ?_ | refine' e_nil ?_ | refine' e_cons ?_ | refine' e_cb ?_ | refine' e_call ?_ | refine' e_chain ?_
  | refine' o_addI ?_ | refine' o_eqI ?_ | refine' o_neI ?_ | refine' o_I0 ?_ | refine' o_pow16 ?_ | refine' o_pow17 ?_ | refine' o_pow18 ?_ | refine' o_pow19 ?_ | refine' o_pow30 ?_ | refine' o_pow31 ?_ | refine' o_pow1 ?_ | refine' o_pow2 ?_ | refine' o_pow3 ?_ | refine' o_pow4 ?_ | refine' o_pow5 ?_ | refine' o_pow6 ?_ | refine' o_pow9 ?_ | refine' o_pow10 ?_ | refine' o_pow12 ?_ | refine' o_pow15 ?_ | refine' o_pow20 ?_ | refine' e_lst ?_ | refine' e_tup ?_ | refine' iteT ?_ | refine' i_nt ?_ | refine' i_nf ?_ | refine' iteF ?_ | refine' c_int ?_ | refine' c_abs ?_ | refine' c_min2 ?_ | refine' c_max2 ?_ | refine' e_tru ?_ | refine' t_bl ?_ | refine' t_non ?_ | refine' t_int ?_ | refine' isN_non ?_ | refine' isN_int ?_ | refine' isN_ref ?_ | refine' isN_str ?_ | refine' isN_bl ?_ | refine' noN_non ?_ | refine' noN_int ?_ | refine' noN_ref ?_ | refine' noN_str ?_ | refine' noN_bl ?_
  | refine' s_brk ?_ | refine' s_cont ?_ | refine' s_for ?_ | refine' e_lc ?_ | refine' e_dc ?_ | refine' e_yes ?_ | refine' i_rng1 ?_ | refine' i_lst0 ?_ | refine' i_tup0 ?_ | refine' e_bm ?_ | refine' e_sl ?_ | refine' e_np ?_ | refine' e_pt ?_ | refine' e_ptI ?_ | refine' e_din ?_ | refine' e_dnin ?_ | refine' e_methE ?_ | refine' p_cons ?_ | refine' p_nil ?_ | refine' s_dput ?_ | refine' e_dget2 ?_ | refine' e_dpop1 ?_ | refine' i_enum0 ?_ | refine' i_rev0 ?_ | refine' g_sub ?_ | refine' s_asg ?_ | refine' i_zip0 ?_ | refine' e_revT ?_ | refine' isB_bl ?_ | refine' notB_bl ?_ | refine' o_neB ?_ | refine' i_nrr ?_ | refine' e_meth ?_ | refine' s_setf ?_ | refine' e_fld ?_ | refine' e_bm0 ?_ | refine' r_tx ?_ | refine' o_eqStr ?_ | refine' o_neStr ?_)
local macro_rules | `(tactic| walk_at "v") => `(tactic| ((with_reducible refine' e_var ?hv ?_); (case hv => exact rfl)))
local macro_rules | `(tactic| walk_at "a") => `(tactic| ((with_reducible refine' s_aug ?hv ?_); (case hv => exact rfl)))
local macro_rules | `(tactic| walk_at "m") => `(tactic| first
  | ((with_reducible refine' o_mod ?hv ?_); (case hv => first | decide | omega))
  | ((with_reducible refine' o_mulR ?hv ?_); (case hv => omega))
  | ((with_reducible refine' o_mulL ?hv ?_); (case hv => omega))
  | ((with_reducible refine' o_div ?hv ?hw ?_); (case hv => omega); (case hw => omega))
  | ((with_reducible refine' o_pow _ ?hv ?hw ?hx ?_); (case hv => exact rfl); (case hw => decide); (case hx => decide)))
local macro_rules | `(tactic| walk_at "i") => `(tactic| (first
  | ((with_reducible refine' isi_int true ?hv ?_); (case hv => exact (by decide +kernel)))
  | ((with_reducible refine' isi_int false ?hv ?_); (case hv => exact (by decide +kernel)))
  | ((with_reducible refine' isi_non true ?hv ?_); (case hv => exact (by decide +kernel)))
  | ((with_reducible refine' isi_non false ?hv ?_); (case hv => exact (by decide +kernel)))
  | ((with_reducible refine' isi_str true ?hv ?_); (case hv => exact (by decide +kernel)))
  | ((with_reducible refine' isi_str false ?hv ?_); (case hv => exact (by decide +kernel)))
  | ((with_reducible refine' isi_bl true ?hv ?_); (case hv => exact (by decide +kernel)))
  | ((with_reducible refine' isi_bl false ?hv ?_); (case hv => exact (by decide +kernel)))
  | ((with_reducible refine' isi_t true ?hw ?hv ?_); (case hw => assumption); (case hv => exact (by decide +kernel)))
  | ((with_reducible refine' isi_t false ?hw ?hv ?_); (case hw => assumption); (case hv => exact (by decide +kernel)))
  | ((with_reducible refine' isi_l true ?hw ?hv ?_); (case hw => assumption); (case hv => exact (by decide +kernel)))
  | ((with_reducible refine' isi_l false ?hw ?hv ?_); (case hw => assumption); (case hv => exact (by decide +kernel)))
  | ((with_reducible refine' isi_tup true ?hw ?hv ?_); (case hw => assumption); (case hv => exact (by decide +kernel)))
  | ((with_reducible refine' isi_tup false ?hw ?hv ?_); (case hw => assumption); (case hv => exact (by decide +kernel)))
  | ((with_reducible refine' isi_lst true ?hw ?hv ?_); (case hw => assumption); (case hv => exact (by decide +kernel)))
  | ((with_reducible refine' isi_lst false ?hw ?hv ?_); (case hw => assumption); (case hv => exact (by decide +kernel)))))
local macro_rules | `(tactic| walk_at "om") => `(tactic| first | omega | (simp only [List.length_cons, List.length_nil, List.length_map, List.length_append, List.length_range]; omega))
local macro_rules | `(tactic| walk_at "d") => `(tactic| (first
  | ((with_reducible refine' i_dt ?hv ?_); (case hv => walk_at "om"))
  | ((with_reducible refine' i_df ?hv ?_); (case hv => walk_at "om"))
  | ((with_reducible refine' i_ndt ?hv ?_); (case hv => walk_at "om"))
  | ((with_reducible refine' i_ndf ?hv ?_); (case hv => walk_at "om"))))
local macro_rules | `(tactic| walk_at "x") => `(tactic| first
  | ((with_reducible refine' o_ixA ?hv ?hw ?_); (case hv => assumption); (case hw => exact rfl))
  | ((with_reducible refine' o_ixU ?hv ?hw ?_); (case hv => assumption); (case hw => exact rfl))
  | ((with_reducible refine' o_ixL ?hv ?hw ?_); (case hv => assumption); (case hw => exact rfl))
  | ((with_reducible refine' o_ixT ?hv ?hw ?_); (case hv => assumption); (case hw => exact rfl))
  | ((with_reducible refine' set_ ?hv ?hw ?_); (case hv => assumption); (case hw => exact rfl))
  | ((with_reducible refine' e_lenM ?hv ?_); (case hv => first | assumption | exact slO (by assumption)))
  | ((with_reducible refine' e_lenN ?hv ?_); (case hv => first | assumption | exact stO (by assumption)))
  | ((with_reducible refine' e_lenL ?hv ?_); (case hv => first | assumption | exact slO (by assumption)))
  | ((with_reducible refine' e_lenT ?hv ?_); (case hv => first | assumption | exact stO (by assumption))))
local macro_rules | `(tactic| walk_at "c") => `(tactic| first
  | ((with_reducible refine' c_listL ?hv ?_); (case hv => assumption))
  | ((with_reducible refine' c_listT ?hv ?_); (case hv => assumption))
  | ((with_reducible refine' c_tupL ?hv ?_); (case hv => first | assumption | exact slO (by assumption)))
  | ((with_reducible refine' c_tupT ?hv ?_); (case hv => assumption))
  | ((with_reducible refine' t_lst ?hv ?_); (case hv => first | assumption | exact slO (by assumption)))
  | ((with_reducible refine' t_tup ?hv ?_); (case hv => assumption))
  | ((with_reducible refine' r_sl ?hv ?_); (case hv => first | assumption | exact slO (by assumption)))
  | ((with_reducible refine' o_inL ?hv ?_); (case hv => first | assumption | exact slO (by assumption)))
  | ((with_reducible refine' o_inT ?hv ?_); (case hv => first | assumption | exact stO (by assumption)))
  | ((with_reducible refine' o_niL ?hv ?_); (case hv => first | assumption | exact slO (by assumption)))
  | ((with_reducible refine' o_niT ?hv ?_); (case hv => first | assumption | exact stO (by assumption)))
  | ((with_reducible refine' ty_lst ?hv ?_); (case hv => assumption)))
local macro_rules | `(tactic| walk_at "mo") => `(tactic| repeat' (first | exact m_yes | exact m_var | exact m_c | exact m_I0 | exact m_I | exact m_ix | exact m_add | exact m_in | exact m_int1 | exact m_abs | exact m_nil | refine' m_and ?_ ?_ | refine' m_test ?_ | refine' m_tB ?_ | refine' m_op ?_ ?_ ?_ | refine' m_cons ?_ ?_ | refine' m_cb ?_ ?_))
local macro_rules | `(tactic| walk_at "go") => `(tactic| repeat' (first | walk_at "s" | walk_at "v" | walk_at "a" | walk_at "x" | walk_at "m" | walk_at "c" | walk_at "i" | walk_at "d"))

section
variable {P : Program} {w : World} {K : PySem.W.Frag} {mg : Str → Option Value} {base : Heap}
theorem cut_tail {a : Addr} {as : List Addr} : cutV (List.map V.ref (a :: as)) (some 1) none = as.map V.ref := by
  have e1 : HT.sIx (as.length + 1) (as.length + 1) none = as.length + 1 := rfl
  have e2 : HT.sIx (as.length + 1) 0 (some 1) = 1 := by simp [HT.sIx]; try omega
  unfold cutV
  simp [e1, e2]
  exact List.take_of_length_le (by simp)
def gotRows2 (rows : Rw) (b : Int) (n : Addr) (as : List Addr) : Rw := if as = [] then gotRows rows b [] else setRow (gotRows rows b []) b n as
theorem bgot_core {p : Addr} {H H4 : Hp} {D : Dsk} {S : SD} {b : Int} {c : Ct} {cs : List Ct} {a n : Addr} {as : List Addr} (h : BookAt H p D) (v : Sees K H D S) (e : S.rows b = c :: cs) (np : S.pw ≠ some 0)
    (ha : SqT K H a c) (has : TupsAt K H as cs) (hn : as ≠ [] → H n = none) (ob : H4 p = some (.dK (bkv { D with pw := D.pw.map (· - 1), rc := D.rc + 1 }))) (hl : H4 D.l = some (.lst ((D.lies.set b.toNat a).map V.ref)))
    (hw : H4 D.w = some (.dK (kvs_of (gotRows2 D.rows b n as)))) (h3 : as ≠ [] → H4 n = some (.lst (as.map V.ref))) (oth : ∀ x o, x ≠ p → x ≠ D.l → x ≠ D.w → H x = some o → H4 x = some o) :
    BS K H4 p (({ D with lies := D.lies.set b.toNat a, rows := gotRows2 D.rows b n as, pw := D.pw.map (· - 1), rc := D.rc + 1 } : Dsk).foot p) (S.got b c cs) ∧ Ch (D.foot p) H H4 ∧ ∀ x ∈ ({ D with lies := D.lies.set b.toNat a, rows := gotRows2 D.rows b n as, pw := D.pw.map (· - 1), rc := D.rc + 1 } : Dsk).foot p, x ∈ D.foot p ∨ H x = none := by
  have ch : Ch (D.foot p) H H4 := fun x o hx q => by
    have n : x ∉ D.foot p := fun m => by
      rcases q with q | q
      · exact q m
      · rw [h.mut x m o hx] at q; cases q
    exact oth x o (fun z => n (by rw [z]; unfold Dsk.foot; simp)) (fun z => n (by rw [z]; unfold Dsk.foot; simp)) (fun z => n (by rw [z]; unfold Dsk.foot; simp)) hx
  have old : ∀ q ∈ D.rows, H4 q.2.1 = some (.lst (q.2.2.map V.ref)) := fun q hq => by
    refine oth _ _ ?_ ?_ ?_ (h.hr q hq).1
    · intro y; have := (h.hr q hq).1; rw [y, h.ob] at this; cases this
    · intro y; exact h.lr (y ▸ List.mem_map.mpr ⟨q, hq, rfl⟩)
    · intro y; have := (h.hr q hq).1; rw [y, h.hw] at this; cases this
  have sub : ∀ q ∈ gotRows2 D.rows b n as, (as ≠ [] ∧ q = (b, n, as)) ∨ q ∈ D.rows := fun q hq => by
    unfold gotRows2 at hq
    have k : ∀ q ∈ gotRows D.rows b [], q ∈ D.rows := fun q hq => by
      obtain ⟨q0, h0, _, _, z⟩ := gotRows_sub hq
      rcases z with ⟨_, z⟩ | ⟨_, z, _⟩
      · exact z ▸ h0
      · exact absurd rfl z
    split at hq
    · exact .inr (k q hq)
    · next na =>
      rcases setRow_sub hq with z | ⟨z, _⟩
      · exact .inl ⟨na, z⟩
      · exact .inr (k q z)
  have m1 : ((gotRows2 D.rows b n as).map (·.1)).Nodup := by
    unfold gotRows2
    split
    · exact gotRows_m1 h.kd
    · exact setRow_m1 (gotRows_m1 h.kd)
  have m2 : ((gotRows2 D.rows b n as).map (·.2.1)).Nodup := by
    unfold gotRows2
    split
    · exact gotRows_m2 h.nd
    · next na =>
      refine setRow_m2 (gotRows_m1 h.kd) (gotRows_m2 h.nd) fun r hr z => ?_
      obtain ⟨q0, h0, _, e2, _⟩ := gotRows_sub hr
      have := (h.hr q0 h0).1
      rw [e2, z, hn na] at this; cases this
  have fd : ∀ x, (gotRows2 D.rows b n as).find? (fun q => decide (q.1 = x)) = if x = b then (if as = [] then none else some (b, n, as)) else D.rows.find? fun q => decide (q.1 = x) := fun x => by
    unfold gotRows2
    by_cases na : as = []
    · rw [if_pos na, gotRows_find, if_pos na, if_pos rfl]
    · rw [if_neg na, setRow_find, if_neg na, gotRows_find]
      split
      · rfl
      · rfl
  refine ⟨⟨({ D with lies := D.lies.set b.toNat a, rows := gotRows2 D.rows b n as, pw := D.pw.map (· - 1), rc := D.rc + 1 } : Dsk), ⟨ob, hl, hw, fun q hq => ?_, m2, m1, h.pw, fun z => ?_⟩, rfl, ⟨SD.got_ok v.ok e np, (v.lv.ch ch).set _ (ch.st ha), fun x => ?_, ?_, ?_⟩⟩, ch, fun x hx => ?_⟩
  · rcases sub q hq with ⟨na, z⟩ | z
    · subst z; exact ⟨h3 na, na⟩
    · exact ⟨old q z, (h.hr q z).2⟩
  · obtain ⟨q, hq, y⟩ := List.mem_map.mp z
    rcases sub q hq with ⟨na, z⟩ | z
    · subst z
      have := h.hl
      have y : n = D.l := y
      rw [← y, hn na] at this; cases this
    · exact h.lr (List.mem_map.mpr ⟨q, z, y⟩)
  · show match (gotRows2 D.rows b n as).find? fun q => decide (q.1 = x) with
      | none => (if x = b then cs else S.rows x) = []
      | some r => TupsAt K H4 r.2.2 (if x = b then cs else S.rows x)
    rw [fd]
    by_cases hxb : x = b
    · rw [if_pos hxb, if_pos hxb]
      by_cases hna : as = []
      · rw [if_pos hna]
        have := has.1
        rw [hna] at this
        exact List.length_eq_zero_iff.mp this.symm
      · rw [if_neg hna]
        exact has.ch ch
    · rw [if_neg hxb, if_neg hxb]
      exact (v.rv.ch ch) x
  · show D.pw.map _ = S.pw.map _
    rw [v.pw]
  · show D.rc + 1 = S.rc + 1
    rw [v.rc]
  · unfold Dsk.foot at hx ⊢
    simp only [List.mem_cons] at hx ⊢
    rcases hx with z | z | z | z
    · exact .inl (.inl z)
    · exact .inl (.inr (.inl z))
    · exact .inl (.inr (.inr (.inl z)))
    · obtain ⟨q, hq, y⟩ := List.mem_map.mp z
      rcases sub q hq with ⟨na, z⟩ | z
      · subst z; exact .inr (by rw [← y]; exact hn na)
      · exact .inl (.inr (.inr (.inr (List.mem_map.mpr ⟨q, z, y⟩))))
def sp_breached (K : PySem.W.Frag) : Sp := fun vs H Q E => ∃ p F S b c cs, vs = [.ref p, .int b] ∧ BS K H p F S ∧ S.rows b = c :: cs ∧ cs.length < 1000 ∧ Few S ∧ (S.pw = some 0 → Q (.bl false) H) ∧
  (S.pw ≠ some 0 → ∀ H' F', BS K H' p F' (S.got b c cs) → Ch F H H' → (∀ a ∈ F', a ∈ F ∨ H a = none) → Q (.bl true) H')
theorem ok_law_reached (T : Txt K mg) : FnOk P w K mg base CX0 1 T.law_reached.f T.law_reached.fd ["book", "block"] ((sp_breached K)) := by
  refine T.law_reached.F.ok sc_law_reached (fun vs H Q E h => ?_) (fun cdv A outer s H vs Q E hr h => ?_)
  · obtain ⟨p, F, S, b, c, cs, rfl, _⟩ := h
    rfl
  · obtain ⟨p, F, S, b, c, cs, rfl, ⟨D, hD, rfl, v⟩, hrow, hcs, hf, k0, k1⟩ := h
    refine ⟨_, (pss_cons (ps_if (pt_cmpR (oEq (K := K) hr.units) (pe_dget (hu_of hr) (pv 0) pe_str (fun _ _ => rfl)) pe_int (nomark _)) (pss_one (ps_ret pe_bl)) pss_nil)
    (Evl.pss_cut (ps_if (pt_cmpR oNotN (pe_dget (hu_of hr) (pv 0) pe_str (fun _ _ => rfl)) pe_non (nomark _)) (pss_one (ps_dput (hu_of hr) (pv 0) pe_str (pe_op op_sub (pe_dget (hu_of hr) (pv 0) pe_str (fun _ _ => rfl)) pe_int) rfl)) pss_nil)
    (pss_cons (ps_set (i := 2) sc_law_reached.nd rfl (Or.inl rfl) (pe_dpop1 (pe_dget (hu_of hr) (pv 0) pe_str (fun _ _ => rfl)) (pv 1) ⟨by rfl, by rfl, by rfl, by rfl⟩))
    (pss_cons (ps_asg (pe_ix (ixLT (K := K)) (pv 2) pe_int (fun _ _ => rfl)) (pg_sub (pe_dget (hu_of hr) (pv 0) pe_str (fun _ _ => rfl)) (pv 1) set_list))
    (pss_cons (ps_dput (hu_of hr) (pv 0) pe_str (pe_op oAdd (pe_dget (hu_of hr) (pv 0) pe_str (fun _ _ => rfl)) pe_int) rfl)
    (pss_cons (ps_if (pt_cmpR op_gt (pe_callB (cLen (K := K)) (by rfl) T.z_len PySem.boot_len (pa_cons (pv 2) pa_nil)) pe_int (nomark _)) (pss_one (ps_dput (hu_of hr) (pe_dget (hu_of hr) (pv 0) pe_str (fun _ _ => rfl)) (pv 1) (pe_slice (slL (K := K)) (pv 2) (po_some pe_int) po_none) rfl)) pss_nil)
    (pss_one (ps_ret pe_bl)))))))), ?_⟩
    walk_at "go"
    refine e_dget ?_
    walk_at "go"
    refine o_dget (k := Sum.inr "power") hD.ob (bkv_p D) ?_
    refine o_eqS (by cases D.pw <;> rfl) ?_
    walk_at "go"
    have ez : decide (pwV D.pw = V.int 0) = decide (S.pw = some 0) := by
      rw [← v.pw]
      cases D.pw with
      | none => rfl
      | some i =>
        by_cases q : i = 0
        · subst q; rfl
        · show decide (V.int i = V.int 0) = decide (some i = some 0)
          rw [decide_eq_false (fun z => q (V.int.inj z)), decide_eq_false (fun z => q (Option.some.inj z))]
    rw [ez]
    refine i_d (fun q => ?_) (fun np => ?_)
    · walk_at "go"
      exact k0 q
    · walk_at "go"
      refine s_cut (fun σ2 H2 => σ2 = [some (.ref p), some (.int b), none] ∧ H2 p = some (.dK (bkv { D with pw := D.pw.map (· - 1) })) ∧ (∀ x, x ≠ p → H2 x = H x)) ?_ ?_
      · walk_at "go"
        refine e_dget ?_
        walk_at "go"
        refine o_dget (k := Sum.inr "power") hD.ob (bkv_p D) ?_
        have hob := hD.ob
        have epw := v.pw
        cases ep : D.pw with
        | none =>
          walk_at "go"
          refine ⟨rfl, ?_, fun _ _ => rfl⟩
          rw [hob]
          obtain ⟨l, lies, w, rows, pw, rc⟩ := D
          have ep : pw = none := ep
          subst ep; rfl
        | some i =>
          walk_at "go"
          refine e_dget ?_
          walk_at "go"
          refine o_dget (k := Sum.inr "power") hob (by rw [bkv_p, ep]) ?_
          walk_at "go"
          refine o_dput (k := Sum.inr "power") hob (by show 4 < 100000; decide) ?_
          have e2 : putK (bkv D) (Sum.inr "power") (.int (i - 1)) = bkv { D with pw := some (i - 1) } := bkv_pp D (some (i - 1))
          rw [e2]
          exact ⟨rfl, upd_same, fun x hx => upd_ne hx⟩
      · rintro σ2 H2 ⟨rfl, hob, hoth⟩
        obtain ⟨r, ef, hm, hk, tu⟩ := v.rv.there (b := b) (by rw [hrow]; simp)
        rw [hrow] at tu
        obtain ⟨a, as, er, ta, tas⟩ := tu.cons_inv
        have hr0 := hD.hr r hm
        rw [er] at hr0
        have hpl : D.l ≠ p := fun z => by have := hD.hl; rw [z, hD.ob] at this; cases this
        have hpr : r.2.1 ≠ p := fun z => by have := hr0.1; rw [z, hD.ob] at this; cases this
        have hlw : D.l ≠ D.w := fun z => by have := hD.hl; rw [z, hD.hw] at this; cases this
        have hrl : r.2.1 ≠ D.l := fun z => hD.lr (z ▸ List.mem_map.mpr ⟨r, hm, rfl⟩)
        have hrw : r.2.1 ≠ D.w := fun z => by have := hr0.1; rw [z, hD.hw] at this; cases this
        have hb := v.ok.out b (by rw [hrow]; simp)
        have lls := v.lv.1
        have h2w : H2 D.w = some (.dK (kvs_of D.rows)) := (hoth _ hD.pw.symm).trans hD.hw
        have h2l : H2 D.l = _ := (hoth _ hpl).trans hD.hl
        have h2r : H2 r.2.1 = _ := (hoth _ hpr).trans hr0.1
        walk_at "go"
        refine e_dget ?_
        walk_at "go"
        refine o_dget (k := Sum.inr "waits") hob (bkv_w _) ?_
        refine o_dsetd h2w ?_
        walk_at "go"
        refine o_dpop1 (k := Sum.inl b) h2w (by rw [val_row, ef]; rfl) ?_
        have e3 : dropK (kvs_of D.rows) (Sum.inl b) = kvs_of (gotRows D.rows b []) := by rw [gotRows_kvs, if_pos rfl]
        rw [e3]
        have h3p : upd H2 D.w (.dK (kvs_of (gotRows D.rows b []))) p = _ := (upd_ne hD.pw).trans hob
        have h3l : upd H2 D.w (.dK (kvs_of (gotRows D.rows b []))) D.l = _ := (upd_ne hlw).trans h2l
        have h3r : upd H2 D.w (.dK (kvs_of (gotRows D.rows b []))) r.2.1 = _ := (upd_ne hrw).trans h2r
        have h3w : upd H2 D.w (.dK (kvs_of (gotRows D.rows b []))) D.w = _ := upd_same
        have o3 : ∀ x, x ≠ D.w → upd H2 D.w (.dK (kvs_of (gotRows D.rows b []))) x = H2 x := fun x hx => upd_ne hx
        generalize upd H2 D.w (.dK (kvs_of (gotRows D.rows b []))) = H3 at *
        walk_at "go"
        refine o_ixA h3r (v := .ref a) (atI_in (j := 0) rfl rfl) ?_
        walk_at "go"
        refine e_dget ?_
        walk_at "go"
        refine o_dget (k := Sum.inr "lying") h3p (bkv_l _) ?_
        walk_at "go"
        refine set_ (j := b.toNat) h3l (ixN_in (by omega) (by rw [List.length_map]; omega)) fun H4 o4 h4 => ?_
        have h4p : H4 p = _ := o4 _ _ hpl.symm h3p
        have h4w : H4 D.w = _ := o4 _ _ hlw.symm h3w
        have h4r : H4 r.2.1 = _ := o4 _ _ hrl h3r
        walk_at "go"
        refine e_dget ?_
        walk_at "go"
        refine o_dget (k := Sum.inr "reached") h4p (bkv_r _) ?_
        walk_at "go"
        refine o_dput (k := Sum.inr "reached") h4p (by show 4 < 100000; decide) ?_
        rw [bkv_pr]
        have h5p : upd H4 p (.dK (bkv { D with pw := D.pw.map (· - 1), rc := D.rc + 1 })) p = _ := upd_same
        have o5 : ∀ x, x ≠ p → upd H4 p (.dK (bkv { D with pw := D.pw.map (· - 1), rc := D.rc + 1 })) x = H4 x := fun x hx => upd_ne hx
        generalize upd H4 p (.dK (bkv { D with pw := D.pw.map (· - 1), rc := D.rc + 1 })) = H5 at *
        have h5r : H5 r.2.1 = _ := (o5 _ hpr).trans h4r
        have h5w : H5 D.w = _ := (o5 _ hD.pw.symm).trans h4w
        have h5l : H5 D.l = _ := (o5 _ hpl).trans h4
        have old : ∀ x o, x ≠ p → x ≠ D.l → x ≠ D.w → H x = some o → H5 x = some o := fun x o n1 n2 n3 q => by
          rw [o5 x n1]; exact o4 _ _ n2 (by rw [o3 x n3, hoth x n1]; exact q)
        walk_at "go"
        have hsl : SqL K H5 r.2.1 ((a :: as).map V.ref) := slO h5r
        have fin := fun (H6 : Hp) (n : Addr) (hn : as ≠ [] → H n = none) (h6 : ∀ x, x ≠ D.w → (∀ o, H5 x = some o → H6 x = some o)) (h6w : H6 D.w = some (.dK (kvs_of (gotRows2 D.rows b n as)))) (h6n : as ≠ [] → H6 n = some (.lst (as.map V.ref))) =>
          bgot_core (H4 := H6) hD v hrow np ta tas hn (h6 p hD.pw _ h5p) (by rw [List.map_set]; exact h6 _ hlw _ h5l) h6w h6n (fun x o n1 n2 n3 q => h6 x n3 _ (old x o n1 n2 n3 q))
        walk_at "go"
        refine i_d (fun q => ?_) (fun q => ?_)
        · have hne : as ≠ [] := fun z => by rw [z] at q; simp at q
          walk_at "go"
          have ecut : cutV (List.map V.ref (a :: as)) (some 1) none = as.map V.ref := cut_tail
          rw [ecut]
          refine n_new0 fun n H6 n6 s6 h6 => ?_
          have h6p := s6 _ _ h5p
          have h6w := s6 _ _ h5w
          have hn : H n = none := by
            cases e : H n with
            | none => rfl
            | some o =>
              by_cases z1 : n = p
              · rw [z1, h5p] at n6; cases n6
              by_cases z2 : n = D.l
              · rw [z2, h5l] at n6; cases n6
              by_cases z3 : n = D.w
              · rw [z3, h5w] at n6; cases n6
              rw [old n o z1 z2 z3 e] at n6; cases n6
          refine e_dget ?_
          walk_at "go"
          refine o_dget (k := Sum.inr "waits") h6p (bkv_w _) ?_
          walk_at "go"
          have fw : (D.rows.map (·.1)).length < 64 := by
            obtain ⟨L, hL1, hL2⟩ := hf
            have := len_le_of_sub hD.kd (L := L) fun x hx => hL2 x ((brows_mem hD v.rv x).mp hx)
            omega
          have fl : (kvs_of (gotRows D.rows b [])).length < 100000 := by
            rw [List.length_map]
            unfold gotRows
            rw [if_pos rfl]
            have := List.length_filter_le (fun q : Int × Addr × List Addr => decide (q.1 ≠ b)) D.rows
            rw [List.length_map] at fw
            omega
          refine o_dput (k := Sum.inl b) h6w fl ?_
          rw [← setRow_kvs (cs := as)]
          have nw : n ≠ D.w := fun z => by rw [z, h5w] at n6; cases n6
          obtain ⟨g1, g2, g3⟩ := fin (upd H6 D.w (.dK (kvs_of (setRow (gotRows D.rows b []) b n as)))) n (fun _ => hn) (fun x hx o e => by rw [upd_ne hx]; exact s6 _ _ e) (by unfold gotRows2; rw [if_neg hne]; exact upd_same) (fun _ => by rw [upd_ne nw]; exact h6)
          walk_at "go"
          exact k1 np _ _ g1 g2 g3
        · have hna : as = [] := by
            cases as with
            | nil => rfl
            | cons x y => exact absurd (by simp; omega) q
          walk_at "go"
          obtain ⟨g1, g2, g3⟩ := fin H5 p (fun z => absurd hna z) (fun x hx o e => e) (by unfold gotRows2; rw [if_pos hna]; exact h5w) (fun z => absurd hna z)
          exact k1 np _ _ g1 g2 g3
end
end Vw

set_option Elab.async false
set_option linter.all false
set_option maxRecDepth 100000
set_option maxHeartbeats 4000000
namespace Vw
open PySem PySem.Spec PyProof.Rows L2 RT
local macro_rules | `(tactic| walk_at "s") => `(tactic| with_reducible first
  | refine' s_seq ?_ | refine' s_next ?_ | refine' s_set ?_ | refine' s_ret ?_ | refine' s_retN ?_ | refine' s_drop ?_ | refine' s_if ?_ | refine' s_ipI ?_
  | refine' e_c ?_ | refine' e_op ?_ | refine' e_un ?_ | refine' e_neg ?_ | refine' e_test ?_ | refine' e_tB ?_ | refine' e_bl ?_ | refine' e_and ?_ | refine' e_or ?_ | refine' e_not ?_
  | refine' e_andV ?_ | refine' e_orV ?_ | refine' e_notV ?_ | refine' e_kV ?_ | refine' e_ife ?_ | refine' e_nil ?_ | refine' e_cons ?_ | refine' e_cb ?_ | refine' e_call ?_ | refine' e_chain ?_
  | refine' o_addI ?_ | refine' o_eqI ?_ | refine' o_neI ?_ | refine' o_I0 ?_ | refine' o_pow16 ?_ | refine' o_pow17 ?_ | refine' o_pow18 ?_ | refine' o_pow19 ?_ | refine' o_pow30 ?_ | refine' o_pow31 ?_ | refine' o_pow1 ?_ | refine' o_pow2 ?_ | refine' o_pow3 ?_ | refine' o_pow4 ?_ | refine' o_pow5 ?_ | refine' o_pow6 ?_ | refine' o_pow9 ?_ | refine' o_pow10 ?_ | refine' o_pow12 ?_ | refine' o_pow15 ?_ | refine' o_pow20 ?_ | refine' e_lst ?_ | refine' e_tup ?_ | refine' iteT ?_ | refine' i_nt ?_ | refine' i_nf ?_ | refine' iteF ?_ | refine' c_int ?_ | refine' c_abs ?_ | refine' c_min2 ?_ | refine' c_max2 ?_ | refine' e_tru ?_ | refine' t_bl ?_ | refine' t_non ?_ | refine' t_int ?_ | refine' isN_non ?_ | refine' isN_int ?_ | refine' isN_ref ?_ | refine' isN_str ?_ | refine' isN_bl ?_ | refine' noN_non ?_ | refine' noN_int ?_ | refine' noN_ref ?_ | refine' noN_str ?_ | refine' noN_bl ?_
  | refine' s_brk ?_ | refine' s_cont ?_ | refine' s_for ?_ | refine' e_lc ?_ | refine' e_dc ?_ | refine' e_yes ?_ | refine' i_rng1 ?_ | refine' i_lst0 ?_ | refine' i_tup0 ?_ | refine' e_bm ?_ | refine' e_sl ?_ | refine' e_np ?_ | refine' e_pt ?_ | refine' e_ptI ?_ | refine' e_din ?_ | refine' e_dnin ?_ | refine' e_methE ?_ | refine' p_cons ?_ | refine' p_nil ?_ | refine' s_dput ?_ | refine' e_dget2 ?_ | refine' e_dpop1 ?_ | refine' i_enum0 ?_ | refine' i_rev0 ?_ | refine' g_sub ?_ | refine' s_asg ?_ | refine' i_zip0 ?_ | refine' e_revT ?_ | refine' isB_bl ?_ | refine' notB_bl ?_ | refine' o_neB ?_ | refine' i_nrr ?_ | refine' e_meth ?_ | refine' s_setf ?_ | refine' e_fld ?_ | refine' e_bm0 ?_ | refine' r_tx ?_ | refine' o_eqStr ?_ | refine' o_neStr ?_)
local macro_rules | `(tactic| walk_at "v") => `(tactic| ((with_reducible refine' e_var ?hv ?_); (case hv => exact rfl)))
local macro_rules | `(tactic| walk_at "a") => `(tactic| ((with_reducible refine' s_aug ?hv ?_); (case hv => exact rfl)))
local macro_rules | `(tactic| walk_at "m") => `(tactic| first
  | ((with_reducible refine' o_mod ?hv ?_); (case hv => first | decide | omega))
  | ((with_reducible refine' o_mulR ?hv ?_); (case hv => omega))
  | ((with_reducible refine' o_mulL ?hv ?_); (case hv => omega))
  | ((with_reducible refine' o_div ?hv ?hw ?_); (case hv => omega); (case hw => omega))
  | ((with_reducible refine' o_pow _ ?hv ?hw ?hx ?_); (case hv => exact rfl); (case hw => decide); (case hx => decide)))
local macro_rules | `(tactic| walk_at "i") => `(tactic| (first
  | ((with_reducible refine' isi_int true ?hv ?_); (case hv => exact (by decide +kernel)))
  | ((with_reducible refine' isi_int false ?hv ?_); (case hv => exact (by decide +kernel)))
  | ((with_reducible refine' isi_non true ?hv ?_); (case hv => exact (by decide +kernel)))
  | ((with_reducible refine' isi_non false ?hv ?_); (case hv => exact (by decide +kernel)))
  | ((with_reducible refine' isi_str true ?hv ?_); (case hv => exact (by decide +kernel)))
  | ((with_reducible refine' isi_str false ?hv ?_); (case hv => exact (by decide +kernel)))
  | ((with_reducible refine' isi_bl true ?hv ?_); (case hv => exact (by decide +kernel)))
  | ((with_reducible refine' isi_bl false ?hv ?_); (case hv => exact (by decide +kernel)))
  | ((with_reducible refine' isi_t true ?hw ?hv ?_); (case hw => assumption); (case hv => exact (by decide +kernel)))
  | ((with_reducible refine' isi_t false ?hw ?hv ?_); (case hw => assumption); (case hv => exact (by decide +kernel)))
  | ((with_reducible refine' isi_l true ?hw ?hv ?_); (case hw => assumption); (case hv => exact (by decide +kernel)))
  | ((with_reducible refine' isi_l false ?hw ?hv ?_); (case hw => assumption); (case hv => exact (by decide +kernel)))
  | ((with_reducible refine' isi_tup true ?hw ?hv ?_); (case hw => assumption); (case hv => exact (by decide +kernel)))
  | ((with_reducible refine' isi_tup false ?hw ?hv ?_); (case hw => assumption); (case hv => exact (by decide +kernel)))
  | ((with_reducible refine' isi_lst true ?hw ?hv ?_); (case hw => assumption); (case hv => exact (by decide +kernel)))
  | ((with_reducible refine' isi_lst false ?hw ?hv ?_); (case hw => assumption); (case hv => exact (by decide +kernel)))))
local macro_rules | `(tactic| walk_at "om") => `(tactic| first | omega | (simp only [List.length_cons, List.length_nil, List.length_map, List.length_append, List.length_range]; omega))
local macro_rules | `(tactic| walk_at "d") => `(tactic| (first
  | ((with_reducible refine' i_dt ?hv ?_); (case hv => walk_at "om"))
  | ((with_reducible refine' i_df ?hv ?_); (case hv => walk_at "om"))
  | ((with_reducible refine' i_ndt ?hv ?_); (case hv => walk_at "om"))
  | ((with_reducible refine' i_ndf ?hv ?_); (case hv => walk_at "om"))))
local macro_rules | `(tactic| walk_at "x") => `(tactic| first
  | ((with_reducible refine' o_ixA ?hv ?hw ?_); (case hv => assumption); (case hw => exact rfl))
  | ((with_reducible refine' o_ixU ?hv ?hw ?_); (case hv => assumption); (case hw => exact rfl))
  | ((with_reducible refine' o_ixL ?hv ?hw ?_); (case hv => assumption); (case hw => exact rfl))
  | ((with_reducible refine' o_ixT ?hv ?hw ?_); (case hv => assumption); (case hw => exact rfl))
  | ((with_reducible refine' set_ ?hv ?hw ?_); (case hv => assumption); (case hw => exact rfl))
  | ((with_reducible refine' e_lenM ?hv ?_); (case hv => first | assumption | exact slO (by assumption)))
  | ((with_reducible refine' e_lenN ?hv ?_); (case hv => first | assumption | exact stO (by assumption)))
  | ((with_reducible refine' e_lenL ?hv ?_); (case hv => first | assumption | exact slO (by assumption)))
  | ((with_reducible refine' e_lenT ?hv ?_); (case hv => first | assumption | exact stO (by assumption))))
local macro_rules | `(tactic| walk_at "c") => `(tactic| first
  | ((with_reducible refine' c_listL ?hv ?_); (case hv => assumption))
  | ((with_reducible refine' c_listT ?hv ?_); (case hv => assumption))
  | ((with_reducible refine' c_tupL ?hv ?_); (case hv => first | assumption | exact slO (by assumption)))
  | ((with_reducible refine' c_tupT ?hv ?_); (case hv => assumption))
  | ((with_reducible refine' t_lst ?hv ?_); (case hv => first | assumption | exact slO (by assumption)))
  | ((with_reducible refine' t_tup ?hv ?_); (case hv => assumption))
  | ((with_reducible refine' r_sl ?hv ?_); (case hv => first | assumption | exact slO (by assumption)))
  | ((with_reducible refine' o_inL ?hv ?_); (case hv => first | assumption | exact slO (by assumption)))
  | ((with_reducible refine' o_inT ?hv ?_); (case hv => first | assumption | exact stO (by assumption)))
  | ((with_reducible refine' o_niL ?hv ?_); (case hv => first | assumption | exact slO (by assumption)))
  | ((with_reducible refine' o_niT ?hv ?_); (case hv => first | assumption | exact stO (by assumption)))
  | ((with_reducible refine' ty_lst ?hv ?_); (case hv => assumption)))
local macro_rules | `(tactic| walk_at "mo") => `(tactic| repeat' (first | exact m_yes | exact m_var | exact m_c | exact m_I0 | exact m_I | exact m_ix | exact m_add | exact m_in | exact m_int1 | exact m_abs | exact m_nil | refine' m_and ?_ ?_ | refine' m_test ?_ | refine' m_tB ?_ | refine' m_op ?_ ?_ ?_ | refine' m_cons ?_ ?_ | refine' m_cb ?_ ?_))
local macro_rules | `(tactic| walk_at "go") => `(tactic| repeat' (first | walk_at "s" | walk_at "v" | walk_at "a" | walk_at "x" | walk_at "m" | walk_at "c" | walk_at "i" | walk_at "d"))

section
variable {P : Program} {w : World} {K : PySem.W.Frag} {mg : Str → Option Value} {base : Heap}
theorem i_orG {K : PySem.W.Frag} {σ : L2.St} {H : Hp} {R : It → Hp → Prop} {i : Nat} {a : Addr} {xs : List V} (G0 : Hp → Prop) (hv : σ[i]? = some (some (.ref a))) (s : (∀ H', G0 H' → SqL K H' a xs) ∨ (∀ H', G0 H' → SqT K H' a xs)) (g : G0 H)
    (h : ∀ J G, (∀ H', G0 H' → G H') → Walk J xs.length G (fun i H x H' => H' = H ∧ xs[i]? = some x) → R J H) : iOr (iList K (tVar i)) (iTup K (tVar i)) σ H R :=
  s.elim (fun s => .inl ⟨.ref a, hv, a, rfl, ⟨xs, s H g⟩, h _ _ s walk_list⟩) fun s => .inr ⟨.ref a, hv, a, rfl, ⟨xs, s H g⟩, h _ _ s walk_tup⟩
structure Bd (S : SD) : Prop where
  few : Few S
  len : ∀ x, (S.rows x).length < 1000
theorem Bd.got {S : SD} {b : Int} {c : Ct} {cs : List Ct} (h : Bd S) (e : S.rows b = c :: cs) : Bd (S.got b c cs) := by
  obtain ⟨⟨L, h1, h2⟩, h3⟩ := h
  refine ⟨⟨L, h1, fun x hx => ?_⟩, fun x => ?_⟩
  · have hx : (if x = b then cs else S.rows x) ≠ [] := hx
    split at hx
    · next z => rw [z]; exact h2 b (by rw [e]; simp)
    · exact h2 x hx
  · show (if x = b then cs else S.rows x).length < 1000
    split
    · have := h3 b
      rw [e] at this
      simp only [List.length_cons] at this; omega
    · exact h3 x
theorem SqX.ch {K : PySem.W.Frag} {F : List Addr} {H H' : Hp} {a : Addr} {xs : List V} (h : SqX K H a xs) (c : Ch F H H') (n : a ∉ F) : SqX K H' a xs := h.elim (fun h => .inl (c.sl n h)) fun h => .inr (c.st h)
def sp_bforced (K : PySem.W.Frag) : Sp := fun vs H Q E => ∃ p F S a ns, vs = [.ref p, .ref a] ∧ BS K H p F S ∧ (SqT K H a (ns.map V.int) ∨ (SqL K H a (ns.map V.int) ∧ a ∉ F)) ∧ Bd S ∧
  ∀ H' F', BS K H' p F' (SD.forceL ns S).1 → Ch F H H' → (∀ a ∈ F', a ∈ F ∨ H a = none) → Q (.bl (SD.forceL ns S).2) H'
theorem ok_law_forced (T : Txt K mg) : FnOk P w K mg base CX0 2 T.law_forced.f T.law_forced.fd ["book", "lot"] ((sp_bforced K)) := by
  refine T.law_forced.F.ok sc_law_forced (fun vs H Q E h => ?_) (fun cdv A outer s H vs Q E hr h => ?_)
  · obtain ⟨p, F, S, a, ns, rfl, _⟩ := h
    rfl
  · obtain ⟨p, F, S, a, ns, rfl, hS, ha, bd, k⟩ := h
    refine ⟨_, (pss_cons (ps_for PassesOwn.never rfl (piX (K := K) (pv 1)) (pg_name (i := 2) sc_law_forced.nd rfl (Or.inl rfl))
      (pss_one (ps_while PassesOwn.never (pt_cmp (pc_din (hu_of hr) (pv 2) (pe_dget (hu_of hr) (pv 0) pe_str (fun _ _ => rfl)))) (pss_one (ps_if (pt_not (ptTruth (K := K) (pe_call (ok_law_reached T) (hr.mono (by decide)) (by rfl) T.law_reached.g T.law_reached.F.kp T.law_reached.b .nil pass0 (pa_cons (pv 0) (pa_cons (pv 2) pa_nil))) (by intro _; rfl))) (pss_one (ps_ret pe_bl)) pss_nil)))))
    (pss_one (ps_ret pe_bl))), ?_⟩
    walk_at "go"
    refine i_orG (Ch F H) rfl (ha.elim (fun s => .inr fun H' c => c.st s) fun s => .inl fun H' c => c.sl s.2 s.1) Ch.refl fun J G hG W => ?_
    rw [List.length_map] at W
    refine l_it W (fun i σ3 H3 => ∃ (y : Option V) (S3 : SD) (F3 : List Addr), σ3 = [some (.ref p), some (.ref a), y] ∧ BS K H3 p F3 S3 ∧ Ch F H H3 ∧ (∀ x ∈ F3, x ∈ F ∨ H x = none) ∧ Bd S3 ∧ SD.forceL (ns.drop i) S3 = SD.forceL ns S) ⟨none, S, F, rfl, hS, Ch.refl, fun x hx => .inl hx, bd, rfl⟩ (fun i σ3 H3 hi q => ?_) (fun σ3 H3 q => ?_) (fun i x σ3 H3 H3' hi q yy => ?_)
    · obtain ⟨y, S3, F3, _, _, c3, _, _⟩ := q
      exact hG _ c3
    · obtain ⟨y, S3, F3, rfl, d3, c3, f3, bd3, e3⟩ := q
      rw [List.drop_length] at e3
      have e4 : SD.forceL ns S = (S3, true) := e3.symm
      have := k H3 F3 (by rw [e4]; exact d3) c3 f3
      rw [e4] at this
      walk_at "go"
      exact this
    · obtain ⟨y, S3, F3, rfl, d3, c3, f3, bd3, e3⟩ := q
      obtain ⟨rfl, hx⟩ := yy
      have ex : x = .int ns[i] := by
        rw [List.getElem?_map, List.getElem?_eq_getElem hi] at hx
        exact (Option.some.inj hx).symm
      subst ex
      rw [List.drop_eq_getElem_cons hi] at e3
      generalize ns[i] = b at *
      refine while_m (fun m σ4 H4 => ∃ (S4 : SD) (F4 : List Addr), m = (S4.rows b).length ∧ σ4 = [some (.ref p), some (.ref a), some (.int b)] ∧ BS K H4 p F4 S4 ∧ Ch F H H4 ∧ (∀ x ∈ F4, x ∈ F ∨ H x = none) ∧ Bd S4 ∧ S4.forceB b = S3.forceB b) _ ⟨S3, F3, rfl, rfl, d3, c3, f3, bd3, rfl⟩ ?_
      rintro m σ4 H4 ⟨S4, F4, rfl, rfl, d4, c4, f4, bd4, e4⟩
      obtain ⟨D4, hD4, eF4, v4⟩ := id d4
      walk_at "go"
      refine e_dget ?_
      walk_at "go"
      refine o_dget (k := Sum.inr "waits") hD4.ob (bkv_w _) ?_
      refine ⟨_, _, rfl, DGet.k (k := Sum.inl b) hD4.hw, ?_⟩
      cases er : S4.rows b with
      | nil =>
        have ef : D4.rows.find? (fun r => decide (r.1 = b)) = none := by
          cases q : D4.rows.find? (fun r => decide (r.1 = b)) with
          | none => rfl
          | some r =>
            have tu := v4.rv.som q
            rw [er] at tu
            have := (hD4.hr r (List.mem_of_find?_eq_some q)).2
            exact absurd (List.length_eq_zero_iff.mp tu.1) this
        rw [show (valV (kvs_of D4.rows) (Sum.inl b : Key)).isSome = false by rw [val_row, ef]; rfl]
        walk_at "go"
        refine ⟨_, S4, F4, rfl, d4, c4, f4, bd4, ?_⟩
        have z : S3.forceB b = (S4, true) := by rw [← e4, SD.forceB_nil er]
        rw [SD.forceL_cons, z, if_pos rfl] at e3
        exact e3
      | cons c cs =>
        obtain ⟨r, ef, hm, hk, tu⟩ := v4.rv.there (b := b) (by rw [er]; simp)
        rw [show (valV (kvs_of D4.rows) (Sum.inl b : Key)).isSome = true by rw [val_row, ef]; rfl]
        walk_at "go"
        refine ⟨fun σ5 H5 => ∃ (S4 : SD) (F4 : List Addr), cs.length = (S4.rows b).length ∧ σ5 = [some (.ref p), some (.ref a), some (.int b)] ∧ BS K H5 p F4 S4 ∧ Ch F H H5 ∧ (∀ x ∈ F4, x ∈ F ∨ H x = none) ∧ Bd S4 ∧ S4.forceB b = S3.forceB b, fun σ5 H5 q => ⟨cs.length, by simp, q⟩, ?_⟩
        walk_at "go"
        refine ⟨p, F4, S4, b, c, cs, rfl, d4, er, by have := bd4.len b; rw [er] at this; simp only [List.length_cons] at this; omega, bd4.few, fun np => ?_, fun np H5 F5 g1 g2 g3 => ?_⟩
        · have z : S3.forceB b = (S4, false) := by rw [← e4, SD.forceB_stop er np]
          rw [SD.forceL_cons, z, if_neg Bool.false_ne_true] at e3
          have e4 : SD.forceL ns S = (S4, false) := e3.symm
          have := k H4 F4 (by rw [e4]; exact d4) c4 f4
          rw [e4] at this
          walk_at "go"
          exact this
        · walk_at "go"
          refine ⟨S4.got b c cs, F5, ?_, rfl, g1, c4.trans g2 f4, fun x hx => ?_, bd4.got er, by rw [← e4, SD.forceB_got er np]⟩
          · show cs.length = (if b = b then cs else S4.rows b).length
            rw [if_pos rfl]
          · rcases g3 x hx with z | z
            · exact f4 x z
            · by_cases m : x ∈ F
              · exact .inl m
              · refine .inr ?_
                cases e : H x with
                | none => rfl
                | some o => rw [c4.at_ m e] at z; cases z
end
end Vw

set_option Elab.async false
set_option linter.all false
set_option maxRecDepth 100000
set_option maxHeartbeats 4000000
namespace Vw
open PySem PySem.Spec PyProof.Rows L2 RT
local macro_rules | `(tactic| walk_at "s") => `(tactic| with_reducible first
  | refine' s_seq ?_ | refine' s_next ?_ | refine' s_set ?_ | refine' s_ret ?_ | refine' s_retN ?_ | refine' s_drop ?_ | refine' s_if ?_ | refine' s_ipI ?_
  | refine' e_c ?_ | refine' e_op ?_ | refine' e_un ?_ | refine' e_neg ?_ | refine' e_test ?_ | refine' e_tB ?_ | refine' e_bl ?_ | refine' e_and ?_ | refine' e_or ?_ | refine' e_not ?_
  | refine' e_andV ?_ | refine' e_orV ?_ | refine' e_notV ?_ | refine' e_kV ?_ | refine' e_ife ?_ | refine' e_nil ?_ | refine' e_cons ?_ | refine' e_cb ?_ | refine' e_call ?_ | refine' e_chain ?_
  | refine' o_addI ?_ | refine' o_eqI ?_ | refine' o_neI ?_ | refine' o_I0 ?_ | refine' o_pow16 ?_ | refine' o_pow17 ?_ | refine' o_pow18 ?_ | refine' o_pow19 ?_ | refine' o_pow30 ?_ | refine' o_pow31 ?_ | refine' o_pow1 ?_ | refine' o_pow2 ?_ | refine' o_pow3 ?_ | refine' o_pow4 ?_ | refine' o_pow5 ?_ | refine' o_pow6 ?_ | refine' o_pow9 ?_ | refine' o_pow10 ?_ | refine' o_pow12 ?_ | refine' o_pow15 ?_ | refine' o_pow20 ?_ | refine' e_lst ?_ | refine' e_tup ?_ | refine' iteT ?_ | refine' i_nt ?_ | refine' i_nf ?_ | refine' iteF ?_ | refine' c_int ?_ | refine' c_abs ?_ | refine' c_min2 ?_ | refine' c_max2 ?_ | refine' e_tru ?_ | refine' t_bl ?_ | refine' t_non ?_ | refine' t_int ?_ | refine' isN_non ?_ | refine' isN_int ?_ | refine' isN_ref ?_ | refine' isN_str ?_ | refine' isN_bl ?_ | refine' noN_non ?_ | refine' noN_int ?_ | refine' noN_ref ?_ | refine' noN_str ?_ | refine' noN_bl ?_
  | refine' s_brk ?_ | refine' s_cont ?_ | refine' s_for ?_ | refine' e_lc ?_ | refine' e_dc ?_ | refine' e_yes ?_ | refine' i_rng1 ?_ | refine' i_lst0 ?_ | refine' i_tup0 ?_ | refine' e_bm ?_ | refine' e_sl ?_ | refine' e_np ?_ | refine' e_pt ?_ | refine' e_ptI ?_ | refine' e_din ?_ | refine' e_dnin ?_ | refine' e_methE ?_ | refine' p_cons ?_ | refine' p_nil ?_ | refine' s_dput ?_ | refine' e_dget2 ?_ | refine' e_dpop1 ?_ | refine' i_enum0 ?_ | refine' i_rev0 ?_ | refine' g_sub ?_ | refine' s_asg ?_ | refine' i_zip0 ?_ | refine' e_revT ?_ | refine' isB_bl ?_ | refine' notB_bl ?_ | refine' o_neB ?_ | refine' i_nrr ?_ | refine' e_meth ?_ | refine' s_setf ?_ | refine' e_fld ?_ | refine' e_bm0 ?_ | refine' r_tx ?_ | refine' o_eqStr ?_ | refine' o_neStr ?_)
local macro_rules | `(tactic| walk_at "v") => `(tactic| ((with_reducible refine' e_var ?hv ?_); (case hv => exact rfl)))
local macro_rules | `(tactic| walk_at "a") => `(tactic| ((with_reducible refine' s_aug ?hv ?_); (case hv => exact rfl)))
local macro_rules | `(tactic| walk_at "m") => `(tactic| first
  | ((with_reducible refine' o_mod ?hv ?_); (case hv => first | decide | omega))
  | ((with_reducible refine' o_mulR ?hv ?_); (case hv => omega))
  | ((with_reducible refine' o_mulL ?hv ?_); (case hv => omega))
  | ((with_reducible refine' o_div ?hv ?hw ?_); (case hv => omega); (case hw => omega))
  | ((with_reducible refine' o_pow _ ?hv ?hw ?hx ?_); (case hv => exact rfl); (case hw => decide); (case hx => decide)))
local macro_rules | `(tactic| walk_at "i") => `(tactic| (first
  | ((with_reducible refine' isi_int true ?hv ?_); (case hv => exact (by decide +kernel)))
  | ((with_reducible refine' isi_int false ?hv ?_); (case hv => exact (by decide +kernel)))
  | ((with_reducible refine' isi_non true ?hv ?_); (case hv => exact (by decide +kernel)))
  | ((with_reducible refine' isi_non false ?hv ?_); (case hv => exact (by decide +kernel)))
  | ((with_reducible refine' isi_str true ?hv ?_); (case hv => exact (by decide +kernel)))
  | ((with_reducible refine' isi_str false ?hv ?_); (case hv => exact (by decide +kernel)))
  | ((with_reducible refine' isi_bl true ?hv ?_); (case hv => exact (by decide +kernel)))
  | ((with_reducible refine' isi_bl false ?hv ?_); (case hv => exact (by decide +kernel)))
  | ((with_reducible refine' isi_t true ?hw ?hv ?_); (case hw => assumption); (case hv => exact (by decide +kernel)))
  | ((with_reducible refine' isi_t false ?hw ?hv ?_); (case hw => assumption); (case hv => exact (by decide +kernel)))
  | ((with_reducible refine' isi_l true ?hw ?hv ?_); (case hw => assumption); (case hv => exact (by decide +kernel)))
  | ((with_reducible refine' isi_l false ?hw ?hv ?_); (case hw => assumption); (case hv => exact (by decide +kernel)))
  | ((with_reducible refine' isi_tup true ?hw ?hv ?_); (case hw => assumption); (case hv => exact (by decide +kernel)))
  | ((with_reducible refine' isi_tup false ?hw ?hv ?_); (case hw => assumption); (case hv => exact (by decide +kernel)))
  | ((with_reducible refine' isi_lst true ?hw ?hv ?_); (case hw => assumption); (case hv => exact (by decide +kernel)))
  | ((with_reducible refine' isi_lst false ?hw ?hv ?_); (case hw => assumption); (case hv => exact (by decide +kernel)))))
local macro_rules | `(tactic| walk_at "om") => `(tactic| first | omega | (simp only [List.length_cons, List.length_nil, List.length_map, List.length_append, List.length_range]; omega))
local macro_rules | `(tactic| walk_at "d") => `(tactic| (first
  | ((with_reducible refine' i_dt ?hv ?_); (case hv => walk_at "om"))
  | ((with_reducible refine' i_df ?hv ?_); (case hv => walk_at "om"))
  | ((with_reducible refine' i_ndt ?hv ?_); (case hv => walk_at "om"))
  | ((with_reducible refine' i_ndf ?hv ?_); (case hv => walk_at "om"))))
local macro_rules | `(tactic| walk_at "x") => `(tactic| first
  | ((with_reducible refine' o_ixA ?hv ?hw ?_); (case hv => assumption); (case hw => exact rfl))
  | ((with_reducible refine' o_ixU ?hv ?hw ?_); (case hv => assumption); (case hw => exact rfl))
  | ((with_reducible refine' o_ixL ?hv ?hw ?_); (case hv => assumption); (case hw => exact rfl))
  | ((with_reducible refine' o_ixT ?hv ?hw ?_); (case hv => assumption); (case hw => exact rfl))
  | ((with_reducible refine' set_ ?hv ?hw ?_); (case hv => assumption); (case hw => exact rfl))
  | ((with_reducible refine' e_lenM ?hv ?_); (case hv => first | assumption | exact slO (by assumption)))
  | ((with_reducible refine' e_lenN ?hv ?_); (case hv => first | assumption | exact stO (by assumption)))
  | ((with_reducible refine' e_lenL ?hv ?_); (case hv => first | assumption | exact slO (by assumption)))
  | ((with_reducible refine' e_lenT ?hv ?_); (case hv => first | assumption | exact stO (by assumption))))
local macro_rules | `(tactic| walk_at "c") => `(tactic| first
  | ((with_reducible refine' c_listL ?hv ?_); (case hv => assumption))
  | ((with_reducible refine' c_listT ?hv ?_); (case hv => assumption))
  | ((with_reducible refine' c_tupL ?hv ?_); (case hv => first | assumption | exact slO (by assumption)))
  | ((with_reducible refine' c_tupT ?hv ?_); (case hv => assumption))
  | ((with_reducible refine' t_lst ?hv ?_); (case hv => first | assumption | exact slO (by assumption)))
  | ((with_reducible refine' t_tup ?hv ?_); (case hv => assumption))
  | ((with_reducible refine' r_sl ?hv ?_); (case hv => first | assumption | exact slO (by assumption)))
  | ((with_reducible refine' o_inL ?hv ?_); (case hv => first | assumption | exact slO (by assumption)))
  | ((with_reducible refine' o_inT ?hv ?_); (case hv => first | assumption | exact stO (by assumption)))
  | ((with_reducible refine' o_niL ?hv ?_); (case hv => first | assumption | exact slO (by assumption)))
  | ((with_reducible refine' o_niT ?hv ?_); (case hv => first | assumption | exact stO (by assumption)))
  | ((with_reducible refine' ty_lst ?hv ?_); (case hv => assumption)))
local macro_rules | `(tactic| walk_at "mo") => `(tactic| repeat' (first | exact m_yes | exact m_var | exact m_c | exact m_I0 | exact m_I | exact m_ix | exact m_add | exact m_in | exact m_int1 | exact m_abs | exact m_nil | refine' m_and ?_ ?_ | refine' m_test ?_ | refine' m_tB ?_ | refine' m_op ?_ ?_ ?_ | refine' m_cons ?_ ?_ | refine' m_cb ?_ ?_))
local macro_rules | `(tactic| walk_at "go") => `(tactic| repeat' (first | walk_at "s" | walk_at "v" | walk_at "a" | walk_at "x" | walk_at "m" | walk_at "c" | walk_at "i" | walk_at "d"))

section
variable {P : Program} {w : World} {K : PySem.W.Frag} {mg : Str → Option Value} {base : Heap}
/-! ### contents as data -/
def datX : V → PyData
  | .int i => .int i
  | .str z => .str z
  | .bl b => .bool b
  | _ => .none
theorem word_ok {z : Str} (h : wordB z = true) : PyData.strOk z = true := by
  unfold wordB at h
  rw [Bool.and_eq_true, Bool.or_eq_true] at h
  rcases h.2 with q | q
  · rw [of_decide_eq_true q]; decide +kernel
  · rw [Bool.and_eq_true] at q
    have := q.1
    unfold Txt.isascii at this
    unfold PyData.strOk
    rw [Array.all_eq_true'] at this ⊢
    intro x hx
    have := of_decide_eq_true (this x hx)
    exact decide_eq_true (by omega)
theorem datX_dp {H : Hp} {x : V} (h : itemB x = true) : Dp K H x (datX x) ∧ PyData.canLay0 (datX x) = true ∧ PyData.depth (datX x) ≤ 1 := by
  cases x with
  | int i => exact ⟨.int i, rfl, by simp [datX, PyData.depth]⟩
  | str z =>
    refine ⟨.str z, ?_, by simp [datX, PyData.depth]⟩
    have hw : wordB z = true := by
      unfold itemB at h
      simpa [within, isI] using h
    exact word_ok hw
  | _ => exfalso; unfold itemB at h; simp [within, isI] at h
theorem ct_all {H : Hp} : ∀ {xs : List V}, (∀ x ∈ xs, itemB x = true) → DpAll K H xs (xs.map datX) ∧ PyData.canLayAll0 (xs.map datX) = true ∧ PyData.depthAll (xs.map datX) ≤ 1
  | [], _ => ⟨.nil, rfl, by simp [PyData.depthAll]⟩
  | x :: xs, h => by
    obtain ⟨a, b, c⟩ := ct_all (H := H) (xs := xs) fun y hy => h y (List.mem_cons_of_mem _ hy)
    obtain ⟨a1, b1, c1⟩ := datX_dp (K := K) (H := H) (h x (by simp))
    refine ⟨.cons a1 a, by rw [List.map_cons]; simp [PyData.canLayAll0, b1, b], ?_⟩
    rw [List.map_cons]
    simp only [PyData.depthAll]
    exact Nat.max_le.mpr ⟨c1, c⟩
theorem ct_items {xs : Ct} (h : CtOk xs) : ∀ x ∈ xs, itemB x = true := by
  have := h.2.2
  unfold itemsB at this
  rw [Bool.and_eq_true, Bool.and_eq_true] at this
  exact List.all_eq_true.mp this.2.2
theorem o_neC {H : Hp} {Q : VK} {r : R2} {a b : Addr} {xs : Ct} (h1 : SqT K H a xs) (h2 : SqT K H b xs) (ok : CtOk xs) (q : Q (.bl false) H) : rOr r (rNeD K) (.ref a) (.ref b) H Q := by
  obtain ⟨d, l, p⟩ := ct_all (K := K) (H := H) (ct_items ok)
  have sh : SeqAt.shaped (.tuple (xs.map datX)) = true := by
    unfold SeqAt.shaped
    rw [Bool.and_eq_true_iff]
    refine ⟨by simpa [PyData.canLay0] using l, decide_eq_true ?_⟩
    simp only [PyData.depth]
    omega
  exact .inr ⟨_, _, .tup h1 d, .tup h2 d, sh, sh, by rw [SeqAt.eqv_refl _ (by simpa [PyData.canLay0] using l)]; exact q⟩
def SD.shows (S : SD) (b : Int) : Option Ct := if S.rows b = [] then S.lies[b.toNat]? else (S.rows b)[(S.rows b).length - 1]?
theorem shows_at {H : Hp} {D : Dsk} {S : SD} (v : Sees K H D S) (hr : ∀ r ∈ D.rows, r.2.2 ≠ []) {b : Int} (h0 : 0 ≤ b) (h1 : b < S.lies.length) : ∃ c xs, D.shows b = some c ∧ S.shows b = some xs ∧ SqT K H c xs ∧ CtOk xs := by
  unfold Dsk.shows Dsk.row SD.shows
  cases e : D.rows.find? fun r => decide (r.1 = b) with
  | none =>
    rw [v.rv.non e, if_pos rfl]
    have hl : b.toNat < S.lies.length := by omega
    obtain ⟨d, e1, e2⟩ := v.lv.get (List.getElem?_eq_getElem hl)
    exact ⟨d, _, e1, List.getElem?_eq_getElem hl, e2, v.ok.cl _ (List.getElem_mem hl)⟩
  | some r =>
    have tu := v.rv.som e
    have ne := hr r (List.mem_of_find?_eq_some e)
    have nz : S.rows b ≠ [] := fun z => by
      rw [z] at tu
      exact ne (List.length_eq_zero_iff.mp tu.1)
    rw [if_neg nz]
    have pos := List.length_pos_iff.mpr nz
    have hl : (S.rows b).length - 1 < (S.rows b).length := by omega
    obtain ⟨d, e1, e2⟩ := tu.get (List.getElem?_eq_getElem hl)
    refine ⟨d, _, ?_, List.getElem?_eq_getElem hl, e2, v.ok.cr b _ (List.getElem_mem hl)⟩
    show r.2.2[r.2.2.length - 1]? = some d
    rw [tu.1]; exact e1
theorem merge_nodup : ∀ {more kvs : List (Key × V)}, (more.map (·.1)).Nodup → (∀ kv ∈ more, valV kvs kv.1 = none) → mergeK kvs more = kvs ++ more
  | [], kvs, _, _ => by simp [mergeK]
  | a :: l, kvs, h, n => by
    obtain ⟨h1, h2⟩ := List.nodup_cons.mp h
    show mergeK (putK kvs a.1 a.2) l = _
    rw [putK_new _ (n a (by simp)), merge_nodup h2 fun kv hk => ?_]
    · simp
    · have e1 := n kv (List.mem_cons_of_mem _ hk)
      have ne : kv.1 ≠ a.1 := fun z => h1 (List.mem_map.mpr ⟨kv, hk, z⟩)
      unfold valV at e1 ⊢
      rw [List.find?_append]
      cases q : kvs.find? fun x => decide (x.1 = kv.1) with
      | some y => rw [q] at e1; cases e1
      | none =>
        rw [Option.none_or]
        simp [Ne.symm ne]
def lenKvs (rows : Rw) : List (Key × V) := rows.map fun r => ((Sum.inl r.1 : Key), V.int (r.2.2.length : Nat))
theorem lenKvs_val {rows : Rw} {b : Int} : valV (lenKvs rows) (Sum.inl b : Key) = (rows.find? fun r => decide (r.1 = b)).map fun r => V.int (r.2.2.length : Nat) := by
  unfold valV lenKvs
  rw [List.find?_map, Option.map_map]
  have e : ((fun kv : Key × V => decide (kv.1 = (Sum.inl b : Key))) ∘ fun r : Int × Addr × List Addr => ((Sum.inl r.1 : Key), V.int (r.2.2.length : Nat))) = fun r => decide (r.1 = b) := by
    funext r
    show decide ((Sum.inl r.1 : Key) = Sum.inl b) = decide (r.1 = b)
    by_cases h : r.1 = b
    · simp [h]
    · simp [h]
  rw [e]; rfl
theorem inl_nodup {l : List Int} (h : l.Nodup) : (l.map (fun x => (Sum.inl x : Key))).Nodup := by
  induction l with
  | nil => exact List.nodup_nil
  | cons a l ih =>
    obtain ⟨h1, h2⟩ := List.nodup_cons.mp h
    rw [List.map_cons]
    refine List.nodup_cons.mpr ⟨fun m => ?_, ih h2⟩
    obtain ⟨y, hy, e⟩ := List.mem_map.mp m
    exact h1 (Sum.inl.inj e ▸ hy)
def SD.setPw (S : SD) (m : Option Int) : SD := { S with pw := m }
theorem SD.setPw_ok {S : SD} {m : Option Int} (h : S.Ok) (hm : ∀ i, m = some i → 0 ≤ i) : (S.setPw m).Ok := ⟨h.ln, h.cl, h.cr, h.out, hm⟩
def sp_shows (K : PySem.W.Frag) (C : Addr) : Sp := fun vs H Q _ => ∃ p F q G a S, ∃ m : Option Int, ∃ ms : List Int, vs = [.ref p, .ref q, .ref a] ∧ DS K C H p F (S.setPw m) ∧ BS K H q G S ∧ SqL K H a (ms.map V.int) ∧ a ∉ G ∧ (∀ m ∈ ms, 0 ≤ m ∧ m < S.lies.length) ∧ Bd S ∧ S.lies.length ≤ 600 ∧
  ∀ H', Same H H' → Q (.bl true) H'
theorem ok_law_shows (T : Txt K mg) : FnOk P w K mg base CX0 5 T.law_shows.f T.law_shows.fd ["disk", "book", "some"] ((sp_shows K T.C_Disk)) := by
  refine T.law_shows.F.ok sc_law_shows (fun vs H Q E h => ?_) (fun cdv A outer s H vs Q E hr h => ?_)
  · obtain ⟨p, F, q, G, a, S, pm, ms, rfl, _⟩ := h
    rfl
  · obtain ⟨p, F, q, G, a, S, pm, ms, rfl, ⟨D, hD, rfl, v⟩, ⟨B, hB, rfl, u⟩, ha, naG, hm, bd, l6, k⟩ := h
    refine ⟨_, (pss_cons (ps_if (PW.pt (pw_or (pt_cmpR (oNe (K := K) hr.units) (pe_meth0 (pv 0) T.k_Disk.cl T.m_Disk_blocks.i (ok_Disk_blocks T) (hr.mono (by decide)) T.m_Disk_blocks.b .nil pass0) (pe_callB (cLen (K := K)) (by rfl) T.z_len PySem.boot_len (pa_cons (pe_dget (hu_of hr) (pv 1) pe_str (fun _ _ => rfl)) pa_nil)) (nomark _)) (pw_or1 (pt_cmpR (oNe (K := K) hr.units) (pe_meth0 (pv 0) T.k_Disk.cl T.m_Disk_reached.i (ok_Disk_reached T) (hr.mono (by decide)) T.m_Disk_reached.b .nil pass0) (pe_dget (hu_of hr) (pv 1) pe_str (fun _ _ => rfl)) (nomark _))))) (pss_one (ps_ret pe_bl)) pss_nil)
    (pss_cons (ps_if (pt_cmpR (op_ne_dictA (Nat.lt_of_le_of_lt (Nat.le_add_right _ 64) hr.units)) (pe_meth0 (pv 0) T.k_Disk.cl T.m_Disk_waiting.i (ok_Disk_waiting T) (hr.mono (by decide)) T.m_Disk_waiting.b .nil pass0) (pe_callTy (call_dictP rfl) (by rfl) T.z_dict (by decide +kernel) (pa_cons (pe_lock (pe_lc (own := [("block", 3), ("row", 5)]) rfl sc_law_shows.nd (pi_items (pe_dget (hu_of hr) (pv 1) pe_str (fun _ _ => rfl))) (blkOk_by (N := n_law_shows) (sc := defScope s_law_shows) (by decide +kernel)) (fun _ _ _ _ _ => (pgTup (K := K) (n := 2) (pg_tup (n := 2) rfl (pgs_cons (pg_name (i := 3) sc_law_shows.nd rfl (Or.inl rfl)) (pgs_cons (pg_name (i := 5) sc_law_shows.nd rfl (Or.inl rfl)) pgs_nil))))) (fun _ _ _ _ _ => pts_nil) (fun _ _ _ _ _ => (pe_tup (pa_cons (pv 3) (pa_cons (pe_callB (cLen (K := K)) (by rfl) T.z_len PySem.boot_len (pa_cons (pv 5) pa_nil)) pa_nil)))))) pa_nil)) (nomark _)) (pss_one (ps_ret pe_bl)) pss_nil)
    (pss_cons (ps_for PassesOwn.never rfl (piL (K := K) (pv 2)) (pg_name (i := 3) sc_law_shows.nd rfl (Or.inl rfl))
      (pss_cons (ps_set (i := 4) sc_law_shows.nd rfl (Or.inl rfl) (pe_ifExp (pt_cmp (pc_din (hu_of hr) (pv 3) (pe_dget (hu_of hr) (pv 1) pe_str (fun _ _ => rfl)))) (pe_ix (ixLT (K := K)) (pe_dget (hu_of hr) (pe_dget (hu_of hr) (pv 1) pe_str (fun _ _ => rfl)) (pv 3) (fun _ _ => rfl)) (pe_un un_neg pe_int) (fun _ _ => rfl)) (pe_ix (ixLT (K := K)) (pe_dget (hu_of hr) (pv 1) pe_str (fun _ _ => rfl)) (pv 3) (fun _ _ => rfl))))
    (pss_one (ps_if (PW.pt (pw_or (pt_cmpR (oNe (K := K) hr.units) (pe_meth (pv 0) T.k_Disk.cl T.m_Disk_read.i (ok_Disk_read T) (hr.mono (by decide)) T.m_Disk_read.b .nil passL (pa_cons (pv 3) pa_nil)) (pv 4) (nomark _)) (pw_or1 (pt_cmpR (oNe (K := K) hr.units) (pe_meth (pv 0) T.k_Disk.cl T.m_Disk_lying.i (ok_Disk_lying T) (hr.mono (by decide)) T.m_Disk_lying.b .nil passL (pa_cons (pv 3) pa_nil)) (pe_ix (ixLT (K := K)) (pe_dget (hu_of hr) (pv 1) pe_str (fun _ _ => rfl)) (pv 3) (fun _ _ => rfl)) (nomark _))))) (pss_one (ps_ret pe_bl)) pss_nil))))
    (pss_one (ps_ret pe_bl))))), ?_⟩
    have lv : D.lies.length = S.lies.length := v.lv.1
    have lu := u.lv.1
    have rv1 : D.rc = S.rc := v.rc
    have ru1 := u.rc
    walk_at "go"
    refine m_call0 hD.ob (df_no _ _ _ _ (by decide +kernel)) ?_
    walk_at "go"
    refine ⟨p, D, rfl, hD, ?_⟩
    walk_at "go"
    refine e_dget ?_
    walk_at "go"
    refine o_dget (k := Sum.inr "lying") hB.ob (bkv_l _) ?_
    have hbl := slO (K := K) hB.hl
    walk_at "go"
    refine m_call0 hD.ob (df_no _ _ _ _ (by decide +kernel)) ?_
    walk_at "go"
    refine ⟨p, D, rfl, hD, ?_⟩
    walk_at "go"
    refine e_dget ?_
    walk_at "go"
    refine o_dget (k := Sum.inr "reached") hB.ob (bkv_r _) ?_
    walk_at "go"
    refine m_call0 hD.ob (df_no _ _ _ _ (by decide +kernel)) ?_
    walk_at "go"
    refine ⟨p, _, S.setPw pm, rfl, ⟨D, hD, rfl, v⟩, bd.few, bd.len, fun ns d1 H1 W s1 n1 h1 => ?_⟩
    walk_at "go"
    have hB1 := hB.ch (F := []) (Ch.of_same s1) (by simp)
    refine ⟨B.w, .dK (kvs_of B.rows), hB1.hw, trivial, fun od => ?_⟩
    have hL : upd H1 B.w (.frz od (.dK (kvs_of B.rows))) B.w = some (.frz od (.dK (kvs_of B.rows))) := upd_same
    have oL : ∀ x, x ≠ B.w → upd H1 B.w (.frz od (.dK (kvs_of B.rows))) x = H1 x := fun x hx => upd_ne hx
    generalize upd H1 B.w (.frz od (.dK (kvs_of B.rows))) = H2 at *
    walk_at "go"
    refine e_dget ?_
    walk_at "go"
    refine o_dget (k := Sum.inr "waits") ((oL _ hB1.pw).trans hB1.ob) (bkv_w _) ?_
    refine ⟨B.w, od, kvs_of B.rows, rfl, hL, ?_⟩
    have few : (B.rows.map (·.1)).length < 64 := by
      obtain ⟨L, hL1, hL2⟩ := bd.few
      have := len_le_of_sub hB.kd (L := L) fun x hx => hL2 x ((brows_mem hB u.rv x).mp hx)
      omega
    rw [List.length_map] at few
    refine c_it (walk_items (kvs := kvs_of B.rows)) (fun i acc H' => Same H2 H' ∧ ∃ ps : List Addr, acc = ps.map V.ref ∧ Paired (fun p kv => SqT K H' p [kV kv.1, kv.2]) ps ((lenKvs B.rows).take i)) (fun L hLn => ⟨upd_free (Same.refl _) hLn, [], rfl, .nil⟩) (fun i acc H' hi z => z.1 _ _ hL) (fun acc L H3 hLn hL3 z => ?_) (fun i x acc H3 H4 L hi hLn hL3 z y => ?_)
    rotate_left 1
    · obtain ⟨s3, ps, rfl, hps⟩ := z
      obtain ⟨t, x, y, rfl, nt, rfl, ex, ey⟩ := y
      rw [List.length_map] at hi
      have eg : (kvs_of B.rows)[i]? = some ((Sum.inl B.rows[i].1 : Key), V.ref B.rows[i].2.1) := by
        rw [List.getElem?_map, List.getElem?_eq_getElem hi]; rfl
      simp only [eg, Option.map_some] at ex ey
      obtain rfl := Option.some.inj ex
      obtain rfl := Option.some.inj ey
      have st : Same H3 (upd H3 t (.tup [kV (Sum.inl B.rows[i].1), V.ref B.rows[i].2.1])) := Same.new nt
      have ht : upd H3 t (.tup [kV (Sum.inl B.rows[i].1), V.ref B.rows[i].2.1]) t = some (.tup [.int B.rows[i].1, V.ref B.rows[i].2.1]) := upd_same
      generalize upd H3 t (.tup [kV (Sum.inl B.rows[i].1), V.ref B.rows[i].2.1]) = H4 at *
      refine g_pair ht ⟨rfl, ?_⟩
      have hrow := hB1.hr B.rows[i] (List.getElem_mem hi)
      have hrl : SqL K H4 B.rows[i].2.1 (B.rows[i].2.2.map V.ref) := slO (at_ (s3.trans st) ((oL _ (fun z => by have := hrow.1; rw [z, hB1.hw] at this; cases this)).trans hrow.1))
      walk_at "go"
      refine n_new (le_size (by simp)) fun t2 H5 n5 s5 h5 => ?_
      have s35 := s3.trans (st.trans s5)
      have hL5 := at_ (st.trans s5) hL3
      refine ⟨_, hL5, lt_size (by rw [List.length_map, hps.length, List.length_take]; unfold lenKvs; rw [List.length_map]; omega), _, upd_same, upd_free s35 hLn, ps ++ [t2], by rw [List.map_append]; rfl, ?_⟩
      have keep : ∀ c xs, SqT K H5 c xs → SqT K (upd H5 L (.lst (ps.map V.ref ++ [V.ref t2]))) c xs := fun c xs h => oth_st (fun b o nb z => by rw [upd_ne nb]; exact z) hL5 h
      have e9 : (lenKvs B.rows).take (i + 1) = (lenKvs B.rows).take i ++ [((Sum.inl B.rows[i].1 : Key), V.int (B.rows[i].2.2.length : Nat))] := by
        unfold lenKvs
        rw [List.take_add_one, List.getElem?_map, List.getElem?_eq_getElem hi]; rfl
      rw [e9]
      exact (L2.Paired.mapP hps fun c kv h => keep _ _ (st_ (st.trans s5) h)).snoc (keep _ _ (stO h5))
    · obtain ⟨s3, ps, rfl, hps⟩ := z
      refine ⟨s3 _ _ hL, ?_⟩
      have e8 : (lenKvs B.rows).take (kvs_of B.rows).length = lenKvs B.rows := by
        rw [List.length_map]
        exact List.take_of_length_le (by unfold lenKvs; rw [List.length_map]; exact Nat.le_refl _)
      rw [e8] at hps
      have nwL : L ≠ B.w := fun z => by rw [z, hL] at hLn; cases hLn
      have hw5 : upd H3 B.w (.dK (kvs_of B.rows)) B.w = some (.dK (kvs_of B.rows)) := upd_same
      have o5 : ∀ x, x ≠ B.w → upd H3 B.w (.dK (kvs_of B.rows)) x = H3 x := fun x hx => upd_ne hx
      have h3w := s3 _ _ hL
      have keep : ∀ c xs, SqT K H3 c xs → SqT K (upd H3 B.w (.dK (kvs_of B.rows))) c xs := fun c xs h => by
        rcases h with (h | ⟨uu, h⟩) | h
        · exact .inl (.inl (by rw [upd_ne (fun z => by rw [z, h3w] at h; cases h)]; exact h))
        · exact .inl (.inr ⟨uu, by rw [upd_ne (fun z => by rw [z, h3w] at h; cases h)]; exact h⟩)
        · exact .inr h
      have hps5 : Paired (fun p kv => SqT K (upd H3 B.w (.dK (kvs_of B.rows))) p [kV kv.1, kv.2]) ps (lenKvs B.rows) := L2.Paired.mapP hps fun c kv h => keep _ _ h
      generalize upd H3 B.w (.dK (kvs_of B.rows)) = H5 at *
      have s15 : Same H1 H5 := fun x o e => by
        by_cases z : x = B.w
        · rw [z, hB1.hw] at e; cases e
          rw [z]; exact hw5
        · rw [o5 x z]; exact s3 _ _ ((oL x z).trans e)
      walk_at "go"
      refine ⟨L, ps, lenKvs B.rows, rfl, slO ((o5 _ nwL).trans hL3), hps5, fun dn nd => ?_⟩
      have em : mergeK [] (lenKvs B.rows) = lenKvs B.rows := by
        rw [merge_nodup (by unfold lenKvs; rw [List.map_map]; exact (List.map_map (l := B.rows) (f := fun r => r.1) (g := fun x => (Sum.inl x : Key))) ▸ inl_nodup hB.kd) (fun kv hk => rfl)]
        rfl
      rw [em]
      have s6 : Same H5 (upd H5 dn (.dK (lenKvs B.rows))) := Same.new nd
      have h6 : upd H5 dn (.dK (lenKvs B.rows)) dn = some (.dK (lenKvs B.rows)) := upd_same
      generalize upd H5 dn (.dK (lenKvs B.rows)) = H6 at *
      have s16 := s15.trans s6
      have s06 := s1.trans s16
      refine ⟨d1, dn, waitKvs S ns, lenKvs B.rows, rfl, rfl, at_ s16 h1, h6, ?_, fun kv hk => ?_, ?_⟩
      · unfold waitKvs lenKvs
        rw [List.length_map, List.length_map]
        have a1 := len_le_of_sub (W.asc.imp (fun {a b} h => by intro z; omega)) (L := B.rows.map (·.1)) fun x hx => (brows_mem hB u.rv x).mpr ((W.mem x).mp hx)
        have a2 := len_le_of_sub hB.kd (L := ns) fun x hx => (W.mem x).mpr ((brows_mem hB u.rv x).mp hx)
        rw [List.length_map] at a1 a2
        omega
      · obtain ⟨b, hb, e⟩ := List.mem_map.mp hk
        subst e
        have hn := (W.mem b).mp hb
        obtain ⟨r, ef, _, _, tu⟩ := u.rv.there hn
        refine ⟨?_, rfl⟩
        rw [lenKvs_val, ef, ← tu.1]; rfl
      · walk_at "go"
        have ha6 := sl_ s06 ha
        have hD6 := hD.same s06
        have hB6 := hB.ch (F := []) (Ch.of_same s06) (by simp)
        have v6 := v.ch (F := []) (Ch.of_same s06)
        have u6 := u.ch (F := []) (Ch.of_same s06)
        refine i_lst ha6 ?_
        refine l_lst (xs := ms.map V.int) (fun i σ7 H7 => Same H6 H7 ∧ ∃ y1 y2 y3, σ7 = [some (.ref p), some (.ref q), some (.ref a), y1, y2, y3]) ⟨Same.refl _, none, none, none, rfl⟩ (fun i σ7 H7 hi z => sl_ z.1 ha6) (fun σ7 H7 z => ?_) (fun i x σ7 H7 hx z => ?_)
        · obtain ⟨s7, y1, y2, y3, rfl⟩ := z
          walk_at "go"
          exact k _ (s06.trans s7)
        · obtain ⟨s7, y1, y2, y3, rfl⟩ := z
          have hi : i < ms.length := by
            have := (List.getElem?_eq_some_iff.mp hx).1
            simpa using this
          have ex : x = .int ms[i] := by
            rw [List.getElem?_map, List.getElem?_eq_getElem hi] at hx
            exact (Option.some.inj hx).symm
          subst ex
          have hmi := hm ms[i] (List.getElem_mem hi)
          generalize ms[i] = b at *
          have hD7 := hD6.same s7
          have hB7 := hB6.ch (F := []) (Ch.of_same s7) (by simp)
          have v7 := v6.ch (F := []) (Ch.of_same s7)
          have u7 := u6.ch (F := []) (Ch.of_same s7)
          walk_at "go"
          obtain ⟨c, xs, e1, e2, tc, ok⟩ := shows_at v7 (fun r hr => (hD7.hr r hr).2) hmi.1 hmi.2
          have hl : b.toNat < S.lies.length := by omega
          obtain ⟨c3, el3, tl3⟩ := v7.lv.get (List.getElem?_eq_getElem hl)
          obtain ⟨c4, el4, tl4⟩ := u7.lv.get (List.getElem?_eq_getElem hl)
          have okl := v.ok.cl _ (List.getElem_mem hl)
          have hbl7 := slO (K := K) hB7.hl
          refine e_dget ?_
          walk_at "go"
          refine o_dget (k := Sum.inr "waits") hB7.ob (bkv_w _) ?_
          refine ⟨_, _, rfl, DGet.k (k := Sum.inl b) hB7.hw, ?_⟩
          have fin : ∃ d, SqT K H7 d xs ∧ ((∃ r, B.rows.find? (fun r => decide (r.1 = b)) = some r ∧ r.2.2 ≠ [] ∧ H7 r.2.1 = some (.lst (r.2.2.map V.ref)) ∧ r.2.2[r.2.2.length - 1]? = some d) ∨ (B.rows.find? (fun r => decide (r.1 = b)) = none ∧ B.lies[b.toNat]? = some d)) := by
            have e2 : (if S.rows b = [] then S.lies[b.toNat]? else (S.rows b)[(S.rows b).length - 1]?) = some xs := e2
            cases eb : B.rows.find? (fun r => decide (r.1 = b)) with
            | none =>
              have := u.rv.non eb
              rw [if_pos this, List.getElem?_eq_getElem hl] at e2
              exact ⟨c4, by rw [← Option.some.inj e2]; exact tl4, .inr ⟨rfl, el4⟩⟩
            | some r =>
              have tu := u7.rv.som eb
              have hr := hB7.hr r (List.mem_of_find?_eq_some eb)
              have nz : S.rows b ≠ [] := fun z => by
                rw [z] at tu
                exact hr.2 (List.length_eq_zero_iff.mp tu.1)
              rw [if_neg nz] at e2
              obtain ⟨d, f1, f2⟩ := tu.get e2
              exact ⟨d, f2, .inl ⟨r, rfl, hr.2, hr.1, by rw [tu.1]; exact f1⟩⟩
          obtain ⟨d, td, z | z⟩ := fin
          · obtain ⟨r, ef, ner, hr, ed⟩ := z
            rw [show (valV (kvs_of B.rows) (Sum.inl b : Key)).isSome = true by rw [val_row, ef]; rfl]
            walk_at "go"
            refine e_dget ?_
            walk_at "go"
            refine e_dget ?_
            walk_at "go"
            refine o_dget (k := Sum.inr "waits") hB7.ob (bkv_w _) ?_
            walk_at "go"
            refine o_dget (k := Sum.inl b) hB7.hw (by rw [val_row, ef]; rfl) ?_
            walk_at "go"
            have pos : 0 < r.2.2.length := List.length_pos_iff.mpr ner
            refine o_ixL (slO hr) (atI_neg (by rw [List.length_map]; exact pos) (by rw [List.length_map, List.getElem?_map, ed]; rfl)) ?_
            walk_at "go"
            refine m_call0 hD7.ob (df_no _ _ _ _ (by decide +kernel)) ?_
            walk_at "go"
            refine .inl ⟨p, D, b, c, rfl, hD7, hmi.1, by omega, e1, ?_⟩
            walk_at "go"
            refine o_neC tc td ok ?_
            walk_at "go"
            refine m_call0 hD7.ob (df_no _ _ _ _ (by decide +kernel)) ?_
            walk_at "go"
            refine .inl ⟨p, D, b, c3, rfl, hD7, hmi.1, el3, ?_⟩
            walk_at "go"
            refine e_dget ?_
            walk_at "go"
            refine o_dget (k := Sum.inr "lying") hB7.ob (bkv_l _) ?_
            walk_at "go"
            refine o_ixL hbl7 (atI_in (j := b.toNat) (by omega) (by rw [List.getElem?_map, el4]; rfl)) ?_
            refine o_neC tl3 tl4 okl ?_
            walk_at "go"
            exact ⟨s7, _, _, _, rfl⟩
          · obtain ⟨ef, ed⟩ := z
            rw [show (valV (kvs_of B.rows) (Sum.inl b : Key)).isSome = false by rw [val_row, ef]; rfl]
            walk_at "go"
            refine e_dget ?_
            walk_at "go"
            refine o_dget (k := Sum.inr "lying") hB7.ob (bkv_l _) ?_
            walk_at "go"
            refine o_ixL hbl7 (atI_in (j := b.toNat) (by omega) (by rw [List.getElem?_map, ed]; rfl)) ?_
            walk_at "go"
            refine m_call0 hD7.ob (df_no _ _ _ _ (by decide +kernel)) ?_
            walk_at "go"
            refine .inl ⟨p, D, b, c, rfl, hD7, hmi.1, by omega, e1, ?_⟩
            walk_at "go"
            refine o_neC tc td ok ?_
            walk_at "go"
            refine m_call0 hD7.ob (df_no _ _ _ _ (by decide +kernel)) ?_
            walk_at "go"
            refine .inl ⟨p, D, b, c3, rfl, hD7, hmi.1, el3, ?_⟩
            walk_at "go"
            refine e_dget ?_
            walk_at "go"
            refine o_dget (k := Sum.inr "lying") hB7.ob (bkv_l _) ?_
            walk_at "go"
            refine o_ixL hbl7 (atI_in (j := b.toNat) (by omega) (by rw [List.getElem?_map, el4]; rfl)) ?_
            refine o_neC tl3 tl4 okl ?_
            walk_at "go"
            exact ⟨s7, _, _, _, rfl⟩
end
end Vw

set_option Elab.async false
set_option linter.all false
set_option maxRecDepth 100000
set_option maxHeartbeats 4000000
namespace Vw
open PySem PySem.Spec PyProof.Rows L2 RT
local macro_rules | `(tactic| walk_at "s") => `(tactic| with_reducible first
  | refine' s_seq ?_ | refine' s_next ?_ | refine' s_set ?_ | refine' s_ret ?_ | refine' s_retN ?_ | refine' s_drop ?_ | refine' s_if ?_ | refine' s_ipI ?_
  | refine' e_c ?_ | refine' e_op ?_ | refine' e_un ?_ | refine' e_neg ?_ | refine' e_test ?_ | refine' e_tB ?_ | refine' e_bl ?_ | refine' e_and ?_ | refine' e_or ?_ | refine' e_not ?_
  | refine' e_andV ?_ | refine' e_orV ?_ | refine' e_notV ?_ | refine' e_kV ?_ | refine' e_ife ?_ | refine' e_nil ?_ | refine' e_cons ?_ | refine' e_cb ?_ | refine' e_call ?_ | refine' e_chain ?_
  | refine' o_addI ?_ | refine' o_eqI ?_ | refine' o_neI ?_ | refine' o_I0 ?_ | refine' o_pow16 ?_ | refine' o_pow17 ?_ | refine' o_pow18 ?_ | refine' o_pow19 ?_ | refine' o_pow30 ?_ | refine' o_pow31 ?_ | refine' o_pow1 ?_ | refine' o_pow2 ?_ | refine' o_pow3 ?_ | refine' o_pow4 ?_ | refine' o_pow5 ?_ | refine' o_pow6 ?_ | refine' o_pow9 ?_ | refine' o_pow10 ?_ | refine' o_pow12 ?_ | refine' o_pow15 ?_ | refine' o_pow20 ?_ | refine' e_lst ?_ | refine' e_tup ?_ | refine' iteT ?_ | refine' i_nt ?_ | refine' i_nf ?_ | refine' iteF ?_ | refine' c_int ?_ | refine' c_abs ?_ | refine' c_min2 ?_ | refine' c_max2 ?_ | refine' e_tru ?_ | refine' t_bl ?_ | refine' t_non ?_ | refine' t_int ?_ | refine' isN_non ?_ | refine' isN_int ?_ | refine' isN_ref ?_ | refine' isN_str ?_ | refine' isN_bl ?_ | refine' noN_non ?_ | refine' noN_int ?_ | refine' noN_ref ?_ | refine' noN_str ?_ | refine' noN_bl ?_
  | refine' s_brk ?_ | refine' s_cont ?_ | refine' s_for ?_ | refine' e_lc ?_ | refine' e_dc ?_ | refine' e_yes ?_ | refine' i_rng1 ?_ | refine' i_lst0 ?_ | refine' i_tup0 ?_ | refine' e_bm ?_ | refine' e_sl ?_ | refine' e_np ?_ | refine' e_pt ?_ | refine' e_ptI ?_ | refine' e_din ?_ | refine' e_dnin ?_ | refine' e_methE ?_ | refine' p_cons ?_ | refine' p_nil ?_ | refine' s_dput ?_ | refine' e_dget2 ?_ | refine' e_dpop1 ?_ | refine' i_enum0 ?_ | refine' i_rev0 ?_ | refine' g_sub ?_ | refine' s_asg ?_ | refine' i_zip0 ?_ | refine' e_revT ?_ | refine' isB_bl ?_ | refine' notB_bl ?_ | refine' o_neB ?_ | refine' i_nrr ?_ | refine' e_meth ?_ | refine' s_setf ?_ | refine' e_fld ?_ | refine' e_bm0 ?_ | refine' r_tx ?_ | refine' o_eqStr ?_ | refine' o_neStr ?_)
local macro_rules | `(tactic| walk_at "v") => `(tactic| ((with_reducible refine' e_var ?hv ?_); (case hv => exact rfl)))
local macro_rules | `(tactic| walk_at "a") => `(tactic| ((with_reducible refine' s_aug ?hv ?_); (case hv => exact rfl)))
local macro_rules | `(tactic| walk_at "m") => `(tactic| first
  | ((with_reducible refine' o_mod ?hv ?_); (case hv => first | decide | omega))
  | ((with_reducible refine' o_mulR ?hv ?_); (case hv => omega))
  | ((with_reducible refine' o_mulL ?hv ?_); (case hv => omega))
  | ((with_reducible refine' o_div ?hv ?hw ?_); (case hv => omega); (case hw => omega))
  | ((with_reducible refine' o_pow _ ?hv ?hw ?hx ?_); (case hv => exact rfl); (case hw => decide); (case hx => decide)))
local macro_rules | `(tactic| walk_at "i") => `(tactic| (first
  | ((with_reducible refine' isi_int true ?hv ?_); (case hv => exact (by decide +kernel)))
  | ((with_reducible refine' isi_int false ?hv ?_); (case hv => exact (by decide +kernel)))
  | ((with_reducible refine' isi_non true ?hv ?_); (case hv => exact (by decide +kernel)))
  | ((with_reducible refine' isi_non false ?hv ?_); (case hv => exact (by decide +kernel)))
  | ((with_reducible refine' isi_str true ?hv ?_); (case hv => exact (by decide +kernel)))
  | ((with_reducible refine' isi_str false ?hv ?_); (case hv => exact (by decide +kernel)))
  | ((with_reducible refine' isi_bl true ?hv ?_); (case hv => exact (by decide +kernel)))
  | ((with_reducible refine' isi_bl false ?hv ?_); (case hv => exact (by decide +kernel)))
  | ((with_reducible refine' isi_t true ?hw ?hv ?_); (case hw => assumption); (case hv => exact (by decide +kernel)))
  | ((with_reducible refine' isi_t false ?hw ?hv ?_); (case hw => assumption); (case hv => exact (by decide +kernel)))
  | ((with_reducible refine' isi_l true ?hw ?hv ?_); (case hw => assumption); (case hv => exact (by decide +kernel)))
  | ((with_reducible refine' isi_l false ?hw ?hv ?_); (case hw => assumption); (case hv => exact (by decide +kernel)))
  | ((with_reducible refine' isi_tup true ?hw ?hv ?_); (case hw => assumption); (case hv => exact (by decide +kernel)))
  | ((with_reducible refine' isi_tup false ?hw ?hv ?_); (case hw => assumption); (case hv => exact (by decide +kernel)))
  | ((with_reducible refine' isi_lst true ?hw ?hv ?_); (case hw => assumption); (case hv => exact (by decide +kernel)))
  | ((with_reducible refine' isi_lst false ?hw ?hv ?_); (case hw => assumption); (case hv => exact (by decide +kernel)))))
local macro_rules | `(tactic| walk_at "om") => `(tactic| first | omega | (simp only [List.length_cons, List.length_nil, List.length_map, List.length_append, List.length_range]; omega))
local macro_rules | `(tactic| walk_at "d") => `(tactic| (first
  | ((with_reducible refine' i_dt ?hv ?_); (case hv => walk_at "om"))
  | ((with_reducible refine' i_df ?hv ?_); (case hv => walk_at "om"))
  | ((with_reducible refine' i_ndt ?hv ?_); (case hv => walk_at "om"))
  | ((with_reducible refine' i_ndf ?hv ?_); (case hv => walk_at "om"))))
local macro_rules | `(tactic| walk_at "x") => `(tactic| first
  | ((with_reducible refine' o_ixA ?hv ?hw ?_); (case hv => assumption); (case hw => exact rfl))
  | ((with_reducible refine' o_ixU ?hv ?hw ?_); (case hv => assumption); (case hw => exact rfl))
  | ((with_reducible refine' o_ixL ?hv ?hw ?_); (case hv => assumption); (case hw => exact rfl))
  | ((with_reducible refine' o_ixT ?hv ?hw ?_); (case hv => assumption); (case hw => exact rfl))
  | ((with_reducible refine' set_ ?hv ?hw ?_); (case hv => assumption); (case hw => exact rfl))
  | ((with_reducible refine' e_lenM ?hv ?_); (case hv => first | assumption | exact slO (by assumption)))
  | ((with_reducible refine' e_lenN ?hv ?_); (case hv => first | assumption | exact stO (by assumption)))
  | ((with_reducible refine' e_lenL ?hv ?_); (case hv => first | assumption | exact slO (by assumption)))
  | ((with_reducible refine' e_lenT ?hv ?_); (case hv => first | assumption | exact stO (by assumption))))
local macro_rules | `(tactic| walk_at "c") => `(tactic| first
  | ((with_reducible refine' c_listL ?hv ?_); (case hv => assumption))
  | ((with_reducible refine' c_listT ?hv ?_); (case hv => assumption))
  | ((with_reducible refine' c_tupL ?hv ?_); (case hv => first | assumption | exact slO (by assumption)))
  | ((with_reducible refine' c_tupT ?hv ?_); (case hv => assumption))
  | ((with_reducible refine' t_lst ?hv ?_); (case hv => first | assumption | exact slO (by assumption)))
  | ((with_reducible refine' t_tup ?hv ?_); (case hv => assumption))
  | ((with_reducible refine' r_sl ?hv ?_); (case hv => first | assumption | exact slO (by assumption)))
  | ((with_reducible refine' o_inL ?hv ?_); (case hv => first | assumption | exact slO (by assumption)))
  | ((with_reducible refine' o_inT ?hv ?_); (case hv => first | assumption | exact stO (by assumption)))
  | ((with_reducible refine' o_niL ?hv ?_); (case hv => first | assumption | exact slO (by assumption)))
  | ((with_reducible refine' o_niT ?hv ?_); (case hv => first | assumption | exact stO (by assumption)))
  | ((with_reducible refine' ty_lst ?hv ?_); (case hv => assumption)))
local macro_rules | `(tactic| walk_at "mo") => `(tactic| repeat' (first | exact m_yes | exact m_var | exact m_c | exact m_I0 | exact m_I | exact m_ix | exact m_add | exact m_in | exact m_int1 | exact m_abs | exact m_nil | refine' m_and ?_ ?_ | refine' m_test ?_ | refine' m_tB ?_ | refine' m_op ?_ ?_ ?_ | refine' m_cons ?_ ?_ | refine' m_cb ?_ ?_))
local macro_rules | `(tactic| walk_at "go") => `(tactic| repeat' (first | walk_at "s" | walk_at "v" | walk_at "a" | walk_at "x" | walk_at "m" | walk_at "c" | walk_at "i" | walk_at "d"))

/-! ### the word for what a call does -/
abbrev n_law_word4 : List Str := ["call", "word", "flags", "e"]
theorem sc_law_word4 : FnScope n_law_word4 ["call"] (defScope s_law_word) := ⟨rfl, rfl, rfl, by decide +kernel, rfl, by decide +kernel, by decide +kernel⟩
def wHds : List Stmt → List ExceptHandler
  | [_, Stmt.Try _ hds _ _ _, _] => hds
  | _ => []
def wBody : List ExceptHandler → Nat → List Stmt
  | ExceptHandler.ExceptHandler _ _ b _ :: _, 0 => b
  | _ :: r, n + 1 => wBody r n
  | _, _ => []
abbrev wSuite : List Stmt := wBody (wHds (defBody s_law_word)) 0
abbrev wX (X : Cx) (g : Addr) (cdg : Value) (s : Shared) (H : Hp) : Cx := (cxOf C8.CX0 X.prog X.w X.K X.mg X.base n_law_word4 "_law_word" (defScope s_law_word) g cdg X.A X.stack s H C8.E0).nox
def wWords : List V := [.str "disk", .str "block", .str "content", .str "nothing", .str "number"]
/-- the flags of an error -/
def wFl (j : Nat) : List V := [.bl (decide (0 = j)), .bl (decide (1 = j)), .bl (decide (2 = j)), .bl (decide (3 = j)), .bl (decide (4 = j))]
/-- what is asked of a class D: it is the one named at j -/
structure WOk (K : PySem.W.Frag) (D N : Addr) (Cs : List Addr) (j : Nat) : Prop where
  s : PySem.W.exmOne K (.ref D) (.ref N) = some true
  x : L2.ExcC K D
  k : ∀ i C, Cs[i]? = some C → PySem.W.kitOne K (.ref D) (.ref C) = some (decide (i = j))
  v : PySem.W.kitOne K (.ref D) (.type "ValueError") = some true
abbrev wCs {K : PySem.W.Frag} {mg : Str → Option Value} (T : Txt K mg) : List Addr := [T.e_BadDisk.C, T.e_NoBlock.C, T.e_NoContent.C, T.e_NothingWaits.C, T.e_NoNumber.C]
theorem wCnt_s {X : Cx} (g : Addr) (cdg : Value) (s : Shared) (H0 : Hp) (a : Addr) (oe : Obj) (pn : List (Addr × Obj)) :
    PE ((wX X g cdg s H0).suite a ((a, oe) :: pn)) (.Call (.Attribute (.Name "flags" ⟨201, 11, 201, 16⟩) "count" ⟨201, 11, 201, 22⟩) [.Constant (.bool true) 0 ⟨201, 23, 201, 27⟩] [] ⟨201, 11, 201, 28⟩) (tBM X.K "list" (rCntF X.K) (tVar 2) (tCons (tC (.bl true)) tNil)) :=
  pe_bm PySem.F.plainAttrs_list PySem.F.slot_list_count PySem.F.type_list_count mt_cntF (pe_var (i := 2) rfl (Or.inl rfl) (by decide) (by decide)) (pa_cons pe_bl pa_nil)
theorem wIdx_s {X : Cx} (g : Addr) (cdg : Value) (s : Shared) (H0 : Hp) (a : Addr) (oe : Obj) (pn : List (Addr × Obj)) :
    PE ((wX X g cdg s H0).suite a ((a, oe) :: pn)) (.Call (.Attribute (.Name "flags" ⟨202, 69, 202, 74⟩) "index" ⟨202, 69, 202, 80⟩) [.Constant (.bool true) 0 ⟨202, 81, 202, 85⟩] [] ⟨202, 69, 202, 86⟩) (tBM X.K "list" (rIndex X.K) (tVar 2) (tCons (tC (.bl true)) tNil)) :=
  pe_bm PySem.F.plainAttrs_list PySem.F.slot_list_index PySem.F.type_list_index mt_index (pe_var (i := 2) rfl (Or.inl rfl) (by decide) (by decide)) (pa_cons pe_bl pa_nil)
theorem wSuite_s {X : Cx} (T : Txt X.K X.mg) (g : Addr) (cdg : Value) (s : Shared) (H0 : Hp) (D : Addr) (j : Nat) (hj : j < 5) (ok : WOk X.K D T.N_StoreError (wCs T) j) : ∃ t : Addr → TS, (∀ (a : Addr) (oe : Obj) (k : Value) (d : Option Addr) (pn : List (Addr × Obj)), Zc k d oe → (∃ vs, oe.data = .fields vs) → k = .ref D → d = none → PSs ((wX X g cdg s H0).suite a ((a, oe) :: pn)) wSuite (t a)) ∧
    ∀ (a : Addr) (y0 y1 y2 : Option V) (E : Ends) (H : Hp) (wd : V), wWords[j]? = some wd → (∀ H' y2', Same H H' → E.nx [y0, some wd, y2', some (.ref a)] H') → t a E [y0, y1, y2, some (.ref a)] H := by
  apply Exists.intro
  refine And.intro (fun a oe k d pn hz hf hk hd => ?_) fun a y0 y1 y2 E H wd hw q => ?_
  · subst hk hd
    exact pss_cons (ps_set (i := 2) sc_law_word4.nd rfl (Or.inl rfl) (pe_lst (pa_cons (pe_callB (call_isE ok.x hz hf) (by rfl) T.z_isinstance (by decide +kernel) (pa_cons (pe_var (i := 3) rfl (Or.inl rfl) (by decide) (by decide)) (pa_cons (C8.pe_gc (v := .ref T.e_BadDisk.C) (by rfl) ⟨_, T.e_BadDisk.g, rfl⟩) pa_nil))) (pa_cons (pe_callB (call_isE ok.x hz hf) (by rfl) T.z_isinstance (by decide +kernel) (pa_cons (pe_var (i := 3) rfl (Or.inl rfl) (by decide) (by decide)) (pa_cons (C8.pe_gc (v := .ref T.e_NoBlock.C) (by rfl) ⟨_, T.e_NoBlock.g, rfl⟩) pa_nil))) (pa_cons (pe_callB (call_isE ok.x hz hf) (by rfl) T.z_isinstance (by decide +kernel) (pa_cons (pe_var (i := 3) rfl (Or.inl rfl) (by decide) (by decide)) (pa_cons (C8.pe_gc (v := .ref T.e_NoContent.C) (by rfl) ⟨_, T.e_NoContent.g, rfl⟩) pa_nil))) pa_nil)))))
      (pss_cons (ps_set (i := 2) sc_law_word4.nd rfl (Or.inl rfl) (pe_op (oAdd (X := (wX X g cdg s H0).suite a ((a, oe) :: pn))) (pe_var (i := 2) rfl (Or.inl rfl) (by decide) (by decide)) (pe_lst (pa_cons (pe_callB (call_isE ok.x hz hf) (by rfl) T.z_isinstance (by decide +kernel) (pa_cons (pe_var (i := 3) rfl (Or.inl rfl) (by decide) (by decide)) (pa_cons (C8.pe_gc (v := .ref T.e_NothingWaits.C) (by rfl) ⟨_, T.e_NothingWaits.g, rfl⟩) pa_nil))) (pa_cons (pe_callB (call_isE ok.x hz hf) (by rfl) T.z_isinstance (by decide +kernel) (pa_cons (pe_var (i := 3) rfl (Or.inl rfl) (by decide) (by decide)) (pa_cons (C8.pe_gc (v := .ref T.e_NoNumber.C) (by rfl) ⟨_, T.e_NoNumber.g, rfl⟩) pa_nil))) pa_nil)))))
      (pss_cons (ps_set (i := 1) sc_law_word4.nd rfl (Or.inl rfl) pe_str)
      (pss_one (ps_if (PW.pt (pw_and (pt_cmpR op_eq (wCnt_s g cdg s H0 a oe pn) pe_int (nomark _)) (pw_and1 (ptTruth (K := X.K) (pe_callB (call_isE ok.x hz hf) (by rfl) T.z_isinstance (by decide +kernel) (pa_cons (pe_var (i := 3) rfl (Or.inl rfl) (by decide) (by decide)) (pa_cons (pe_bltn (v := .ty "ValueError") (by rfl) T.z_ValueError (by decide +kernel) rfl) pa_nil))) (by intro _; rfl)))))
        (pss_one (ps_set (i := 1) sc_law_word4.nd rfl (Or.inl rfl) (pe_ix (ixLT (K := X.K)) (pe_lst (pa_cons pe_str (pa_cons pe_str (pa_cons pe_str (pa_cons pe_str (pa_cons pe_str pa_nil)))))) (wIdx_s g cdg s H0 a oe pn) (fun _ _ => rfl)))) pss_nil))))
  · have is_ : ∀ (i : Nat) (C : Addr), (wCs T)[i]? = some C → ∀ {Q : VK} {H : Hp}, Q (.bl (decide (i = j))) H → rIsE X.K D a [.ref a, .ref C] H Q := fun i C e {Q} {H} q => ⟨_, _, _, rfl, fun u r => (by cases r; rfl), ok.k i C e, q⟩
    have hcnt : (wFl j).countP (fun z => eqV z (.bl true)) = 1 := by
      rcases (show j = 0 ∨ j = 1 ∨ j = 2 ∨ j = 3 ∨ j = 4 by omega) with rfl | rfl | rfl | rfl | rfl <;> rfl
    have hat : (wFl j)[j]? = some (.bl true) := by
      rcases (show j = 0 ∨ j = 1 ∨ j = 2 ∨ j = 3 ∨ j = 4 by omega) with rfl | rfl | rfl | rfl | rfl <;> rfl
    have hno : ∀ (m : Nat) (z : V), m < j → (wFl j)[m]? = some z → eqV z (.bl true) = false := fun m z hm e => by
      have e : some (V.bl (decide (m = j))) = some z := by
        rw [← e]
        rcases (show m = 0 ∨ m = 1 ∨ m = 2 ∨ m = 3 by omega) with rfl | rfl | rfl | rfl <;> rfl
      cases e
      rw [decide_eq_false (by omega)]; rfl
    walk_at "go"
    refine is_ 0 _ rfl ?_
    walk_at "go"
    refine is_ 1 _ rfl ?_
    walk_at "go"
    refine is_ 2 _ rfl ?_
    walk_at "go"
    refine n_new (le_size (by simp)) fun l1 H1 n1 s1 h1 => ?_
    walk_at "go"
    refine is_ 3 _ rfl ?_
    walk_at "go"
    refine is_ 4 _ rfl ?_
    walk_at "go"
    refine n_new (le_size (by simp)) fun l2 H2 n2 s2 h2 => ?_
    refine o_cat (s2 _ _ h1) h2 (by simp) ?_
    refine n_new0 fun l3 H3 n3 s3 h3 => ?_
    have h3 : H3 l3 = some (.lst (wFl j)) := h3
    walk_at "go"
    refine o_cntF (slO h3) rfl rfl ?_
    rw [hcnt]
    walk_at "go"
    refine ⟨rfl, true, rfl, ?_⟩
    walk_at "go"
    refine ⟨_, _, true, rfl, fun u r => (by cases r; rfl), ok.v, ?_⟩
    walk_at "go"
    refine n_new (le_size (by simp)) fun l4 H4 n4 s4 h4 => ?_
    have h34 := s4 _ _ h3
    walk_at "go"
    refine ⟨l3, wFl j, .bl true, j, .bl true, rfl, rfl, slO h34, rfl, rfl, hat, rfl, hno, ?_⟩
    refine o_ixA h4 (atI_in (j := j) rfl hw) ?_
    walk_at "go"
    exact q H4 _ (s1.trans (s2.trans (s3.trans s4)))
theorem wok {K : PySem.W.Frag} {mg : Str → Option Value} (T : Txt K mg) : ∀ j : Nat, j < 5 → ∃ C, (wCs T)[j]? = some C ∧ WOk K C T.N_StoreError (wCs T) j
  | 0, _ => ⟨_, rfl, ⟨T.xs_BadDisk, T.x_BadDisk, fun i C e => (match i, e with
    | 0, e => (by cases e; exact T.k_BadDisk_BadDisk)
    | 1, e => (by cases e; exact T.k_BadDisk_NoBlock)
    | 2, e => (by cases e; exact T.k_BadDisk_NoContent)
    | 3, e => (by cases e; exact T.k_BadDisk_NothingWaits)
    | 4, e => (by cases e; exact T.k_BadDisk_NoNumber)), T.kv_BadDisk⟩⟩
  | 1, _ => ⟨_, rfl, ⟨T.xs_NoBlock, T.x_NoBlock, fun i C e => (match i, e with
    | 0, e => (by cases e; exact T.k_NoBlock_BadDisk)
    | 1, e => (by cases e; exact T.k_NoBlock_NoBlock)
    | 2, e => (by cases e; exact T.k_NoBlock_NoContent)
    | 3, e => (by cases e; exact T.k_NoBlock_NothingWaits)
    | 4, e => (by cases e; exact T.k_NoBlock_NoNumber)), T.kv_NoBlock⟩⟩
  | 2, _ => ⟨_, rfl, ⟨T.xs_NoContent, T.x_NoContent, fun i C e => (match i, e with
    | 0, e => (by cases e; exact T.k_NoContent_BadDisk)
    | 1, e => (by cases e; exact T.k_NoContent_NoBlock)
    | 2, e => (by cases e; exact T.k_NoContent_NoContent)
    | 3, e => (by cases e; exact T.k_NoContent_NothingWaits)
    | 4, e => (by cases e; exact T.k_NoContent_NoNumber)), T.kv_NoContent⟩⟩
  | 3, _ => ⟨_, rfl, ⟨T.xs_NothingWaits, T.x_NothingWaits, fun i C e => (match i, e with
    | 0, e => (by cases e; exact T.k_NothingWaits_BadDisk)
    | 1, e => (by cases e; exact T.k_NothingWaits_NoBlock)
    | 2, e => (by cases e; exact T.k_NothingWaits_NoContent)
    | 3, e => (by cases e; exact T.k_NothingWaits_NothingWaits)
    | 4, e => (by cases e; exact T.k_NothingWaits_NoNumber)), T.kv_NothingWaits⟩⟩
  | 4, _ => ⟨_, rfl, ⟨T.xs_NoNumber, T.x_NoNumber, fun i C e => (match i, e with
    | 0, e => (by cases e; exact T.k_NoNumber_BadDisk)
    | 1, e => (by cases e; exact T.k_NoNumber_NoBlock)
    | 2, e => (by cases e; exact T.k_NoNumber_NoContent)
    | 3, e => (by cases e; exact T.k_NoNumber_NothingWaits)
    | 4, e => (by cases e; exact T.k_NoNumber_NoNumber)), T.kv_NoNumber⟩⟩
  | j + 5, h => absurd h (by omega)
def TWord (Cs : List Addr) : (XK → Hp → VK → Prop) → Hp → VK → Prop := fun tl H Q => tl (fun cls d H' => d = none ∧ ∃ (j : Nat) (C : Addr) (wd : V), Cs[j]? = some C ∧ cls = .ref C ∧ wWords[j]? = some wd ∧ ∀ H'', Same H' H'' → Q wd H'') H fun _ H' => Q (.str "let") H'
theorem word_gives {X : Cx} (T : Txt X.K X.mg) {q : Str} {cdg : Value} : LamX.GivesTo X n_law_word4 "_law_word" (defScope s_law_word) T.law_word.f cdg (defBody s_law_word) "call" q (TWord (wCs T)) := by
  intro f c' s H Q tl act hc h
  have all : ∀ j : Nat, ∃ t : Addr → TS, j < 5 → ∃ C, (wCs T)[j]? = some C ∧ PySem.W.exmOne X.K (.ref C) (.ref T.N_StoreError) = some true ∧ (∀ (a : Addr) (oe : Obj) (k : Value) (d : Option Addr) (pn : List (Addr × Obj)), Zc k d oe → (∃ vs, oe.data = .fields vs) → k = .ref C → d = none → PSs ((wX X T.law_word.f cdg s H).suite a ((a, oe) :: pn)) wSuite (t a)) ∧
      ∀ (a : Addr) (y0 y1 y2 : Option V) (E : Ends) (H : Hp) (wd : V), wWords[j]? = some wd → (∀ H' y2', Same H H' → E.nx [y0, some wd, y2', some (.ref a)] H') → t a E [y0, y1, y2, some (.ref a)] H := fun j => by
    by_cases hj : j < 5
    · obtain ⟨C, hC, ok⟩ := wok T j hj
      obtain ⟨t, h1, h2⟩ := wSuite_s T T.law_word.f cdg s H C j hj ok
      exact ⟨t, fun _ => ⟨C, hC, ok.s, h1, h2⟩⟩
    · exact ⟨fun _ _ _ _ => True, fun z => absurd z hj⟩
  obtain ⟨t, ht⟩ := Classical.axiomOfChoice all
  refine ⟨_, pss_cons (ps_set (X := wX X T.law_word.f cdg s H) (i := 1) sc_law_word4.nd rfl (Or.inl rfl) pe_str) (pss_cons (ps_tells (X := wX X T.law_word.f cdg s H) (i := 3) (n := "e")
      (tb := fun W D σ H => ∃ Ech : XK, (∀ cls d σ' H', σ'.length = 4 → Ech cls d H' → W cls d σ' H') ∧ σ[0]? = some (some (.ref f)) ∧ H c' = some (LamX.CodeO c' q) ∧ tl Ech H fun v H' => D.nx σ H')
      rfl rfl sc_law_word4.nd rfl rfl takes_none5 (fun W pn xe tk _ => ?_)
      (.cons (u := fun a k d E σ H => ∃ (j : Nat) (C : Addr), (wCs T)[j]? = some C ∧ k = .ref C ∧ d = none ∧ t j a E σ H) ⟨by rfl, by decide, .inl T.g_StoreError⟩ (fun a oe k d pn hz hf => ⟨fun pins s' σ H' E I hq => ?_⟩) .nil))
    (pss_one (ps_ret (pe_var (i := 1) rfl (Or.inl rfl) (by decide) (by decide))))), ?_⟩
  · refine ⟨fun pins s' σ H' D I h' => ?_⟩
    obtain ⟨Ech, hW, h1, h2, h3⟩ := h'
    have hp := fun p1 p2 => act (fun c d σ H => σ.length = 4 → W c d σ H) pn xe Ech p1 p2 (takes_len tk) (fun cls d σ' H' e l => hW cls d σ' H' l e)
    exact (pss_one (ps_expr (hp _ _))).run pins s' σ H' D I ⟨h1, h2, h3⟩
  · obtain ⟨j, C, hC, hk, hd, q⟩ := hq
    have hj : j < 5 := (List.getElem?_eq_some_iff.mp hC).1
    obtain ⟨C2, hC2, _, h1, _⟩ := ht j hj
    rw [hC] at hC2
    cases hC2
    exact (h1 a oe k d pn hz hf hk hd).run pins s' σ H' E I q
  · refine ⟨fun cls d H' => d = none ∧ ∃ (j : Nat) (C : Addr) (wd : V), (wCs T)[j]? = some C ∧ cls = .ref C ∧ wWords[j]? = some wd ∧ ∀ H'', Same H' H'' → Q wd H'', fun cls d σ' H' l e => ?_, rfl, hc, ?_⟩
    · obtain ⟨y0, y1, y2, y3, rfl⟩ : ∃ y0 y1 y2 y3, σ' = [y0, y1, y2, y3] := by
        match σ', l with
        | [y0, y1, y2, y3], _ => exact ⟨y0, y1, y2, y3, rfl⟩
      obtain ⟨rfl, j, C, wd, hC, rfl, hw, hq⟩ := e
      have hj : j < 5 := (List.getElem?_eq_some_iff.mp hC).1
      obtain ⟨C2, hC2, hex, _, h2⟩ := ht j hj
      rw [hC] at hC2
      cases hC2
      refine ⟨true, hex, fun _ a ha => ⟨j, C, hC, rfl, rfl, h2 a y0 y1 y2 _ H' wd hw fun H'' y2' s'' => ?_⟩, fun z => nomatch z⟩
      exact ⟨_, rfl, hq H'' s''⟩
    · refine Eq.mpr (congrArg (tl _ H) (funext fun v => funext fun H' => propext ⟨fun ⟨u, e, z⟩ => ?_, fun z => ⟨_, rfl, z⟩⟩)) h
      have e2 : V.str "let" = u := Option.some.inj (Option.some.inj e)
      rw [e2]
      exact z
theorem word_givesX {K : PySem.W.Frag} {mg : Str → Option Value} (T : Txt K mg) {X : Cx} (hK : X.K = K) (hm : X.mg = mg) {q : Str} {cdg : Value} : LamX.GivesTo X n_law_word4 "_law_word" (defScope s_law_word) T.law_word.f cdg (defBody s_law_word) "call" q (TWord (wCs T)) := by
  subst hK hm
  exact word_gives T
end Vw

set_option Elab.async false
set_option linter.all false
set_option maxRecDepth 100000
set_option maxHeartbeats 4000000
namespace Vw
open PySem PySem.Spec PyProof.Rows L2 RT
local macro_rules | `(tactic| walk_at "s") => `(tactic| with_reducible first
  | refine' s_seq ?_ | refine' s_next ?_ | refine' s_set ?_ | refine' s_ret ?_ | refine' s_retN ?_ | refine' s_drop ?_ | refine' s_if ?_ | refine' s_ipI ?_
  | refine' e_c ?_ | refine' e_op ?_ | refine' e_un ?_ | refine' e_neg ?_ | refine' e_test ?_ | refine' e_tB ?_ | refine' e_bl ?_ | refine' e_and ?_ | refine' e_or ?_ | refine' e_not ?_
  | refine' e_andV ?_ | refine' e_orV ?_ | refine' e_notV ?_ | refine' e_kV ?_ | refine' e_ife ?_ | refine' e_nil ?_ | refine' e_cons ?_ | refine' e_cb ?_ | refine' e_call ?_ | refine' e_chain ?_
  | refine' o_addI ?_ | refine' o_eqI ?_ | refine' o_neI ?_ | refine' o_I0 ?_ | refine' o_pow16 ?_ | refine' o_pow17 ?_ | refine' o_pow18 ?_ | refine' o_pow19 ?_ | refine' o_pow30 ?_ | refine' o_pow31 ?_ | refine' o_pow1 ?_ | refine' o_pow2 ?_ | refine' o_pow3 ?_ | refine' o_pow4 ?_ | refine' o_pow5 ?_ | refine' o_pow6 ?_ | refine' o_pow9 ?_ | refine' o_pow10 ?_ | refine' o_pow12 ?_ | refine' o_pow15 ?_ | refine' o_pow20 ?_ | refine' e_lst ?_ | refine' e_tup ?_ | refine' iteT ?_ | refine' i_nt ?_ | refine' i_nf ?_ | refine' iteF ?_ | refine' c_int ?_ | refine' c_abs ?_ | refine' c_min2 ?_ | refine' c_max2 ?_ | refine' e_tru ?_ | refine' t_bl ?_ | refine' t_non ?_ | refine' t_int ?_ | refine' isN_non ?_ | refine' isN_int ?_ | refine' isN_ref ?_ | refine' isN_str ?_ | refine' isN_bl ?_ | refine' noN_non ?_ | refine' noN_int ?_ | refine' noN_ref ?_ | refine' noN_str ?_ | refine' noN_bl ?_
  | refine' s_brk ?_ | refine' s_cont ?_ | refine' s_for ?_ | refine' e_lc ?_ | refine' e_dc ?_ | refine' e_yes ?_ | refine' i_rng1 ?_ | refine' i_lst0 ?_ | refine' i_tup0 ?_ | refine' e_bm ?_ | refine' e_sl ?_ | refine' e_np ?_ | refine' e_pt ?_ | refine' e_ptI ?_ | refine' e_din ?_ | refine' e_dnin ?_ | refine' e_methE ?_ | refine' p_cons ?_ | refine' p_nil ?_ | refine' s_dput ?_ | refine' e_dget2 ?_ | refine' e_dpop1 ?_ | refine' i_enum0 ?_ | refine' i_rev0 ?_ | refine' g_sub ?_ | refine' s_asg ?_ | refine' i_zip0 ?_ | refine' e_revT ?_ | refine' isB_bl ?_ | refine' notB_bl ?_ | refine' o_neB ?_ | refine' i_nrr ?_ | refine' e_meth ?_ | refine' s_setf ?_ | refine' e_fld ?_ | refine' e_bm0 ?_ | refine' r_tx ?_ | refine' o_eqStr ?_ | refine' o_neStr ?_)
local macro_rules | `(tactic| walk_at "v") => `(tactic| ((with_reducible refine' e_var ?hv ?_); (case hv => exact rfl)))
local macro_rules | `(tactic| walk_at "a") => `(tactic| ((with_reducible refine' s_aug ?hv ?_); (case hv => exact rfl)))
local macro_rules | `(tactic| walk_at "m") => `(tactic| first
  | ((with_reducible refine' o_mod ?hv ?_); (case hv => first | decide | omega))
  | ((with_reducible refine' o_mulR ?hv ?_); (case hv => omega))
  | ((with_reducible refine' o_mulL ?hv ?_); (case hv => omega))
  | ((with_reducible refine' o_div ?hv ?hw ?_); (case hv => omega); (case hw => omega))
  | ((with_reducible refine' o_pow _ ?hv ?hw ?hx ?_); (case hv => exact rfl); (case hw => decide); (case hx => decide)))
local macro_rules | `(tactic| walk_at "i") => `(tactic| (first
  | ((with_reducible refine' isi_int true ?hv ?_); (case hv => exact (by decide +kernel)))
  | ((with_reducible refine' isi_int false ?hv ?_); (case hv => exact (by decide +kernel)))
  | ((with_reducible refine' isi_non true ?hv ?_); (case hv => exact (by decide +kernel)))
  | ((with_reducible refine' isi_non false ?hv ?_); (case hv => exact (by decide +kernel)))
  | ((with_reducible refine' isi_str true ?hv ?_); (case hv => exact (by decide +kernel)))
  | ((with_reducible refine' isi_str false ?hv ?_); (case hv => exact (by decide +kernel)))
  | ((with_reducible refine' isi_bl true ?hv ?_); (case hv => exact (by decide +kernel)))
  | ((with_reducible refine' isi_bl false ?hv ?_); (case hv => exact (by decide +kernel)))
  | ((with_reducible refine' isi_t true ?hw ?hv ?_); (case hw => assumption); (case hv => exact (by decide +kernel)))
  | ((with_reducible refine' isi_t false ?hw ?hv ?_); (case hw => assumption); (case hv => exact (by decide +kernel)))
  | ((with_reducible refine' isi_l true ?hw ?hv ?_); (case hw => assumption); (case hv => exact (by decide +kernel)))
  | ((with_reducible refine' isi_l false ?hw ?hv ?_); (case hw => assumption); (case hv => exact (by decide +kernel)))
  | ((with_reducible refine' isi_tup true ?hw ?hv ?_); (case hw => assumption); (case hv => exact (by decide +kernel)))
  | ((with_reducible refine' isi_tup false ?hw ?hv ?_); (case hw => assumption); (case hv => exact (by decide +kernel)))
  | ((with_reducible refine' isi_lst true ?hw ?hv ?_); (case hw => assumption); (case hv => exact (by decide +kernel)))
  | ((with_reducible refine' isi_lst false ?hw ?hv ?_); (case hw => assumption); (case hv => exact (by decide +kernel)))))
local macro_rules | `(tactic| walk_at "om") => `(tactic| first | omega | (simp only [List.length_cons, List.length_nil, List.length_map, List.length_append, List.length_range]; omega))
local macro_rules | `(tactic| walk_at "d") => `(tactic| (first
  | ((with_reducible refine' i_dt ?hv ?_); (case hv => walk_at "om"))
  | ((with_reducible refine' i_df ?hv ?_); (case hv => walk_at "om"))
  | ((with_reducible refine' i_ndt ?hv ?_); (case hv => walk_at "om"))
  | ((with_reducible refine' i_ndf ?hv ?_); (case hv => walk_at "om"))))
local macro_rules | `(tactic| walk_at "x") => `(tactic| first
  | ((with_reducible refine' o_ixA ?hv ?hw ?_); (case hv => assumption); (case hw => exact rfl))
  | ((with_reducible refine' o_ixU ?hv ?hw ?_); (case hv => assumption); (case hw => exact rfl))
  | ((with_reducible refine' o_ixL ?hv ?hw ?_); (case hv => assumption); (case hw => exact rfl))
  | ((with_reducible refine' o_ixT ?hv ?hw ?_); (case hv => assumption); (case hw => exact rfl))
  | ((with_reducible refine' set_ ?hv ?hw ?_); (case hv => assumption); (case hw => exact rfl))
  | ((with_reducible refine' e_lenM ?hv ?_); (case hv => first | assumption | exact slO (by assumption)))
  | ((with_reducible refine' e_lenN ?hv ?_); (case hv => first | assumption | exact stO (by assumption)))
  | ((with_reducible refine' e_lenL ?hv ?_); (case hv => first | assumption | exact slO (by assumption)))
  | ((with_reducible refine' e_lenT ?hv ?_); (case hv => first | assumption | exact stO (by assumption))))
local macro_rules | `(tactic| walk_at "c") => `(tactic| first
  | ((with_reducible refine' c_listL ?hv ?_); (case hv => assumption))
  | ((with_reducible refine' c_listT ?hv ?_); (case hv => assumption))
  | ((with_reducible refine' c_tupL ?hv ?_); (case hv => first | assumption | exact slO (by assumption)))
  | ((with_reducible refine' c_tupT ?hv ?_); (case hv => assumption))
  | ((with_reducible refine' t_lst ?hv ?_); (case hv => first | assumption | exact slO (by assumption)))
  | ((with_reducible refine' t_tup ?hv ?_); (case hv => assumption))
  | ((with_reducible refine' r_sl ?hv ?_); (case hv => first | assumption | exact slO (by assumption)))
  | ((with_reducible refine' o_inL ?hv ?_); (case hv => first | assumption | exact slO (by assumption)))
  | ((with_reducible refine' o_inT ?hv ?_); (case hv => first | assumption | exact stO (by assumption)))
  | ((with_reducible refine' o_niL ?hv ?_); (case hv => first | assumption | exact slO (by assumption)))
  | ((with_reducible refine' o_niT ?hv ?_); (case hv => first | assumption | exact stO (by assumption)))
  | ((with_reducible refine' ty_lst ?hv ?_); (case hv => assumption)))
local macro_rules | `(tactic| walk_at "mo") => `(tactic| repeat' (first | exact m_yes | exact m_var | exact m_c | exact m_I0 | exact m_I | exact m_ix | exact m_add | exact m_in | exact m_int1 | exact m_abs | exact m_nil | refine' m_and ?_ ?_ | refine' m_test ?_ | refine' m_tB ?_ | refine' m_op ?_ ?_ ?_ | refine' m_cons ?_ ?_ | refine' m_cb ?_ ?_))
local macro_rules | `(tactic| walk_at "go") => `(tactic| repeat' (first | walk_at "s" | walk_at "v" | walk_at "a" | walk_at "x" | walk_at "m" | walk_at "c" | walk_at "i" | walk_at "d"))

section
variable {P : Program} {w : World} {K : PySem.W.Frag} {mg : Str → Option Value} {base : Heap}
/-! ### the law's own judges -/
theorem piZipA {X : Cx} {K : PySem.W.Frag} {e e2 : Expr} {ta : TA} {p pos tpos : Pos} {elts : List Expr} {kk : Nat} (hg : Gl X "zip") (hm : X.mg "zip" = none) (ha : PA X [e, e2] ta) (eK : X.K = K := by rfl)
    (h1 : starEach [e, e2] X.env = (false, eval e X.env) :: starEach [e2] X.env := by rfl) (h2 : ((backTo pos (starEach [e2] X.env)).any fun x => x.1) = false := by rfl) : PI X (.Tuple elts kk tpos) (.Call (.Name "zip" p) [e, e2] [] pos) (RZ.iZipA K ta) := by
  cases eK
  exact RZ.pi_zipA hg hm ha h1 h2
def sp_lint (K : PySem.W.Frag) : Sp := fun vs H Q _ => ∃ x lo hi, vs = [x, .int lo, .int hi] ∧ Od K H x ∧ Q (.bl (within x lo hi)) H
theorem ok_law_is_int (T : Txt K mg) : FnOk P w K mg base CX0 1 T.law_is_int.f T.law_is_int.fd ["thing", "least", "most"] (sp_lint K) := by
  refine T.law_is_int.F.ok sc_law_is_int (fun vs H Q E h => ?_) (fun cdv A outer s H vs Q E hr h => ?_)
  · obtain ⟨x, lo, hi, rfl, _⟩ := h
    rfl
  · obtain ⟨x, lo, hi, rfl, hp, k⟩ := h
    refine ⟨_, (pss_one (ps_ret (pe_and (pe_callB (cIsi (K := K)) (by rfl) T.z_isinstance (by decide +kernel) (pa_cons (pv 0) (pa_cons (pe_bltn (v := .ty "int") (by rfl) T.z_int (by decide +kernel) rfl) pa_nil))) (pe_and (pe_not (pe_callB (cIsi (K := K)) (by rfl) T.z_isinstance (by decide +kernel) (pa_cons (pv 0) (pa_cons (pe_bltn (v := .ty "bool") (by rfl) T.z_bool (by decide +kernel) rfl) pa_nil)))) (pe_one (pe_chain op_le op_le (pv 1) (pv 0) (pv 2))))))), ?_⟩
    rcases hp with hp | ⟨b, hp⟩
    rotate_left 1
    · walk_at "go"
      refine hp.int ?_
      obtain ⟨a, rfl⟩ := hp.ref
      walk_at "go"
      exact k
    cases x with
    | int a =>
      walk_at "go"
      refine i_d (fun h1 => ?_) (fun h1 => ?_)
      · walk_at "go"
        simpa [within, h1] using k
      · walk_at "go"
        simpa [within, h1] using k
    | non => walk_at "go"; exact k
    | bl b => walk_at "go"; exact k
    | str z => walk_at "go"; exact k
    | _ => cases hp
/-- the signs of a word -/
abbrev az : Str := "abcdefghijklmnopqrstuvwxyz"
def signB (c : Nat) : Bool := decide (c ∈ az.cps.toList)
theorem sign_is {c : Nat} (h : c < 128) : signB c = (Unicode.isAlpha c && (Unicode.isLower c)) := by
  have : (List.range 128).all (fun c => signB c == (Unicode.isAlpha c && Unicode.isLower c)) = true := by decide +kernel
  exact eq_of_beq (List.all_eq_true.mp this c (List.mem_range.mpr h))
theorem sign_lt {c : Nat} (h : signB c = true) : c < 128 := by
  have : az.cps.toList.all (fun c => decide (c < 128)) = true := by decide +kernel
  exact of_decide_eq_true (List.all_eq_true.mp this c (of_decide_eq_true h))
theorem low_up {c : Nat} (h : c < 128) : (Unicode.isAlpha c = true → Unicode.isLower c = !(Unicode.isUpper c || Unicode.isTitle c)) := by
  have : (List.range 128).all (fun c => !(Unicode.isAlpha c) || (Unicode.isLower c == !(Unicode.isUpper c || Unicode.isTitle c))) = true := by decide +kernel
  intro e
  have := List.all_eq_true.mp this c (List.mem_range.mpr h)
  rw [e] at this
  exact eq_of_beq this
theorem word_signs {z : Str} (hl : z.length ≤ 12) : z.cps.all signB = wordB z := by
  unfold wordB
  rw [decide_eq_true hl, Bool.true_and]
  by_cases e : z = ""
  · subst e; decide +kernel
  · rw [decide_eq_false e, Bool.false_or]
    have hz : 0 < z.cps.size := by
      rcases Nat.eq_zero_or_pos z.cps.size with q | q
      · exact absurd (by cases z with | mk c => (have : c = #[] := Array.eq_empty_of_size_eq_zero q); subst this; rfl) e
      · exact q
    apply Bool.eq_iff_iff.mpr
    constructor
    · intro h
      rw [Array.all_eq_true'] at h
      have h1 : ∀ c ∈ z.cps, c < 128 := fun c hc => sign_lt (h c hc)
      have h2 : ∀ c ∈ z.cps, Unicode.isAlpha c = true ∧ Unicode.isLower c = true := fun c hc => by
        have := h c hc
        rw [sign_is (h1 c hc), Bool.and_eq_true] at this
        exact this
      rw [Bool.and_eq_true, Bool.and_eq_true]
      refine ⟨?_, ?_, ?_⟩
      · unfold Txt.isascii
        rw [Array.all_eq_true']
        exact fun c hc => decide_eq_true (h1 c hc)
      · unfold Txt.isalpha
        rw [Bool.and_eq_true]
        refine ⟨decide_eq_true hz, ?_⟩
        rw [Array.all_eq_true']
        exact fun c hc => (h2 c hc).1
      · unfold Txt.islower
        rw [Bool.and_eq_true]
        refine ⟨?_, ?_⟩
        · rw [Array.any_eq_true']
          have hm : z.cps[0] ∈ z.cps := Array.getElem_mem hz
          exact ⟨_, hm, (h2 _ hm).2⟩
        · rw [Bool.not_eq_true', ← Bool.not_eq_true, Array.any_eq_true']
          rintro ⟨c, hc, e⟩
          have := low_up (h1 c hc) (h2 c hc).1
          rw [(h2 c hc).2, e] at this
          cases this
    · intro h
      rw [Bool.and_eq_true, Bool.and_eq_true] at h
      obtain ⟨h1, h2, h3⟩ := h
      unfold Txt.isascii at h1
      unfold Txt.isalpha at h2
      unfold Txt.islower at h3
      rw [Bool.and_eq_true] at h2 h3
      rw [Array.all_eq_true'] at h1 ⊢
      have h2 := h2.2
      rw [Array.all_eq_true'] at h2
      intro c hc
      have l := of_decide_eq_true (h1 c hc)
      rw [sign_is l, Bool.and_eq_true]
      refine ⟨h2 c hc, ?_⟩
      rw [low_up l (h2 c hc)]
      have h3 := h3.2
      rw [Bool.not_eq_true', ← Bool.not_eq_true, Array.any_eq_true'] at h3
      cases e : (Unicode.isUpper c || Unicode.isTitle c) with
      | false => rfl
      | true => exact absurd ⟨c, hc, e⟩ h3
def sp_lname (K : PySem.W.Frag) : Sp := fun vs H Q _ => ∃ x, vs = [x, .int 0] ∧ OdS K H x ∧ ∀ H', Same H H' → Q (.bl (isW x)) H'
theorem ok_law_is_name (T : Txt K mg) : FnOk P w K mg base CX0 1 T.law_is_name.f T.law_is_name.fd ["thing", "least"] (sp_lname K) := by
  refine T.law_is_name.F.ok sc_law_is_name (fun vs H Q E h => ?_) (fun cdv A outer s H vs Q E hr h => ?_)
  · obtain ⟨x, rfl, _⟩ := h
    rfl
  · obtain ⟨x, rfl, hp, k⟩ := h
    refine ⟨_, (pss_cons (ps_if (PW.pt (pw_or (pt_not (ptTruth (K := K) (pe_callB (cIsi (K := K)) (by rfl) T.z_isinstance (by decide +kernel) (pa_cons (pv 0) (pa_cons (pe_bltn (v := .ty "str") (by rfl) T.z_str (by decide +kernel) rfl) pa_nil))) (by intro _; rfl))) (pw_or1 (pt_not (pt_chain op_le op_le (pv 1) (pe_callB (cLen (K := K)) (by rfl) T.z_len PySem.boot_len (pa_cons (pv 0) pa_nil)) pe_int))))) (pss_one (ps_ret pe_bl)) pss_nil)
    (pss_one (ps_ret (pe_callB (cAll (K := K) rfl) (by rfl) T.z_all (by decide +kernel) (pa_cons (pe_lc (own := [("sign", 2)]) rfl sc_law_is_name.nd (pi_str (pv 0)) (blkOk_by (N := n_law_is_name) (sc := defScope s_law_is_name) (by decide +kernel)) (fun _ _ _ _ _ => (pg_name (i := 2) sc_law_is_name.nd rfl (Or.inl rfl))) (fun _ _ _ _ _ => pts_nil) (fun _ _ _ _ _ => (pe_cmpR op_in_sign (pv 2) pe_str (by rfl)))) pa_nil))))), ?_⟩
    rcases hp with hp | ⟨b, hp⟩
    rotate_left 1
    · walk_at "go"
      refine hp.str ?_
      obtain ⟨a, rfl⟩ := hp.ref
      walk_at "go"
      exact k _ (Same.refl _)
    cases x with
    | int a => walk_at "go"; exact k _ (Same.refl _)
    | non => walk_at "go"; exact k _ (Same.refl _)
    | bl b => walk_at "go"; exact k _ (Same.refl _)
    | str z =>
      have hz : z.length ≤ 100000 := of_decide_eq_true hp
      have k : ∀ H', Same H H' → Q (.bl (wordB z)) H' := k
      walk_at "go"
      refine e_lenS hz ?_
      refine o_I0 ⟨_, rfl, i_dt (show (0 : Int) ≤ (z.length : Int) by omega) ?_⟩
      by_cases q : z.length ≤ 12
      · rw [← word_signs q] at k
        walk_at "go"
        refine ⟨_, rfl, z, rfl, ?_⟩
        refine c_it walk_str (fun i acc H1 => Same H H1 ∧ acc = ((z.cps.toList.take i).map signB).map V.bl) (fun D hD => ⟨upd_free (Same.refl _) hD, rfl⟩) (fun i acc H1 hi p => trivial) (fun acc D H1 nD hD p => ?_) (fun i x acc H1 H2 D hi nD hD p y => ?_)
        · obtain ⟨p1, rfl⟩ := p
          walk_at "go"
          refine e_allB hD ?_
          have e : (List.map signB (List.take z.cps.size z.cps.toList)).all id = z.cps.all signB := by
            have l : z.cps.toList.length = z.cps.size := Array.length_toList
            rw [← l, List.take_length, List.all_map, l, Array.all_toList]; rfl
          rw [e]
          walk_at "go"
          exact k _ p1
        · obtain ⟨p1, rfl⟩ := p
          obtain ⟨rfl, c, hc, rfl⟩ := y
          walk_at "go"
          refine ⟨rfl, ?_⟩
          walk_at "go"
          refine ⟨c, _, rfl, rfl, ?_⟩
          have hi2 : i < z.cps.size := hi
          have hz2 : z.cps.size ≤ 12 := q
          refine ⟨_, hD, lt_size (by rw [List.length_map, List.length_map, List.length_take, Array.length_toList]; omega), _, upd_same, upd_free p1 nD, ?_⟩
          rw [List.take_add_one, Array.getElem?_toList, hc, List.map_append, List.map_append]; rfl
      · have e : wordB z = false := by unfold wordB; rw [decide_eq_false (show ¬ z.length ≤ 12 by omega)]; rfl
        rw [e] at k
        walk_at "go"
        exact k _ (Same.refl _)
    | _ => cases hp
def sp_lcont (K : PySem.W.Frag) : Sp := fun vs H Q _ => ∃ v o, vs = [v] ∧ Th K H v o ∧ ∀ H', Same H H' → Q (.bl (itemsO 0 40 o)) H'
theorem ok_law_is_content (T : Txt K mg) : FnOk P w K mg base CX0 2 T.law_is_content.f T.law_is_content.fd ["thing"] (sp_lcont K) := by
  refine T.law_is_content.F.ok sc_law_is_content (fun vs H Q E h => ?_) (fun cdv A outer s H vs Q E hr h => ?_)
  · obtain ⟨v, o, rfl, _⟩ := h
    rfl
  · obtain ⟨v, o, rfl, hv, k⟩ := h
    refine ⟨_, (pss_cons (ps_if (PW.pt (pw_or (pt_not (ptTruth (K := K) (pe_callB (cIsi (K := K)) (by rfl) T.z_isinstance (by decide +kernel) (pa_cons (pv 0) (pa_cons (pe_bltn (v := .ty "tuple") (by rfl) T.z_tuple (by decide +kernel) rfl) pa_nil))) (by intro _; rfl))) (pw_or1 (pt_cmpR op_gt (pe_callB (cLen (K := K)) (by rfl) T.z_len PySem.boot_len (pa_cons (pv 0) pa_nil)) pe_int (nomark _))))) (pss_one (ps_ret pe_bl)) pss_nil)
    (pss_one (ps_ret (pe_callB (cAll (K := K) rfl) (by rfl) T.z_all (by decide +kernel) (pa_cons (pe_lc (own := [("item", 1)]) rfl sc_law_is_content.nd (piT (K := K) (pv 0)) (blkOk_by (N := n_law_is_content) (sc := defScope s_law_is_content) (by decide +kernel)) (fun _ _ _ _ _ => (pg_name (i := 1) sc_law_is_content.nd rfl (Or.inl rfl))) (fun _ _ _ _ _ => pts_nil) (fun _ _ _ _ _ => (pe_or (pe_call (ok_law_is_int T) (hr.mono (by decide)) (by rfl) T.law_is_int.g T.law_is_int.F.kp T.law_is_int.b .nil pass0 (pa_cons (pv 1) (pa_cons (pe_un un_neg (pe_op op_pow pe_int pe_int)) (pa_cons (pe_op op_pow pe_int pe_int) pa_nil)))) (pe_one (pe_call (ok_law_is_name T) (hr.mono (by decide)) (by rfl) T.law_is_name.g T.law_is_name.F.kp T.law_is_name.b .nil pass0 (pa_cons (pv 1) (pa_cons pe_int pa_nil))))))) pa_nil))))), ?_⟩
    cases hv with
    | od hv =>
      rcases hv with hp | hp
      · cases v with
        | int a => walk_at "go"; exact k _ (Same.refl _)
        | non => walk_at "go"; exact k _ (Same.refl _)
        | bl b => walk_at "go"; exact k _ (Same.refl _)
        | str z => walk_at "go"; exact k _ (Same.refl _)
        | _ => cases hp
      · walk_at "go"
        refine hp.tpl ?_
        walk_at "go"
        exact k _ (Same.refl _)
    | @tup a xs hS hl hx =>
      walk_at "go"
      have k : ∀ H', Same H H' → Q (.bl (itemsB xs 0 40)) H' := k
      unfold itemsB at k
      rw [decide_eq_true (show (0 : Int) ≤ (xs.length : Int) by omega), Bool.true_and] at k
      refine i_d (fun q1 => ?_) (fun q1 => ?_)
      · rw [decide_eq_false (by omega), Bool.false_and] at k
        walk_at "go"
        exact k _ (Same.refl _)
      · rw [decide_eq_true (by omega), Bool.true_and] at k
        walk_at "go"
        refine i_tup hS ?_
        refine c_tup (xs := xs) (fun i acc H1 => Same H H1 ∧ acc = ((xs.take i).map itemB).map V.bl) (fun D hD => ⟨upd_free (Same.refl _) hD, rfl⟩) (fun i acc H1 hi p => st_ p.1 hS) (fun acc D H1 hD hp p => ?_) (fun _ => rfl) (fun i x acc H1 D hy hD hp p => ?_)
        · obtain ⟨p1, rfl⟩ := p
          walk_at "go"
          refine e_allB hp ?_
          have e : (List.map itemB (List.take xs.length xs)).all id = xs.all itemB := by
            rw [List.take_length, List.all_map]; rfl
          rw [e]
          walk_at "go"
          exact k _ p1
        · obtain ⟨p1, rfl⟩ := p
          have hi2 : i < xs.length := (List.getElem?_eq_some_iff.mp hy).1
          have ho := (hx x (List.mem_of_getElem? hy)).same p1
          have fin : ∀ H2 b, Same H1 H2 → b = itemB x → ∃ acc, H2 D = some (.lst acc) ∧ acc.length < sizeLine ∧ ∃ acc2, upd H2 D (.lst (acc ++ [V.bl b])) D = some (.lst acc2) ∧ Same H (upd H2 D (.lst (acc ++ [V.bl b]))) ∧ acc2 = ((xs.take (i + 1)).map itemB).map V.bl := fun H2 b s2 e => by
            refine ⟨_, s2 _ _ hp, lt_size (by simp; omega), _, upd_same, upd_free (p1.trans s2) hD, ?_⟩
            rw [List.take_add_one, hy, List.map_append, List.map_append, e]; rfl
          walk_at "go"
          refine ⟨x, _, _, rfl, ho.od, ?_⟩
          cases e1 : within x (-1000000000000000000000000000000) 1000000000000000000000000000000 with
          | true =>
            walk_at "go"
            exact fin _ _ (Same.refl _) (by unfold itemB; rw [e1, Bool.or_true])
          | false =>
            walk_at "go"
            refine ⟨x, rfl, ho, fun H2 s2 => ?_⟩
            exact fin _ _ s2 (by unfold itemB; rw [e1, Bool.or_false])
end
end Vw

set_option Elab.async false
set_option linter.all false
set_option maxRecDepth 100000
set_option maxHeartbeats 4000000
namespace Vw
open PySem PySem.Spec PyProof.Rows L2 RT
local macro_rules | `(tactic| walk_at "s") => `(tactic| with_reducible first
  | refine' s_seq ?_ | refine' s_next ?_ | refine' s_set ?_ | refine' s_ret ?_ | refine' s_retN ?_ | refine' s_drop ?_ | refine' s_if ?_ | refine' s_ipI ?_
  | refine' e_c ?_ | refine' e_op ?_ | refine' e_un ?_ | refine' e_neg ?_ | refine' e_test ?_ | refine' e_tB ?_ | refine' e_bl ?_ | refine' e_and ?_ | refine' e_or ?_ | refine' e_not ?_
  | refine' e_andV ?_ | refine' e_orV ?_ | refine' e_notV ?_ | refine' e_kV ?_ | refine' e_ife ?_ | refine' e_nil ?_ | refine' e_cons ?_ | refine' e_cb ?_ | refine' e_call ?_ | refine' e_chain ?_
  | refine' o_addI ?_ | refine' o_eqI ?_ | refine' o_neI ?_ | refine' o_I0 ?_ | refine' o_pow16 ?_ | refine' o_pow17 ?_ | refine' o_pow18 ?_ | refine' o_pow19 ?_ | refine' o_pow30 ?_ | refine' o_pow31 ?_ | refine' o_pow1 ?_ | refine' o_pow2 ?_ | refine' o_pow3 ?_ | refine' o_pow4 ?_ | refine' o_pow5 ?_ | refine' o_pow6 ?_ | refine' o_pow9 ?_ | refine' o_pow10 ?_ | refine' o_pow12 ?_ | refine' o_pow15 ?_ | refine' o_pow20 ?_ | refine' e_lst ?_ | refine' e_tup ?_ | refine' iteT ?_ | refine' i_nt ?_ | refine' i_nf ?_ | refine' iteF ?_ | refine' c_int ?_ | refine' c_abs ?_ | refine' c_min2 ?_ | refine' c_max2 ?_ | refine' e_tru ?_ | refine' t_bl ?_ | refine' t_non ?_ | refine' t_int ?_ | refine' isN_non ?_ | refine' isN_int ?_ | refine' isN_ref ?_ | refine' isN_str ?_ | refine' isN_bl ?_ | refine' noN_non ?_ | refine' noN_int ?_ | refine' noN_ref ?_ | refine' noN_str ?_ | refine' noN_bl ?_
  | refine' s_brk ?_ | refine' s_cont ?_ | refine' s_for ?_ | refine' e_lc ?_ | refine' e_dc ?_ | refine' e_yes ?_ | refine' i_rng1 ?_ | refine' i_lst0 ?_ | refine' i_tup0 ?_ | refine' e_bm ?_ | refine' e_sl ?_ | refine' e_np ?_ | refine' e_pt ?_ | refine' e_ptI ?_ | refine' e_din ?_ | refine' e_dnin ?_ | refine' e_methE ?_ | refine' p_cons ?_ | refine' p_nil ?_ | refine' s_dput ?_ | refine' e_dget2 ?_ | refine' e_dpop1 ?_ | refine' i_enum0 ?_ | refine' i_rev0 ?_ | refine' g_sub ?_ | refine' s_asg ?_ | refine' i_zip0 ?_ | refine' e_revT ?_ | refine' isB_bl ?_ | refine' notB_bl ?_ | refine' o_neB ?_ | refine' i_nrr ?_ | refine' e_meth ?_ | refine' s_setf ?_ | refine' e_fld ?_ | refine' e_bm0 ?_ | refine' r_tx ?_ | refine' o_eqStr ?_ | refine' o_neStr ?_)
local macro_rules | `(tactic| walk_at "v") => `(tactic| ((with_reducible refine' e_var ?hv ?_); (case hv => exact rfl)))
local macro_rules | `(tactic| walk_at "a") => `(tactic| ((with_reducible refine' s_aug ?hv ?_); (case hv => exact rfl)))
local macro_rules | `(tactic| walk_at "m") => `(tactic| first
  | ((with_reducible refine' o_mod ?hv ?_); (case hv => first | decide | omega))
  | ((with_reducible refine' o_mulR ?hv ?_); (case hv => omega))
  | ((with_reducible refine' o_mulL ?hv ?_); (case hv => omega))
  | ((with_reducible refine' o_div ?hv ?hw ?_); (case hv => omega); (case hw => omega))
  | ((with_reducible refine' o_pow _ ?hv ?hw ?hx ?_); (case hv => exact rfl); (case hw => decide); (case hx => decide)))
local macro_rules | `(tactic| walk_at "i") => `(tactic| (first
  | ((with_reducible refine' isi_int true ?hv ?_); (case hv => exact (by decide +kernel)))
  | ((with_reducible refine' isi_int false ?hv ?_); (case hv => exact (by decide +kernel)))
  | ((with_reducible refine' isi_non true ?hv ?_); (case hv => exact (by decide +kernel)))
  | ((with_reducible refine' isi_non false ?hv ?_); (case hv => exact (by decide +kernel)))
  | ((with_reducible refine' isi_str true ?hv ?_); (case hv => exact (by decide +kernel)))
  | ((with_reducible refine' isi_str false ?hv ?_); (case hv => exact (by decide +kernel)))
  | ((with_reducible refine' isi_bl true ?hv ?_); (case hv => exact (by decide +kernel)))
  | ((with_reducible refine' isi_bl false ?hv ?_); (case hv => exact (by decide +kernel)))
  | ((with_reducible refine' isi_t true ?hw ?hv ?_); (case hw => assumption); (case hv => exact (by decide +kernel)))
  | ((with_reducible refine' isi_t false ?hw ?hv ?_); (case hw => assumption); (case hv => exact (by decide +kernel)))
  | ((with_reducible refine' isi_l true ?hw ?hv ?_); (case hw => assumption); (case hv => exact (by decide +kernel)))
  | ((with_reducible refine' isi_l false ?hw ?hv ?_); (case hw => assumption); (case hv => exact (by decide +kernel)))
  | ((with_reducible refine' isi_tup true ?hw ?hv ?_); (case hw => assumption); (case hv => exact (by decide +kernel)))
  | ((with_reducible refine' isi_tup false ?hw ?hv ?_); (case hw => assumption); (case hv => exact (by decide +kernel)))
  | ((with_reducible refine' isi_lst true ?hw ?hv ?_); (case hw => assumption); (case hv => exact (by decide +kernel)))
  | ((with_reducible refine' isi_lst false ?hw ?hv ?_); (case hw => assumption); (case hv => exact (by decide +kernel)))))
local macro_rules | `(tactic| walk_at "om") => `(tactic| first | omega | (simp only [List.length_cons, List.length_nil, List.length_map, List.length_append, List.length_range]; omega))
local macro_rules | `(tactic| walk_at "d") => `(tactic| (first
  | ((with_reducible refine' i_dt ?hv ?_); (case hv => walk_at "om"))
  | ((with_reducible refine' i_df ?hv ?_); (case hv => walk_at "om"))
  | ((with_reducible refine' i_ndt ?hv ?_); (case hv => walk_at "om"))
  | ((with_reducible refine' i_ndf ?hv ?_); (case hv => walk_at "om"))))
local macro_rules | `(tactic| walk_at "x") => `(tactic| first
  | ((with_reducible refine' o_ixA ?hv ?hw ?_); (case hv => assumption); (case hw => exact rfl))
  | ((with_reducible refine' o_ixU ?hv ?hw ?_); (case hv => assumption); (case hw => exact rfl))
  | ((with_reducible refine' o_ixL ?hv ?hw ?_); (case hv => assumption); (case hw => exact rfl))
  | ((with_reducible refine' o_ixT ?hv ?hw ?_); (case hv => assumption); (case hw => exact rfl))
  | ((with_reducible refine' set_ ?hv ?hw ?_); (case hv => assumption); (case hw => exact rfl))
  | ((with_reducible refine' e_lenM ?hv ?_); (case hv => first | assumption | exact slO (by assumption)))
  | ((with_reducible refine' e_lenN ?hv ?_); (case hv => first | assumption | exact stO (by assumption)))
  | ((with_reducible refine' e_lenL ?hv ?_); (case hv => first | assumption | exact slO (by assumption)))
  | ((with_reducible refine' e_lenT ?hv ?_); (case hv => first | assumption | exact stO (by assumption))))
local macro_rules | `(tactic| walk_at "c") => `(tactic| first
  | ((with_reducible refine' c_listL ?hv ?_); (case hv => assumption))
  | ((with_reducible refine' c_listT ?hv ?_); (case hv => assumption))
  | ((with_reducible refine' c_tupL ?hv ?_); (case hv => first | assumption | exact slO (by assumption)))
  | ((with_reducible refine' c_tupT ?hv ?_); (case hv => assumption))
  | ((with_reducible refine' t_lst ?hv ?_); (case hv => first | assumption | exact slO (by assumption)))
  | ((with_reducible refine' t_tup ?hv ?_); (case hv => assumption))
  | ((with_reducible refine' r_sl ?hv ?_); (case hv => first | assumption | exact slO (by assumption)))
  | ((with_reducible refine' o_inL ?hv ?_); (case hv => first | assumption | exact slO (by assumption)))
  | ((with_reducible refine' o_inT ?hv ?_); (case hv => first | assumption | exact stO (by assumption)))
  | ((with_reducible refine' o_niL ?hv ?_); (case hv => first | assumption | exact slO (by assumption)))
  | ((with_reducible refine' o_niT ?hv ?_); (case hv => first | assumption | exact stO (by assumption)))
  | ((with_reducible refine' ty_lst ?hv ?_); (case hv => assumption)))
local macro_rules | `(tactic| walk_at "mo") => `(tactic| repeat' (first | exact m_yes | exact m_var | exact m_c | exact m_I0 | exact m_I | exact m_ix | exact m_add | exact m_in | exact m_int1 | exact m_abs | exact m_nil | refine' m_and ?_ ?_ | refine' m_test ?_ | refine' m_tB ?_ | refine' m_op ?_ ?_ ?_ | refine' m_cons ?_ ?_ | refine' m_cb ?_ ?_))
local macro_rules | `(tactic| walk_at "go") => `(tactic| repeat' (first | walk_at "s" | walk_at "v" | walk_at "a" | walk_at "x" | walk_at "m" | walk_at "c" | walk_at "i" | walk_at "d"))

section
variable {P : Program} {w : World} {K : PySem.W.Frag} {mg : Str → Option Value} {base : Heap}
/-! ### the law's judge of lots -/
theorem walk_zipT {K : PySem.W.Frag} {a b : Addr} {xs ys : List V} {n : Nat} (hn : n = min xs.length ys.length) : Walk (RZ.ItzT K a b) n (fun H => SqT K H a xs ∧ SqT K H b ys) (YPair (fun i => xs[i]?) (fun i => ys[i]?)) := by
  refine ⟨fun i H hi g => ?_, fun H g => ⟨xs, ys, g.1, g.2, by omega⟩, fun i H x H' hi g y => ?_⟩
  · have h1 : i < xs.length := by omega
    have h2 : i < ys.length := by omega
    exact ⟨xs, ys, _, _, g.1, g.2, List.getElem?_eq_getElem h1, List.getElem?_eq_getElem h2⟩
  · obtain ⟨T, x, y, e1, e2, e3, e4, e5⟩ := y
    exact ⟨T, x, y, e1, e2, e3, e4 xs g.1, e5 ys g.2⟩
def ZaQ (K : PySem.W.Frag) (R : It → Hp → Prop) (vs : List V) (H1 : Hp) : Prop := ∃ a b xs ys, vs = [V.ref a, V.ref b] ∧ (SqL K H1 a xs ∧ SqL K H1 b ys ∧ R (Itz K a b) H1 ∨ SqT K H1 a xs ∧ SqT K H1 b ys ∧ R (RZ.ItzT K a b) H1)
theorem i_zipA0 {K : PySem.W.Frag} {σ : L2.St} {H : Hp} {R : It → Hp → Prop} {ta : TA} (h : ta σ H fun vs H1 => ZaQ K R vs H1) : RZ.iZipA K ta σ H R := h
def lotN (n : Int) : Option (List V) → Bool
  | some xs => xs.all (fun x => within x 0 (n - 1)) && ascB (xs.map vInt)
  | none => false
theorem within_nums {n : Int} {xs : List V} (h : xs.all (fun x => within x 0 (n - 1)) = true) : xs.all isN = true := by
  rw [List.all_eq_true] at h ⊢
  intro x hx
  obtain ⟨b, rfl, h0, _⟩ := within_int (h x hx)
  exact decide_eq_true h0
theorem asc_le {ns : List Int} (h : ascB ns = true) : ∀ (d k : Nat), k + d + 1 = ns.length → ns.getD k 0 ≤ ns.getD (ns.length - 1) 0
  | 0, k, e => by
    rw [show ns.length - 1 = k by omega]
    exact Int.le_refl _
  | d + 1, k, e => by
    have := asc_le h d (k + 1) (by omega)
    unfold ascB at h
    rw [List.all_map, List.all_eq_true] at h
    have h1 := h k (List.mem_range.mpr (by omega))
    have h1 : ascF ns k = true := h1
    unfold ascF at h1
    have := of_decide_eq_true h1
    omega
theorem lotN_lot {n : Int} {o : Option (List V)} (h : lotN n o = true) : lotO o = true := by
  cases o with
  | none => exact h
  | some xs =>
    have h : (xs.all (fun x => within x 0 (n - 1)) && ascB (xs.map vInt)) = true := h
    rw [Bool.and_eq_true] at h
    show (xs.all isN && ascB (xs.map vInt)) = true
    rw [within_nums h.1, h.2]; rfl
theorem lotN_no {n : Int} {o : Option (List V)} (h : lotN n o = false) : lotO o = false ∨ ∃ xs, o = some xs ∧ ∃ m, xs[xs.length - 1]? = some (V.int m) ∧ n ≤ m := by
  cases o with
  | none => exact .inl rfl
  | some xs =>
    cases e : lotO (some xs) with
    | false => exact .inl rfl
    | true =>
      have e : (xs.all isN && ascB (xs.map vInt)) = true := e
      have h : (xs.all (fun x => within x 0 (n - 1)) && ascB (xs.map vInt)) = false := h
      rw [Bool.and_eq_true] at e
      rw [e.2, Bool.and_true] at h
      refine .inr ⟨xs, rfl, ?_⟩
      have : ¬ ∀ x ∈ xs, within x 0 (n - 1) = true := fun z => by
        rw [List.all_eq_true.mpr z] at h; cases h
      have ⟨x, hx, nx⟩ : ∃ x, x ∈ xs ∧ ¬ within x 0 (n - 1) = true := by
        apply Classical.byContradiction
        intro z
        exact this fun x hx => Classical.byContradiction fun q => z ⟨x, hx, q⟩
      obtain ⟨k, hk, rfl⟩ := List.getElem_of_mem hx
      have ea := all_nums e.1
      have lk : (xs.map vInt).length = xs.length := List.length_map ..
      have l1 := asc_le e.2 (xs.length - 1 - k) k (by omega)
      rw [lk] at l1
      have g : ∀ j, j < xs.length → xs[j]? = some (V.int ((xs.map vInt).getD j 0)) := fun j hj => by
        rw [congrArg (fun (z : List V) => z[j]?) ea, List.getElem?_map, List.getD_eq_getElem?_getD, List.getElem?_eq_getElem (by rw [lk]; exact hj)]; rfl
      refine ⟨_, g (xs.length - 1) (by omega), ?_⟩
      have gk := g k hk
      rw [List.getElem?_eq_getElem hk] at gk
      have gk := Option.some.inj gk
      have h0 := List.all_eq_true.mp e.1 _ hx
      rw [gk] at nx h0
      generalize (xs.map vInt).getD k 0 = u at *
      have h0 : decide (0 ≤ u) = true := h0
      have h0 := of_decide_eq_true h0
      have nx : ¬ ((decide (0 ≤ u) && decide (u ≤ n - 1)) = true) := nx
      rw [decide_eq_true h0, Bool.true_and] at nx
      have : ¬ u ≤ n - 1 := fun q => nx (decide_eq_true q)
      omega
theorem cut1 {xs : List V} : cutV xs (some 1) none = xs.drop 1 := cut_from (i := 1)
def sp_llot (K : PySem.W.Frag) : Sp := fun vs H Q _ => ∃ v o n, vs = [v, .int n] ∧ Th K H v o ∧ ∀ H', Same H H' → Q (.bl (lotN n o)) H'
theorem ok_law_is_lot (T : Txt K mg) : FnOk P w K mg base CX0 2 T.law_is_lot.f T.law_is_lot.fd ["thing", "blocks"] (sp_llot K) := by
  refine T.law_is_lot.F.ok sc_law_is_lot (fun vs H Q E h => ?_) (fun cdv A outer s H vs Q E hr h => ?_)
  · obtain ⟨v, o, n, rfl, _⟩ := h
    rfl
  · obtain ⟨v, o, n, rfl, hv, k⟩ := h
    refine ⟨_, (pss_cons (ps_if (PW.pt (pw_or (pt_not (ptTruth (K := K) (pe_callB (cIsi (K := K)) (by rfl) T.z_isinstance (by decide +kernel) (pa_cons (pv 0) (pa_cons (pe_bltn (v := .ty "tuple") (by rfl) T.z_tuple (by decide +kernel) rfl) pa_nil))) (by intro _; rfl))) (pw_or1 (pt_not (ptTruth (K := K) (pe_callB (cAll (K := K) rfl) (by rfl) T.z_all (by decide +kernel) (pa_cons (pe_lc (own := [("block", 2)]) rfl sc_law_is_lot.nd (piT (K := K) (pv 0)) (blkOk_by (N := n_law_is_lot) (sc := defScope s_law_is_lot) (by decide +kernel)) (fun _ _ _ _ _ => (pg_name (i := 2) sc_law_is_lot.nd rfl (Or.inl rfl))) (fun _ _ _ _ _ => pts_nil) (fun _ _ _ _ _ => (pe_call (ok_law_is_int T) (hr.mono (by decide)) (by rfl) T.law_is_int.g T.law_is_int.F.kp T.law_is_int.b .nil pass0 (pa_cons (pv 2) (pa_cons pe_int (pa_cons (pe_op op_sub (pv 1) pe_int) pa_nil)))))) pa_nil)) (by intro _; rfl)))))) (pss_one (ps_ret pe_bl)) pss_nil)
    (pss_one (ps_ret (pe_callB (cAll (K := K) rfl) (by rfl) T.z_all (by decide +kernel) (pa_cons (pe_lc (own := [("one", 3), ("other", 4)]) rfl sc_law_is_lot.nd (piZipA (K := K) (by rfl) T.z_zip (pa_cons (pv 0) (pa_cons (pe_slice (slT (K := K)) (pv 0) (po_some pe_int) po_none) pa_nil))) (blkOk_by (N := n_law_is_lot) (sc := defScope s_law_is_lot) (by decide +kernel)) (fun _ _ _ _ _ => (pgTup (K := K) (n := 2) (pg_tup (n := 2) rfl (pgs_cons (pg_name (i := 3) sc_law_is_lot.nd rfl (Or.inl rfl)) (pgs_cons (pg_name (i := 4) sc_law_is_lot.nd rfl (Or.inl rfl)) pgs_nil))))) (fun _ _ _ _ _ => pts_nil) (fun _ _ _ _ _ => (pe_cmpR oLt (pv 3) (pv 4) (nomark _)))) pa_nil))))), ?_⟩
    cases hv with
    | od hv =>
      rcases hv with hp | hp
      · cases v with
        | int a => walk_at "go"; exact k _ (Same.refl _)
        | non => walk_at "go"; exact k _ (Same.refl _)
        | bl b => walk_at "go"; exact k _ (Same.refl _)
        | str z => walk_at "go"; exact k _ (Same.refl _)
        | _ => cases hp
      · walk_at "go"
        refine hp.tpl ?_
        walk_at "go"
        exact k _ (Same.refl _)
    | @tup a xs hS hl hx =>
      have k : ∀ H', Same H H' → Q (.bl (xs.all (fun x => within x 0 (n - 1)) && ascB (xs.map vInt))) H' := k
      walk_at "go"
      refine i_tup hS ?_
      refine c_tup (xs := xs) (fun i acc H1 => Same H H1 ∧ acc = ((xs.take i).map (fun x => within x 0 (n - 1))).map V.bl) (fun D hD => ⟨upd_free (Same.refl _) hD, rfl⟩) (fun i acc H1 hi p => st_ p.1 hS) (fun acc D H1 hD hp p => ?_) (fun _ => rfl) (fun i x acc H1 D hy hD hp p => ?_)
      rotate_left 1
      · obtain ⟨p1, rfl⟩ := p
        have hi2 : i < xs.length := (List.getElem?_eq_some_iff.mp hy).1
        have ho := (hx x (List.mem_of_getElem? hy)).same p1
        walk_at "go"
        refine ⟨x, _, _, rfl, ho.od, ?_⟩
        refine ⟨_, hp, lt_size (by simp; omega), _, upd_same, upd_free p1 hD, ?_⟩
        rw [List.take_add_one, hy, List.map_append, List.map_append]; rfl
      · obtain ⟨p1, rfl⟩ := p
        walk_at "go"
        refine e_allB hp ?_
        have e : (List.map (fun x => within x 0 (n - 1)) (List.take xs.length xs)).all id = xs.all (fun x => within x 0 (n - 1)) := by
          rw [List.take_length, List.all_map]; rfl
        rw [e]
        cases e1 : xs.all (fun x => within x 0 (n - 1)) with
        | false =>
          rw [e1] at k
          walk_at "go"
          exact k _ p1
        | true =>
          rw [e1, Bool.true_and] at k
          have ea := all_nums (within_nums e1)
          have hS1 := st_ p1 hS
          walk_at "go"
          refine i_zipA0 ?_
          walk_at "go"
          refine r_slT hS1 fun c H2 s2 h2 => ?_
          rw [cut1] at h2
          have hS2 := st_ s2 hS1
          refine ⟨a, c, _, _, rfl, .inr ⟨hS2, h2, ?_⟩⟩
          have ln : (xs.drop 1).length = xs.length - 1 := List.length_drop ..
          refine c_it (walk_zipT (xs := xs) (ys := xs.drop 1) (n := xs.length - 1) (by rw [ln]; omega)) (fun i acc H' => Same H2 H' ∧ acc = ((List.range i).map (ascF (xs.map vInt))).map V.bl) (fun D hD => ⟨upd_free (Same.refl _) hD, rfl⟩) (fun i acc H' hi p => ⟨st_ p.1 hS2, st_ p.1 h2⟩) (fun acc D H3 nD hD p => ?_) (fun i x acc H3 H4 D hi nD hD p y => ?_)
          · obtain ⟨s3, rfl⟩ := p
            walk_at "go"
            refine e_allB hD ?_
            have e : ((List.range (xs.length - 1)).map (ascF (xs.map vInt))).all id = ascB (xs.map vInt) := by
              unfold ascB
              rw [List.length_map]
            rw [e]
            walk_at "go"
            exact k _ (p1.trans (s2.trans s3))
          · obtain ⟨s3, rfl⟩ := p
            obtain ⟨tt, x, y, rfl, nt, rfl, ex, ey⟩ := y
            have g : ∀ j, j < xs.length → xs[j]? = some (V.int ((xs.map vInt).getD j 0)) := fun j hj => by
              rw [congrArg (fun (z : List V) => z[j]?) ea, List.getElem?_map, List.getD_eq_getElem?_getD, List.getElem?_eq_getElem (by rw [List.length_map]; exact hj)]; rfl
            have ex : xs[i]? = some x := ex
            have ey : (xs.drop 1)[i]? = some y := ey
            rw [List.getElem?_drop] at ey
            rw [g i (by omega)] at ex
            rw [g (1 + i) (by omega)] at ey
            cases ex
            cases ey
            refine g_pairS (stO upd_same) ⟨rfl, ?_⟩
            walk_at "go"
            have sn : Same H3 (upd H3 tt (.tup [V.int ((xs.map vInt).getD i 0), V.int ((xs.map vInt).getD (1 + i) 0)])) := Same.new nt
            refine ⟨_, sn _ _ hD, lt_size (by rw [List.length_map, List.length_map, List.length_range]; omega), _, upd_same, upd_free (s3.trans sn) nD, ?_⟩
            rw [List.range_succ, List.map_append, List.map_append]
            show _ ++ [V.bl (decide _)] = _ ++ [V.bl (ascF _ i)]
            unfold ascF
            rw [Nat.add_comm 1 i]
/-! ### the first word whose mark is wanting -/
def firstW (w1 : Str) (b1 : Bool) (w2 : Str) (b2 : Bool) : Str := if b1 = true then (if b2 = true then "let" else w2) else w1
def wantL (w1 : Str) (b1 : Bool) (w2 : Str) (b2 : Bool) : Nat → List V
  | 0 => []
  | 1 => if b1 = true then [] else [.str w1]
  | _ => (if b1 = true then [] else [.str w1]) ++ if b2 = true then [] else [.str w2]
def sp_first (K : PySem.W.Frag) : Sp := fun vs H Q _ => ∃ a t1 t2 w1 b1 w2 b2, vs = [.ref a] ∧ H a = some (.lst [.ref t1, .ref t2]) ∧ SqT K H t1 [.str w1, .bl b1] ∧ SqT K H t2 [.str w2, .bl b2] ∧ ∀ H', Same H H' → Q (.str (firstW w1 b1 w2 b2)) H'
theorem ok_law_first (T : Txt K mg) : FnOk P w K mg base CX0 1 T.law_first.f T.law_first.fd ["pairs"] (sp_first K) := by
  refine T.law_first.F.ok sc_law_first (fun vs H Q E h => ?_) (fun cdv A outer s H vs Q E hr h => ?_)
  · obtain ⟨a, t1, t2, w1, b1, w2, b2, rfl, _⟩ := h
    rfl
  · obtain ⟨a, t1, t2, w1, b1, w2, b2, rfl, ha, h1, h2, k⟩ := h
    refine ⟨_, (pss_one (ps_ret (pe_ix (ixLT (K := K)) (pe_op oAdd (pe_lc (own := [("word", 1), ("is_right", 2)]) rfl sc_law_first.nd (piL (K := K) (pv 0)) (blkOk_by (N := n_law_first) (sc := defScope s_law_first) (by decide +kernel)) (fun _ _ _ _ _ => (pgTup (K := K) (n := 2) (pg_tup (n := 2) rfl (pgs_cons (pg_name (i := 1) sc_law_first.nd rfl (Or.inl rfl)) (pgs_cons (pg_name (i := 2) sc_law_first.nd rfl (Or.inl rfl)) pgs_nil))))) (fun _ _ _ _ _ => (pts_one (pt_not (ptTruth (K := K) (pv 2) (by intro _; rfl))))) (fun _ _ _ _ _ => (pv 1))) (pe_lst (pa_cons pe_str pa_nil))) pe_int (fun _ _ => rfl)))), ?_⟩
    walk_at "go"
    refine i_lst (slO ha) ?_
    refine c_it (walk_list (xs := [V.ref t1, V.ref t2])) (fun i acc H' => Same H H' ∧ acc = wantL w1 b1 w2 b2 i) (fun D hD => ⟨upd_free (Same.refl _) hD, rfl⟩) (fun i acc H' hi p => slO (p.1 _ _ ha)) (fun acc D H3 nD hD p => ?_) (fun i x acc H3 H4 D hi nD hD p y => ?_)
    · obtain ⟨s3, rfl⟩ := p
      walk_at "go"
      refine n_new (le_size (by simp)) fun l1 H4 n4 s4 h4 => ?_
      refine o_cat (s4 _ _ hD) h4 (by cases b1 <;> cases b2 <;> exact Nat.lt_of_le_of_lt (Nat.le_add_left _ 0) (by simp [wantL])) ?_
      refine n_new0 fun l2 H5 n5 s5 h5 => ?_
      have s05 := s3.trans (s4.trans s5)
      have e : (wantL w1 b1 w2 b2 2 ++ [V.str "let"])[0]? = some (V.str (firstW w1 b1 w2 b2)) := by
        cases b1 <;> cases b2 <;> rfl
      walk_at "go"
      refine o_ixA h5 (atI_in (j := 0) rfl e) ?_
      walk_at "go"
      exact k _ s05
    · obtain ⟨s3, rfl⟩ := p
      obtain ⟨rfl, ex⟩ := y
      have hi : i < 2 := hi
      rcases (show i = 0 ∨ i = 1 by omega) with rfl | rfl
      · cases ex
        refine g_pairS (st_ s3 h1) ⟨rfl, ?_⟩
        walk_at "go"
        cases b1 with
        | true =>
          walk_at "go"
          exact ⟨_, hD, s3, rfl⟩
        | false =>
          walk_at "go"
          exact ⟨_, hD, lt_size (show 0 < 100000 by omega), _, upd_same, upd_free s3 nD, rfl⟩
      · cases ex
        refine g_pairS (st_ s3 h2) ⟨rfl, ?_⟩
        walk_at "go"
        cases b2 with
        | true =>
          walk_at "go"
          exact ⟨_, hD, s3, by cases b1 <;> rfl⟩
        | false =>
          walk_at "go"
          exact ⟨_, hD, lt_size (by cases b1 <;> simp [wantL]), _, upd_same, upd_free s3 nD, by cases b1 <;> rfl⟩
end
end Vw

set_option Elab.async false
set_option linter.all false
set_option maxRecDepth 100000
set_option maxHeartbeats 4000000
namespace Vw
open PySem PySem.Spec PyProof.Rows L2 RT
local macro_rules | `(tactic| walk_at "s") => `(tactic| with_reducible first
  | refine' s_seq ?_ | refine' s_next ?_ | refine' s_set ?_ | refine' s_ret ?_ | refine' s_retN ?_ | refine' s_drop ?_ | refine' s_if ?_ | refine' s_ipI ?_
  | refine' e_c ?_ | refine' e_op ?_ | refine' e_un ?_ | refine' e_neg ?_ | refine' e_test ?_ | refine' e_tB ?_ | refine' e_bl ?_ | refine' e_and ?_ | refine' e_or ?_ | refine' e_not ?_
  | refine' e_andV ?_ | refine' e_orV ?_ | refine' e_notV ?_ | refine' e_kV ?_ | refine' e_ife ?_ | refine' e_nil ?_ | refine' e_cons ?_ | refine' e_cb ?_ | refine' e_call ?_ | refine' e_chain ?_
  | refine' o_addI ?_ | refine' o_eqI ?_ | refine' o_neI ?_ | refine' o_I0 ?_ | refine' o_pow16 ?_ | refine' o_pow17 ?_ | refine' o_pow18 ?_ | refine' o_pow19 ?_ | refine' o_pow30 ?_ | refine' o_pow31 ?_ | refine' o_pow1 ?_ | refine' o_pow2 ?_ | refine' o_pow3 ?_ | refine' o_pow4 ?_ | refine' o_pow5 ?_ | refine' o_pow6 ?_ | refine' o_pow9 ?_ | refine' o_pow10 ?_ | refine' o_pow12 ?_ | refine' o_pow15 ?_ | refine' o_pow20 ?_ | refine' e_lst ?_ | refine' e_tup ?_ | refine' iteT ?_ | refine' i_nt ?_ | refine' i_nf ?_ | refine' iteF ?_ | refine' c_int ?_ | refine' c_abs ?_ | refine' c_min2 ?_ | refine' c_max2 ?_ | refine' e_tru ?_ | refine' t_bl ?_ | refine' t_non ?_ | refine' t_int ?_ | refine' isN_non ?_ | refine' isN_int ?_ | refine' isN_ref ?_ | refine' isN_str ?_ | refine' isN_bl ?_ | refine' noN_non ?_ | refine' noN_int ?_ | refine' noN_ref ?_ | refine' noN_str ?_ | refine' noN_bl ?_
  | refine' s_brk ?_ | refine' s_cont ?_ | refine' s_for ?_ | refine' e_lc ?_ | refine' e_dc ?_ | refine' e_yes ?_ | refine' i_rng1 ?_ | refine' i_lst0 ?_ | refine' i_tup0 ?_ | refine' e_bm ?_ | refine' e_sl ?_ | refine' e_np ?_ | refine' e_pt ?_ | refine' e_ptI ?_ | refine' e_din ?_ | refine' e_dnin ?_ | refine' e_methE ?_ | refine' p_cons ?_ | refine' p_nil ?_ | refine' s_dput ?_ | refine' e_dget2 ?_ | refine' e_dpop1 ?_ | refine' i_enum0 ?_ | refine' i_rev0 ?_ | refine' g_sub ?_ | refine' s_asg ?_ | refine' i_zip0 ?_ | refine' e_revT ?_ | refine' isB_bl ?_ | refine' notB_bl ?_ | refine' o_neB ?_ | refine' i_nrr ?_ | refine' e_meth ?_ | refine' s_setf ?_ | refine' e_fld ?_ | refine' e_bm0 ?_ | refine' r_tx ?_ | refine' o_eqStr ?_ | refine' o_neStr ?_)
local macro_rules | `(tactic| walk_at "v") => `(tactic| ((with_reducible refine' e_var ?hv ?_); (case hv => exact rfl)))
local macro_rules | `(tactic| walk_at "a") => `(tactic| ((with_reducible refine' s_aug ?hv ?_); (case hv => exact rfl)))
local macro_rules | `(tactic| walk_at "m") => `(tactic| first
  | ((with_reducible refine' o_mod ?hv ?_); (case hv => first | decide | omega))
  | ((with_reducible refine' o_mulR ?hv ?_); (case hv => omega))
  | ((with_reducible refine' o_mulL ?hv ?_); (case hv => omega))
  | ((with_reducible refine' o_div ?hv ?hw ?_); (case hv => omega); (case hw => omega))
  | ((with_reducible refine' o_pow _ ?hv ?hw ?hx ?_); (case hv => exact rfl); (case hw => decide); (case hx => decide)))
local macro_rules | `(tactic| walk_at "i") => `(tactic| (first
  | ((with_reducible refine' isi_int true ?hv ?_); (case hv => exact (by decide +kernel)))
  | ((with_reducible refine' isi_int false ?hv ?_); (case hv => exact (by decide +kernel)))
  | ((with_reducible refine' isi_non true ?hv ?_); (case hv => exact (by decide +kernel)))
  | ((with_reducible refine' isi_non false ?hv ?_); (case hv => exact (by decide +kernel)))
  | ((with_reducible refine' isi_str true ?hv ?_); (case hv => exact (by decide +kernel)))
  | ((with_reducible refine' isi_str false ?hv ?_); (case hv => exact (by decide +kernel)))
  | ((with_reducible refine' isi_bl true ?hv ?_); (case hv => exact (by decide +kernel)))
  | ((with_reducible refine' isi_bl false ?hv ?_); (case hv => exact (by decide +kernel)))
  | ((with_reducible refine' isi_t true ?hw ?hv ?_); (case hw => assumption); (case hv => exact (by decide +kernel)))
  | ((with_reducible refine' isi_t false ?hw ?hv ?_); (case hw => assumption); (case hv => exact (by decide +kernel)))
  | ((with_reducible refine' isi_l true ?hw ?hv ?_); (case hw => assumption); (case hv => exact (by decide +kernel)))
  | ((with_reducible refine' isi_l false ?hw ?hv ?_); (case hw => assumption); (case hv => exact (by decide +kernel)))
  | ((with_reducible refine' isi_tup true ?hw ?hv ?_); (case hw => assumption); (case hv => exact (by decide +kernel)))
  | ((with_reducible refine' isi_tup false ?hw ?hv ?_); (case hw => assumption); (case hv => exact (by decide +kernel)))
  | ((with_reducible refine' isi_lst true ?hw ?hv ?_); (case hw => assumption); (case hv => exact (by decide +kernel)))
  | ((with_reducible refine' isi_lst false ?hw ?hv ?_); (case hw => assumption); (case hv => exact (by decide +kernel)))))
local macro_rules | `(tactic| walk_at "om") => `(tactic| first | omega | (simp only [List.length_cons, List.length_nil, List.length_map, List.length_append, List.length_range]; omega))
local macro_rules | `(tactic| walk_at "d") => `(tactic| (first
  | ((with_reducible refine' i_dt ?hv ?_); (case hv => walk_at "om"))
  | ((with_reducible refine' i_df ?hv ?_); (case hv => walk_at "om"))
  | ((with_reducible refine' i_ndt ?hv ?_); (case hv => walk_at "om"))
  | ((with_reducible refine' i_ndf ?hv ?_); (case hv => walk_at "om"))))
local macro_rules | `(tactic| walk_at "x") => `(tactic| first
  | ((with_reducible refine' o_ixA ?hv ?hw ?_); (case hv => assumption); (case hw => exact rfl))
  | ((with_reducible refine' o_ixU ?hv ?hw ?_); (case hv => assumption); (case hw => exact rfl))
  | ((with_reducible refine' o_ixL ?hv ?hw ?_); (case hv => assumption); (case hw => exact rfl))
  | ((with_reducible refine' o_ixT ?hv ?hw ?_); (case hv => assumption); (case hw => exact rfl))
  | ((with_reducible refine' set_ ?hv ?hw ?_); (case hv => assumption); (case hw => exact rfl))
  | ((with_reducible refine' e_lenM ?hv ?_); (case hv => first | assumption | exact slO (by assumption)))
  | ((with_reducible refine' e_lenN ?hv ?_); (case hv => first | assumption | exact stO (by assumption)))
  | ((with_reducible refine' e_lenL ?hv ?_); (case hv => first | assumption | exact slO (by assumption)))
  | ((with_reducible refine' e_lenT ?hv ?_); (case hv => first | assumption | exact stO (by assumption))))
local macro_rules | `(tactic| walk_at "c") => `(tactic| first
  | ((with_reducible refine' c_listL ?hv ?_); (case hv => assumption))
  | ((with_reducible refine' c_listT ?hv ?_); (case hv => assumption))
  | ((with_reducible refine' c_tupL ?hv ?_); (case hv => first | assumption | exact slO (by assumption)))
  | ((with_reducible refine' c_tupT ?hv ?_); (case hv => assumption))
  | ((with_reducible refine' t_lst ?hv ?_); (case hv => first | assumption | exact slO (by assumption)))
  | ((with_reducible refine' t_tup ?hv ?_); (case hv => assumption))
  | ((with_reducible refine' r_sl ?hv ?_); (case hv => first | assumption | exact slO (by assumption)))
  | ((with_reducible refine' o_inL ?hv ?_); (case hv => first | assumption | exact slO (by assumption)))
  | ((with_reducible refine' o_inT ?hv ?_); (case hv => first | assumption | exact stO (by assumption)))
  | ((with_reducible refine' o_niL ?hv ?_); (case hv => first | assumption | exact slO (by assumption)))
  | ((with_reducible refine' o_niT ?hv ?_); (case hv => first | assumption | exact stO (by assumption)))
  | ((with_reducible refine' ty_lst ?hv ?_); (case hv => assumption)))
local macro_rules | `(tactic| walk_at "mo") => `(tactic| repeat' (first | exact m_yes | exact m_var | exact m_c | exact m_I0 | exact m_I | exact m_ix | exact m_add | exact m_in | exact m_int1 | exact m_abs | exact m_nil | refine' m_and ?_ ?_ | refine' m_test ?_ | refine' m_tB ?_ | refine' m_op ?_ ?_ ?_ | refine' m_cons ?_ ?_ | refine' m_cb ?_ ?_))
local macro_rules | `(tactic| walk_at "go") => `(tactic| repeat' (first | walk_at "s" | walk_at "v" | walk_at "a" | walk_at "x" | walk_at "m" | walk_at "c" | walk_at "i" | walk_at "d"))

section
variable {P : Program} {w : World} {K : PySem.W.Frag} {mg : Str → Option Value} {base : Heap}
/-! ### what the law draws -/
inductive Vk (K : PySem.W.Frag) (Z : Addr → Prop) (oth : V) (H : Hp) : V → Prop
  | sm {v : V} (h : smallV v = true) : Vk K Z oth H v
  | oth : Vk K Z oth H oth
  | tup {a : Addr} {xs : List V} (h : SqT K H a xs) : Vk K Z oth H (.ref a)
  | lst {a : Addr} {xs : List V} (n : ¬ Z a) (h : H a = some (.lst xs)) : Vk K Z oth H (.ref a)
  | dct {a : Addr} {kvs : List (Key × V)} (n : ¬ Z a) (h : H a = some (.dK kvs)) : Vk K Z oth H (.ref a)
inductive Tv (K : PySem.W.Frag) (Z : Addr → Prop) (oth : V) (H : Hp) : V → Option (List V) → Prop
  | sm {v : V} (h : smallV v = true) : Tv K Z oth H v none
  | oth : Tv K Z oth H oth none
  | lst {a : Addr} {xs : List V} (n : ¬ Z a) (h : H a = some (.lst xs)) : Tv K Z oth H (.ref a) none
  | dct {a : Addr} {kvs : List (Key × V)} (n : ¬ Z a) (h : H a = some (.dK kvs)) : Tv K Z oth H (.ref a) none
  | tup {a : Addr} {xs : List V} (h : SqT K H a xs) (l : xs.length ≤ 1000) (i : ∀ x ∈ xs, Vk K Z oth H x) : Tv K Z oth H (.ref a) (some xs)
/-- what holds a drawn thing as it is -/
structure Kp (K : PySem.W.Frag) (Z : Addr → Prop) (H H' : Hp) : Prop where
  o : ∀ a o, H a = some o → ¬ Z a → H' a = some o
  t : ∀ a xs, SqT K H a xs → SqT K H' a xs
section
variable {Z : Addr → Prop} {oth v : V} {H H1 H' : Hp} {o : Option (List V)} {B : Bg}
theorem Kp.trans (a : Kp K Z H H1) (b : Kp K Z H1 H') : Kp K Z H H' := ⟨fun c o h n => b.o c o (a.o c o h n) n, fun c xs h => b.t c xs (a.t c xs h)⟩
theorem Kp.of_same (s : Same H H') : Kp K Z H H' := ⟨fun c o h _ => s c o h, fun c xs h => st_ s h⟩
theorem Kp.of_hs (b : BagAt K H B) (s : Hs K B H H') (z : Z B.hd) : Kp K Z H H' := ⟨fun c o h n => s.o c o (fun e => n (by rw [e]; exact z)) h, fun c xs h => s.st b h⟩
theorem Vk.keep (h : Vk K Z oth H v) (k : Kp K Z H H') : Vk K Z oth H' v := by
  cases h with
  | sm h => exact .sm h
  | oth => exact .oth
  | tup h => exact .tup (k.t _ _ h)
  | lst n h => exact .lst n (k.o _ _ h n)
  | dct n h => exact .dct n (k.o _ _ h n)
theorem Tv.keep (h : Tv K Z oth H v o) (k : Kp K Z H H') : Tv K Z oth H' v o := by
  cases h with
  | sm h => exact .sm h
  | oth => exact .oth
  | lst n h => exact .lst n (k.o _ _ h n)
  | dct n h => exact .dct n (k.o _ _ h n)
  | tup h l i => exact .tup (k.t _ _ h) l fun x hx => (i x hx).keep k
theorem Tv.vk (h : Tv K Z oth H v o) : Vk K Z oth H v := by
  cases h with
  | sm h => exact .sm h
  | oth => exact .oth
  | lst n h => exact .lst n h
  | dct n h => exact .dct n h
  | tup h l i => exact .tup h
theorem Vk.od (h : Vk K Z oth H v) (ho : OdS K H oth) : OdS K H v := by
  cases h with
  | sm h => exact .inl h
  | oth => exact ho
  | tup h => exact .inr ⟨_, Kd.tup h⟩
  | lst n h => exact .inr ⟨_, Kd.lst h⟩
  | dct n h => exact .inr ⟨_, Kd.dct h⟩
theorem Tv.th (h : Tv K Z oth H v o) (ho : smallV oth = true ∨ Kd K H oth false) : Th K H v o := by
  cases h with
  | sm h => exact .od (.inl h)
  | oth => exact .od ho
  | lst n h => exact .od (.inr (Kd.lst h))
  | dct n h => exact .od (.inr (Kd.dct h))
  | tup h l i => exact .tup h l fun x hx => (i x hx).od (ho.imp id fun h => ⟨_, h⟩)
end
def Live (Z : Addr → Prop) (H : Hp) : Prop := ∀ a, Z a → H a ≠ none
theorem Live.same {Z : Addr → Prop} {H H' : Hp} (l : Live Z H) (s : Same H H') : Live Z H' := fun a z e => by
  cases h : H a with
  | none => exact l a z h
  | some o => rw [s a o h] at e; cases e
theorem Live.hs {Z : Addr → Prop} {H H' : Hp} {B : Bg} (l : Live Z H) (s : Hs K B H H') : Live Z H' := fun a z e => l a z (s.free e)
theorem Live.not {Z : Addr → Prop} {H : Hp} {a : Addr} (l : Live Z H) (n : H a = none) : ¬ Z a := fun z => l a z n
theorem app_one {x : V} : ([] : List V) ++ [x] = [x] := rfl
def sp_deep (K : PySem.W.Frag) : Sp := fun vs H Q _ => ∃ (B : Bg) (Z : Addr → Prop) (oth : V), vs = [.ref B.hd] ∧ BagAt K H B ∧ Z B.hd ∧ Live Z H ∧ ∀ v o H', Hs K B H H' → Tv K Z oth H' v o → Q v H'
theorem ok_law_deep (T : Txt K mg) : FnOk P w K mg base CX0 3 T.law_deep.f T.law_deep.fd ["hand"] (sp_deep K) := by
  refine T.law_deep.F.ok sc_law_deep (fun vs H Q E h => ?_) (fun cdv A outer s H vs Q E hr h => ?_)
  · obtain ⟨B, Z, oth, rfl, _⟩ := h
    rfl
  · obtain ⟨B, Z, oth, rfl, hB, zB, lv, k⟩ := h
    refine ⟨_, (pss_cons (ps_set (i := 1) sc_law_deep.nd rfl (Or.inl rfl) (pe_call (ok_law_any T) (hr.mono (by decide)) (by rfl) T.law_any.g T.law_any.F.kp T.law_any.b .nil pass0 (pa_cons (pv 0) (pa_cons (pe_lst (pa_cons pe_int (pa_cons (pe_tup pa_nil) (pa_cons pe_str pa_nil)))) pa_nil))))
    (pss_cons (ps_for PassesOwn.never rfl (pi_range1 (by rfl) T.z_range (pa_cons (pe_op oAdd pe_int (pe_call (ok_law_draw T) (hr.mono (by decide)) (by rfl) T.law_draw.g T.law_draw.F.kp T.law_draw.b .nil pass0 (pa_cons (pv 0) (pa_cons pe_int pa_nil)))) pa_nil)) (pg_name (i := 2) sc_law_deep.nd rfl (Or.inl rfl))
      (pss_one (ps_set (i := 1) sc_law_deep.nd rfl (Or.inl rfl) (pe_ifExp (pt_cmpR op_gt (pe_call (ok_law_draw T) (hr.mono (by decide)) (by rfl) T.law_draw.g T.law_draw.F.kp T.law_draw.b .nil pass0 (pa_cons (pv 0) (pa_cons pe_int pa_nil))) pe_int (nomark _)) (pe_tup (pa_cons (pv 1) pa_nil)) (pe_lst (pa_cons (pv 1) pa_nil))))))
    (pss_one (ps_ret (pv 1))))), ?_⟩
    walk_at "go"
    refine n_new (le_size (by simp)) fun t H1 n1 s1 h1 => ?_
    walk_at "go"
    refine n_new (le_size (by simp)) fun l H2 n2 s2 h2 => ?_
    have hs2 := Hs.of hB (s1.trans s2)
    walk_at "go"
    refine ⟨B, l, _, rfl, hs2.b, slO h2, new_ne (bag_same hB s1) n2, by simp, by simp, fun x H3 hx s3 => ?_⟩
    have ht3 := s3.st hs2.b (stO (s2 _ _ h1))
    have hs3 := hs2.trans s3
    have tv3 : ∃ o, Tv K Z oth H3 x o := by
      simp only [List.mem_cons, List.not_mem_nil, or_false] at hx
      rcases hx with z | z | z <;> subst z
      · exact ⟨_, .sm rfl⟩
      · exact ⟨_, .tup ht3 (by simp) (by simp)⟩
      · exact ⟨_, .sm (by decide +kernel)⟩
    obtain ⟨o3, tv3⟩ := tv3
    walk_at "go"
    refine ⟨B, 12, rfl, hs3.b, by omega, by omega, fun d H4 d0 d1 s4 => ?_⟩
    have tv4 := tv3.keep (Kp.of_hs hs3.b s4 zB)
    have hs4 := hs3.trans s4
    walk_at "go"
    refine i_rng (18 + d).toNat rfl (by omega) (by omega) ?_
    refine l_rng (fun i σ3 H5 => ∃ (y : Option V) (th : V) (o : Option (List V)), σ3 = [some (.ref B.hd), some th, y] ∧ Hs K B H H5 ∧ Tv K Z oth H5 th o) ⟨_, x, o3, rfl, hs4, tv4⟩ (fun σ3 H5 z => ?_) (fun i σ3 H5 hi z => ?_)
    · obtain ⟨y, th, o, rfl, hs5, tv5⟩ := z
      walk_at "go"
      exact k _ _ _ hs5 tv5
    · obtain ⟨y, th, o, rfl, hs5, tv5⟩ := z
      walk_at "go"
      refine ⟨B, 3, rfl, hs5.b, by omega, by omega, fun e H6 e0 e1 s6 => ?_⟩
      have tv6 := tv5.keep (Kp.of_hs hs5.b s6 zB)
      have hs6 := hs5.trans s6
      walk_at "go"
      refine i_d (fun q => ?_) (fun q => ?_)
      · walk_at "go"
        refine n_new (le_size (by simp)) fun u H7 n7 s7 h7 => ?_
        walk_at "go"
        exact ⟨_, _, _, rfl, hs6.trans (Hs.of hs6.b s7), .tup (stO h7) (by simp) fun x hx => by rw [List.mem_singleton.mp hx]; exact (tv6.keep (Kp.of_same s7)).vk⟩
      · walk_at "go"
        refine n_new (le_size (by simp)) fun u H7 n7 s7 h7 => ?_
        walk_at "go"
        exact ⟨_, _, _, rfl, hs6.trans (Hs.of hs6.b s7), .lst ((lv.hs hs6).not n7) h7⟩
def sp_odd (K : PySem.W.Frag) : Sp := fun vs H Q _ => ∃ (B : Bg) (Z : Addr → Prop) (oth : V), vs = [.ref B.hd, oth] ∧ BagAt K H B ∧ Z B.hd ∧ Live Z H ∧ ∀ v o H', Hs K B H H' → Tv K Z oth H' v o → Q v H'
theorem ok_law_odd (T : Txt K mg) : FnOk P w K mg base CX0 4 T.law_odd.f T.law_odd.fd ["hand", "other"] (sp_odd K) := by
  refine T.law_odd.F.ok sc_law_odd (fun vs H Q E h => ?_) (fun cdv A outer s H vs Q E hr h => ?_)
  · obtain ⟨B, Z, oth, rfl, _⟩ := h
    rfl
  · obtain ⟨B, Z, oth, rfl, hB, zB, lv, k⟩ := h
    refine ⟨_, (pss_cons (ps_set (i := 2) sc_law_odd.nd rfl (Or.inl rfl) (pe_lst (pa_cons pe_non (pa_cons pe_bl (pa_cons pe_bl (pa_cons (pe_un un_neg pe_int) (pa_cons (pe_op op_pow pe_int pe_int) (pa_cons pe_str (pa_cons pe_str (pa_cons (pe_tup pa_nil) (pa_cons (pe_lst pa_nil) (pa_cons pe_dnewK (pa_cons (pe_lst (pa_cons pe_int pa_nil)) (pa_cons (pe_tup (pa_cons pe_int pa_nil)) (pa_cons (pe_disp (pps_cons pe_int pe_int pps_nil) (by rfl) (by rfl) (fun z => by cases z) (by decide)) (pa_cons (pe_tup (pa_cons pe_bl pa_nil)) (pa_cons (pe_tup (pa_cons pe_non pa_nil)) pa_nil)))))))))))))))))
    (pss_one (ps_ret (pe_call (ok_law_any T) (hr.mono (by decide)) (by rfl) T.law_any.g T.law_any.F.kp T.law_any.b .nil pass0 (pa_cons (pv 0) (pa_cons (pe_op oAdd (pv 2) (pe_lst (pa_cons (pv 1) (pa_cons (pe_call (ok_law_deep T) (hr.mono (by decide)) (by rfl) T.law_deep.g T.law_deep.F.kp T.law_deep.b .nil pass0 (pa_cons (pv 0) pa_nil)) pa_nil)))) pa_nil)))))), ?_⟩
    walk_at "go"
    refine n_new (le_size (by simp)) fun t1 H1 n1 s1 h1 => ?_
    walk_at "go"
    refine n_new (le_size (by simp)) fun l2 H2 n2 s2 h2 => ?_
    walk_at "go"
    refine e_dnew fun d3 H3 n3 s3 h3 => ?_
    walk_at "go"
    refine n_new (le_size (by simp)) fun l4 H4 n4 s4 h4 => ?_
    walk_at "go"
    refine n_new (le_size (by simp)) fun t5 H5 n5 s5 h5 => ?_
    walk_at "go"
    intro d6 n6
    have s6 : Same H5 (upd H5 d6 (.dK [])) := Same.new n6
    have h6 : upd H5 d6 (.dK []) d6 = some (.dK []) := upd_same
    generalize upd H5 d6 (.dK []) = H6 at *
    walk_at "go"
    refine ⟨h6, [(.inl 0, .int 0)], rfl, by show 1 ≤ 15; decide, ?_⟩
    have s7 : Same H5 (upd H6 d6 (.dK (mergeK [] [((.inl 0 : Key), V.int 0)]))) := upd_free s6 n6
    have h7 : upd H6 d6 (.dK (mergeK [] [((.inl 0 : Key), V.int 0)])) d6 = some (.dK (mergeK [] [((.inl 0 : Key), V.int 0)])) := upd_same
    generalize upd H6 d6 (.dK (mergeK [] [((.inl 0 : Key), V.int 0)])) = H7 at *
    walk_at "go"
    refine n_new (le_size (by simp)) fun t8 H8 n8 s8 h8 => ?_
    walk_at "go"
    refine n_new (le_size (by simp)) fun t9 H9 n9 s9 h9 => ?_
    walk_at "go"
    refine n_new (le_size (by simp)) fun l10 H10 n10 s10 h10 => ?_
    have s9a := s9.trans s10
    have s8a := s8.trans s9a
    have s7a := s7.trans s8a
    have s5a := s5.trans s7a
    have s4a := s4.trans s5a
    have s3a := s3.trans s4a
    have s2a := s2.trans s3a
    have s1a := s1.trans s2a
    have hs10 := Hs.of hB s1a
    have all10 : ∀ x ∈ [V.non, .bl true, .bl false, .int (-1), .int (10 ^ 30), .str "0", .str "a", .ref t1, .ref l2, .ref d3, .ref l4, .ref t5, .ref d6, .ref t8, .ref t9], ∃ o, Tv K Z oth H10 x o := fun x hx => by
      simp only [List.mem_cons, List.not_mem_nil, or_false] at hx
      rcases hx with z | z | z | z | z | z | z | z | z | z | z | z | z | z | z <;> subst z
      · exact ⟨_, .sm rfl⟩
      · exact ⟨_, .sm rfl⟩
      · exact ⟨_, .sm rfl⟩
      · exact ⟨_, .sm rfl⟩
      · exact ⟨_, .sm rfl⟩
      · exact ⟨_, .sm (by decide +kernel)⟩
      · exact ⟨_, .sm (by decide +kernel)⟩
      · exact ⟨_, .tup (stO (s2a _ _ h1)) (by simp) (by simp)⟩
      · exact ⟨_, .lst ((lv.same s1).not n2) (s3a _ _ h2)⟩
      · exact ⟨_, .dct ((lv.same (s1.trans s2)).not n3) (s4a _ _ h3)⟩
      · exact ⟨_, .lst ((lv.same (s1.trans (s2.trans s3))).not n4) (s5a _ _ h4)⟩
      · exact ⟨_, .tup (stO (s7a _ _ h5)) (by simp) fun x hx => by rw [List.mem_singleton.mp hx]; exact .sm rfl⟩
      · exact ⟨_, .dct ((lv.same (s1.trans (s2.trans (s3.trans (s4.trans s5))))).not n6) (s8a _ _ h7)⟩
      · exact ⟨_, .tup (stO (s9a _ _ h8)) (by simp) fun x hx => by rw [List.mem_singleton.mp hx]; exact .sm rfl⟩
      · exact ⟨_, .tup (stO (s10 _ _ h9)) (by simp) fun x hx => by rw [List.mem_singleton.mp hx]; exact .sm rfl⟩
    clear s9a s8a s7a s5a s4a s3a s2a h1 h2 h3 h4 h5 h6 h7 h8 h9
    walk_at "go"
    refine ⟨B, Z, oth, rfl, hs10.b, zB, lv.same s1a, fun v o H11 s11 tv11 => ?_⟩
    walk_at "go"
    refine n_new (le_size (by simp)) fun l12 H12 n12 s12 h12 => ?_
    have h10' := s12 _ _ (s11.ls (new_ne (bag_same hB (s1.trans (s2.trans (s3.trans (s4.trans (s5.trans (s7.trans (s8.trans s9)))))))) n10) h10)
    refine o_cat h10' h12 (by simp) ?_
    refine n_new0 fun l13 H13 n13 s13 h13 => ?_
    walk_at "go"
    have hs11 := hs10.trans s11
    have hs12 := hs11.trans (Hs.of hs11.b s12)
    have hs13 := hs12.trans (Hs.of hs12.b s13)
    refine ⟨B, l13, _, rfl, hs13.b, slO h13, new_ne hs12.b n13, by simp, by simp, fun x H14 hx s14 => ?_⟩
    have kp : Kp K Z H11 H14 := (Kp.of_same (s12.trans s13)).trans (Kp.of_hs hs13.b s14 zB)
    have tvx : ∃ o, Tv K Z oth H14 x o := by
      rcases List.mem_append.mp hx with y | y
      · obtain ⟨o, z⟩ := all10 x y
        exact ⟨o, z.keep ((Kp.of_hs hs10.b s11 zB).trans kp)⟩
      · simp only [List.mem_cons, List.not_mem_nil, or_false] at y
        rcases y with z | z <;> subst z
        · exact ⟨_, .oth⟩
        · exact ⟨_, tv11.keep kp⟩
    obtain ⟨ox, tvx⟩ := tvx
    walk_at "go"
    exact k _ _ _ (hs13.trans s14) tvx
end
end Vw

set_option Elab.async false
set_option linter.all false
set_option maxRecDepth 100000
set_option maxHeartbeats 4000000
namespace Vw
open PySem PySem.Spec PyProof.Rows L2 RT
local macro_rules | `(tactic| walk_at "s") => `(tactic| with_reducible first
  | refine' s_seq ?_ | refine' s_next ?_ | refine' s_set ?_ | refine' s_ret ?_ | refine' s_retN ?_ | refine' s_drop ?_ | refine' s_if ?_ | refine' s_ipI ?_
  | refine' e_c ?_ | refine' e_op ?_ | refine' e_un ?_ | refine' e_neg ?_ | refine' e_test ?_ | refine' e_tB ?_ | refine' e_bl ?_ | refine' e_and ?_ | refine' e_or ?_ | refine' e_not ?_
  | refine' e_andV ?_ | refine' e_orV ?_ | refine' e_notV ?_ | refine' e_kV ?_ | refine' e_ife ?_ | refine' e_nil ?_ | refine' e_cons ?_ | refine' e_cb ?_ | refine' e_call ?_ | refine' e_chain ?_
  | refine' o_addI ?_ | refine' o_eqI ?_ | refine' o_neI ?_ | refine' o_I0 ?_ | refine' o_pow16 ?_ | refine' o_pow17 ?_ | refine' o_pow18 ?_ | refine' o_pow19 ?_ | refine' o_pow30 ?_ | refine' o_pow31 ?_ | refine' o_pow1 ?_ | refine' o_pow2 ?_ | refine' o_pow3 ?_ | refine' o_pow4 ?_ | refine' o_pow5 ?_ | refine' o_pow6 ?_ | refine' o_pow9 ?_ | refine' o_pow10 ?_ | refine' o_pow12 ?_ | refine' o_pow15 ?_ | refine' o_pow20 ?_ | refine' e_lst ?_ | refine' e_tup ?_ | refine' iteT ?_ | refine' i_nt ?_ | refine' i_nf ?_ | refine' iteF ?_ | refine' c_int ?_ | refine' c_abs ?_ | refine' c_min2 ?_ | refine' c_max2 ?_ | refine' e_tru ?_ | refine' t_bl ?_ | refine' t_non ?_ | refine' t_int ?_ | refine' isN_non ?_ | refine' isN_int ?_ | refine' isN_ref ?_ | refine' isN_str ?_ | refine' isN_bl ?_ | refine' noN_non ?_ | refine' noN_int ?_ | refine' noN_ref ?_ | refine' noN_str ?_ | refine' noN_bl ?_
  | refine' s_brk ?_ | refine' s_cont ?_ | refine' s_for ?_ | refine' e_lc ?_ | refine' e_dc ?_ | refine' e_yes ?_ | refine' i_rng1 ?_ | refine' i_lst0 ?_ | refine' i_tup0 ?_ | refine' e_bm ?_ | refine' e_sl ?_ | refine' e_np ?_ | refine' e_pt ?_ | refine' e_ptI ?_ | refine' e_din ?_ | refine' e_dnin ?_ | refine' e_methE ?_ | refine' p_cons ?_ | refine' p_nil ?_ | refine' s_dput ?_ | refine' e_dget2 ?_ | refine' e_dpop1 ?_ | refine' i_enum0 ?_ | refine' i_rev0 ?_ | refine' g_sub ?_ | refine' s_asg ?_ | refine' i_zip0 ?_ | refine' e_revT ?_ | refine' isB_bl ?_ | refine' notB_bl ?_ | refine' o_neB ?_ | refine' i_nrr ?_ | refine' e_meth ?_ | refine' s_setf ?_ | refine' e_fld ?_ | refine' e_bm0 ?_ | refine' r_tx ?_ | refine' o_eqStr ?_ | refine' o_neStr ?_)
local macro_rules | `(tactic| walk_at "v") => `(tactic| ((with_reducible refine' e_var ?hv ?_); (case hv => exact rfl)))
local macro_rules | `(tactic| walk_at "a") => `(tactic| ((with_reducible refine' s_aug ?hv ?_); (case hv => exact rfl)))
local macro_rules | `(tactic| walk_at "m") => `(tactic| first
  | ((with_reducible refine' o_mod ?hv ?_); (case hv => first | decide | omega))
  | ((with_reducible refine' o_mulR ?hv ?_); (case hv => omega))
  | ((with_reducible refine' o_mulL ?hv ?_); (case hv => omega))
  | ((with_reducible refine' o_div ?hv ?hw ?_); (case hv => omega); (case hw => omega))
  | ((with_reducible refine' o_pow _ ?hv ?hw ?hx ?_); (case hv => exact rfl); (case hw => decide); (case hx => decide)))
local macro_rules | `(tactic| walk_at "i") => `(tactic| (first
  | ((with_reducible refine' isi_int true ?hv ?_); (case hv => exact (by decide +kernel)))
  | ((with_reducible refine' isi_int false ?hv ?_); (case hv => exact (by decide +kernel)))
  | ((with_reducible refine' isi_non true ?hv ?_); (case hv => exact (by decide +kernel)))
  | ((with_reducible refine' isi_non false ?hv ?_); (case hv => exact (by decide +kernel)))
  | ((with_reducible refine' isi_str true ?hv ?_); (case hv => exact (by decide +kernel)))
  | ((with_reducible refine' isi_str false ?hv ?_); (case hv => exact (by decide +kernel)))
  | ((with_reducible refine' isi_bl true ?hv ?_); (case hv => exact (by decide +kernel)))
  | ((with_reducible refine' isi_bl false ?hv ?_); (case hv => exact (by decide +kernel)))
  | ((with_reducible refine' isi_t true ?hw ?hv ?_); (case hw => assumption); (case hv => exact (by decide +kernel)))
  | ((with_reducible refine' isi_t false ?hw ?hv ?_); (case hw => assumption); (case hv => exact (by decide +kernel)))
  | ((with_reducible refine' isi_l true ?hw ?hv ?_); (case hw => assumption); (case hv => exact (by decide +kernel)))
  | ((with_reducible refine' isi_l false ?hw ?hv ?_); (case hw => assumption); (case hv => exact (by decide +kernel)))
  | ((with_reducible refine' isi_tup true ?hw ?hv ?_); (case hw => assumption); (case hv => exact (by decide +kernel)))
  | ((with_reducible refine' isi_tup false ?hw ?hv ?_); (case hw => assumption); (case hv => exact (by decide +kernel)))
  | ((with_reducible refine' isi_lst true ?hw ?hv ?_); (case hw => assumption); (case hv => exact (by decide +kernel)))
  | ((with_reducible refine' isi_lst false ?hw ?hv ?_); (case hw => assumption); (case hv => exact (by decide +kernel)))))
local macro_rules | `(tactic| walk_at "om") => `(tactic| first | omega | (simp only [List.length_cons, List.length_nil, List.length_map, List.length_append, List.length_range]; omega))
local macro_rules | `(tactic| walk_at "d") => `(tactic| (first
  | ((with_reducible refine' i_dt ?hv ?_); (case hv => walk_at "om"))
  | ((with_reducible refine' i_df ?hv ?_); (case hv => walk_at "om"))
  | ((with_reducible refine' i_ndt ?hv ?_); (case hv => walk_at "om"))
  | ((with_reducible refine' i_ndf ?hv ?_); (case hv => walk_at "om"))))
local macro_rules | `(tactic| walk_at "x") => `(tactic| first
  | ((with_reducible refine' o_ixA ?hv ?hw ?_); (case hv => assumption); (case hw => exact rfl))
  | ((with_reducible refine' o_ixU ?hv ?hw ?_); (case hv => assumption); (case hw => exact rfl))
  | ((with_reducible refine' o_ixL ?hv ?hw ?_); (case hv => assumption); (case hw => exact rfl))
  | ((with_reducible refine' o_ixT ?hv ?hw ?_); (case hv => assumption); (case hw => exact rfl))
  | ((with_reducible refine' set_ ?hv ?hw ?_); (case hv => assumption); (case hw => exact rfl))
  | ((with_reducible refine' e_lenM ?hv ?_); (case hv => first | assumption | exact slO (by assumption)))
  | ((with_reducible refine' e_lenN ?hv ?_); (case hv => first | assumption | exact stO (by assumption)))
  | ((with_reducible refine' e_lenL ?hv ?_); (case hv => first | assumption | exact slO (by assumption)))
  | ((with_reducible refine' e_lenT ?hv ?_); (case hv => first | assumption | exact stO (by assumption))))
local macro_rules | `(tactic| walk_at "c") => `(tactic| first
  | ((with_reducible refine' c_listL ?hv ?_); (case hv => assumption))
  | ((with_reducible refine' c_listT ?hv ?_); (case hv => assumption))
  | ((with_reducible refine' c_tupL ?hv ?_); (case hv => first | assumption | exact slO (by assumption)))
  | ((with_reducible refine' c_tupT ?hv ?_); (case hv => assumption))
  | ((with_reducible refine' t_lst ?hv ?_); (case hv => first | assumption | exact slO (by assumption)))
  | ((with_reducible refine' t_tup ?hv ?_); (case hv => assumption))
  | ((with_reducible refine' r_sl ?hv ?_); (case hv => first | assumption | exact slO (by assumption)))
  | ((with_reducible refine' o_inL ?hv ?_); (case hv => first | assumption | exact slO (by assumption)))
  | ((with_reducible refine' o_inT ?hv ?_); (case hv => first | assumption | exact stO (by assumption)))
  | ((with_reducible refine' o_niL ?hv ?_); (case hv => first | assumption | exact slO (by assumption)))
  | ((with_reducible refine' o_niT ?hv ?_); (case hv => first | assumption | exact stO (by assumption)))
  | ((with_reducible refine' ty_lst ?hv ?_); (case hv => assumption)))
local macro_rules | `(tactic| walk_at "mo") => `(tactic| repeat' (first | exact m_yes | exact m_var | exact m_c | exact m_I0 | exact m_I | exact m_ix | exact m_add | exact m_in | exact m_int1 | exact m_abs | exact m_nil | refine' m_and ?_ ?_ | refine' m_test ?_ | refine' m_tB ?_ | refine' m_op ?_ ?_ ?_ | refine' m_cons ?_ ?_ | refine' m_cb ?_ ?_))
local macro_rules | `(tactic| walk_at "go") => `(tactic| repeat' (first | walk_at "s" | walk_at "v" | walk_at "a" | walk_at "x" | walk_at "m" | walk_at "c" | walk_at "i" | walk_at "d"))

section
variable {P : Program} {w : World} {K : PySem.W.Frag} {mg : Str → Option Value} {base : Heap}
theorem Tv.mid {Z : Addr → Prop} {oth x : V} {H' : Hp} {o : Option (List V)} {p : Addr} {xs ys zs : List V} (h : SqT K H' p (ys ++ [x] ++ zs)) (ly : ys.length ≤ xs.length) (lz : zs.length ≤ xs.length) (lx : xs.length ≤ 40) (my : ∀ y ∈ ys, y ∈ xs) (mz : ∀ y ∈ zs, y ∈ xs) (sm : ∀ y ∈ xs, smallV y = true) (tx : Tv K Z oth H' x o) : Tv K Z oth H' (.ref p) (some (ys ++ [x] ++ zs)) := by
  refine .tup h (by simp; omega) fun y hy => ?_
  rcases List.mem_append.mp hy with q | q
  · rcases List.mem_append.mp q with q | q
    · exact .sm (sm y (my y q))
    · rw [List.mem_singleton.mp q]; exact tx.vk
  · exact .sm (sm y (mz y q))
theorem rep41 {n : Nat} {x : V} {y : V} (h : y ∈ (List.replicate n [x]).flatten) : y = x := by
  obtain ⟨l, hl, hy⟩ := List.mem_flatten.mp h
  rw [List.eq_of_mem_replicate hl] at hy
  exact List.mem_singleton.mp hy
theorem rep_len {n : Nat} {x : V} : (List.replicate n [x]).flatten.length = n := by simp
def sp_some (K : PySem.W.Frag) : Sp := fun vs H Q _ => ∃ (B : Bg) (Z : Addr → Prop) (oth : V), vs = [.ref B.hd, oth] ∧ BagAt K H B ∧ Z B.hd ∧ Live Z H ∧ ∀ v o H', Hs K B H H' → Tv K Z oth H' v o → Q v H'
theorem ok_law_some_content (T : Txt K mg) : FnOk P w K mg base CX0 5 T.law_some_content.f T.law_some_content.fd ["hand", "other"] (sp_some K) := by
  refine T.law_some_content.F.ok sc_law_some_content (fun vs H Q E h => ?_) (fun cdv A outer s H vs Q E hr h => ?_)
  · obtain ⟨B, Z, oth, rfl, _⟩ := h
    rfl
  · obtain ⟨B, Z, oth, rfl, hB, zB, lv, k⟩ := h
    refine ⟨_, (pss_cons (ps_set (i := 2) sc_law_some_content.nd rfl (Or.inl rfl) (pe_call (ok_law_content T) (hr.mono (by decide)) (by rfl) T.law_content.g T.law_content.F.kp T.law_content.b .nil pass0 (pa_cons (pv 0) pa_nil)))
    (pss_cons (ps_set (i := 3) sc_law_some_content.nd rfl (Or.inl rfl) (pe_call (ok_law_draw T) (hr.mono (by decide)) (by rfl) T.law_draw.g T.law_draw.F.kp T.law_draw.b .nil pass0 (pa_cons (pv 0) (pa_cons (pe_op (oAddT (K := K)) (pe_callB (cLen (K := K)) (by rfl) T.z_len PySem.boot_len (pa_cons (pv 2) pa_nil)) pe_int) pa_nil))))
    (pss_cons (ps_set (i := 4) sc_law_some_content.nd rfl (Or.inl rfl) (pe_lst (pa_cons (pe_op (oAddT (K := K)) (pe_op op_pow pe_int pe_int) pe_int) (pa_cons (pe_op op_sub (pe_un un_neg (pe_op op_pow pe_int pe_int)) pe_int) (pa_cons pe_str (pa_cons pe_str (pa_cons pe_str (pa_cons pe_str (pa_cons pe_bl (pa_cons pe_non (pa_cons (pe_tup pa_nil) (pa_cons (pe_lst (pa_cons pe_int pa_nil)) (pa_cons (pe_call (ok_law_odd T) (hr.mono (by decide)) (by rfl) T.law_odd.g T.law_odd.F.kp T.law_odd.b .nil pass0 (pa_cons (pv 0) (pa_cons (pv 1) pa_nil))) pa_nil)))))))))))))
    (pss_cons (ps_set (i := 5) sc_law_some_content.nd rfl (Or.inl rfl) (pe_lst (pa_cons (pv 2) (pa_cons (pe_op (oAddT (K := K)) (pe_op (oAddT (K := K)) (pe_slice (slT (K := K)) (pv 2) po_none (po_some (pv 3))) (pe_tup (pa_cons (pe_call (ok_law_any T) (hr.mono (by decide)) (by rfl) T.law_any.g T.law_any.F.kp T.law_any.b .nil pass0 (pa_cons (pv 0) (pa_cons (pv 4) pa_nil))) pa_nil))) (pe_slice (slT (K := K)) (pv 2) (po_some (pv 3)) po_none)) (pa_cons (pe_callTy (cListOf (K := K)) (by rfl) T.z_list (by decide +kernel) (pa_cons (pv 2) pa_nil)) (pa_cons (pe_op (oTimesT (K := K)) (pe_tup (pa_cons pe_int pa_nil)) pe_int) (pa_cons (pe_op (oTimesT (K := K)) (pe_tup (pa_cons pe_str pa_nil)) pe_int) pa_nil)))))))
    (pss_one (ps_ret (pe_call (ok_law_any T) (hr.mono (by decide)) (by rfl) T.law_any.g T.law_any.F.kp T.law_any.b .nil pass0 (pa_cons (pv 0) (pa_cons (pe_op (oAddT (K := K)) (pv 5) (pe_lst (pa_cons (pe_op (oAddT (K := K)) (pe_op (oAddT (K := K)) (pe_slice (slT (K := K)) (pv 2) po_none (po_some (pv 3))) (pe_tup (pa_cons (pe_call (ok_law_any T) (hr.mono (by decide)) (by rfl) T.law_any.g T.law_any.F.kp T.law_any.b .nil pass0 (pa_cons (pv 0) (pa_cons (pv 4) pa_nil))) pa_nil))) (pe_slice (slT (K := K)) (pv 2) (po_some (pe_op (oAddT (K := K)) (pv 3) pe_int)) po_none)) (pa_cons (pe_call (ok_law_odd T) (hr.mono (by decide)) (by rfl) T.law_odd.g T.law_odd.F.kp T.law_odd.b .nil pass0 (pa_cons (pv 0) (pa_cons (pv 1) pa_nil))) pa_nil)))) pa_nil))))))))), ?_⟩
    walk_at "go"
    refine ⟨B, rfl, hB, fun f xs H1 ok hf s1 => ?_⟩
    have lx : xs.length ≤ 40 := by
      have := ok.2.2
      unfold itemsB at this
      rw [Bool.and_eq_true, Bool.and_eq_true] at this
      have := of_decide_eq_true this.2.1
      omega
    have sm := ok.2.1
    walk_at "go"
    refine ⟨B, _, rfl, s1.b, by omega, by omega, fun at_i H2 a0 a1 s2 => ?_⟩
    have hs2 := s1.trans s2
    have hf2 := s2.st s1.b hf
    walk_at "go"
    refine n_new (le_size (by simp)) fun t3 H3 n3 s3 h3 => ?_
    walk_at "go"
    refine n_new (le_size (by simp)) fun l4 H4 n4 s4 h4 => ?_
    have hs4 := hs2.trans (Hs.of hs2.b (s3.trans s4))
    walk_at "go"
    refine ⟨B, Z, oth, rfl, hs4.b, zB, lv.hs hs4, fun v5 o5 H5 s5 tv5 => ?_⟩
    have hs5 := hs4.trans s5
    have ht5 : SqT K H5 t3 [] := s5.st hs4.b (stO (s4 _ _ h3))
    have nz4 : ¬ Z l4 := (lv.hs (hs2.trans (Hs.of hs2.b s3))).not n4
    have hl5 : H5 l4 = some (.lst [.int 1]) := s5.ls (fun e => nz4 (by rw [e]; exact zB)) h4
    have hf5 := s5.st hs4.b (st_ (s3.trans s4) hf2)
    walk_at "go"
    refine n_new (le_size (by simp)) fun l6 H6 n6 s6 h6 => ?_
    have hs6 := hs5.trans (Hs.of hs5.b s6)
    have nB6 : l6 ≠ B.hd := new_ne hs5.b n6
    have hf6 := st_ s6 hf5
    have all6 : ∀ H', Kp K Z H6 H' → ∀ x ∈ [V.int (10 ^ 30 + 1), .int (-10 ^ 30 - 1), .str "abcdefghijklm", .str "A", .str "a b", .str "1", .bl true, .non, .ref t3, .ref l4, v5], ∃ o, Tv K Z oth H' x o := fun H' kp x hx => by
      have kp5 : Kp K Z H5 H' := (Kp.of_same s6).trans kp
      simp only [List.mem_cons, List.not_mem_nil, or_false] at hx
      rcases hx with z | z | z | z | z | z | z | z | z | z | z <;> subst z
      · exact ⟨_, .sm rfl⟩
      · exact ⟨_, .sm rfl⟩
      · exact ⟨_, .sm (by decide +kernel)⟩
      · exact ⟨_, .sm (by decide +kernel)⟩
      · exact ⟨_, .sm (by decide +kernel)⟩
      · exact ⟨_, .sm (by decide +kernel)⟩
      · exact ⟨_, .sm rfl⟩
      · exact ⟨_, .sm rfl⟩
      · exact ⟨_, (Tv.tup ht5 (by simp) (by simp)).keep kp5⟩
      · exact ⟨_, (Tv.lst nz4 hl5).keep kp5⟩
      · exact ⟨_, tv5.keep kp5⟩
    clear h3 h4 hl5 ht5
    walk_at "go"
    refine r_slA hf6 fun c7 H7 ys s7 hc7 ly my => ?_
    have hs7 := hs6.trans (Hs.of hs6.b s7)
    walk_at "go"
    refine ⟨B, l6, _, rfl, hs7.b, slO (s7 _ _ h6), nB6, by simp, by simp, fun x8 H8 hx8 s8 => ?_⟩
    have hs8 := hs7.trans s8
    have kp68 : Kp K Z H6 H8 := (Kp.of_same s7).trans (Kp.of_hs hs7.b s8 zB)
    obtain ⟨o8, tv8⟩ := all6 _ kp68 x8 hx8
    have hc8 := s8.st hs7.b hc7
    have hf8 := kp68.t _ _ hf6
    walk_at "go"
    refine n_new (le_size (by simp)) fun t9 H9 n9 s9 h9 => ?_
    refine o_catA (st_ s9 hc8) (stO h9) (by simp; omega) fun p10 H10 s10 hp10 => ?_
    walk_at "go"
    refine r_slA (st_ (s9.trans s10) hf8) fun c11 H11 zs s11 hc11 lz mz => ?_
    refine o_catA (st_ s11 hp10) hc11 (by simp; omega) fun p12 H12 s12 hp12 => ?_
    have s8c := s9.trans (s10.trans (s11.trans s12))
    have tv12 := Tv.mid hp12 ly lz lx my mz sm (tv8.keep (Kp.of_same s8c))
    have hf12 := st_ s8c hf8
    walk_at "go"
    refine n_new0 fun l13 H13 n13 s13 h13 => ?_
    walk_at "go"
    refine n_new (le_size (by simp)) fun t14 H14 n14 s14 h14 => ?_
    walk_at "go"
    refine o_times (n := 41) (stO h14) (by simp) rfl (by omega) (by omega) (by simp) fun t15 H15 n15 s15 h15 => ?_
    walk_at "go"
    refine n_new (le_size (by simp)) fun t16 H16 n16 s16 h16 => ?_
    walk_at "go"
    refine o_times (n := 40) (stO h16) (by simp) rfl (by omega) (by omega) (by simp) fun t17 H17 n17 s17 h17 => ?_
    walk_at "go"
    refine n_new (le_size (by simp)) fun l18 H18 n18 s18 h18 => ?_
    have s17c := s18
    have s15c := s16.trans (s17.trans s17c)
    have s13c := s14.trans (s15.trans s15c)
    have s12c := s13.trans s13c
    have hs12 := hs8.trans (Hs.of hs8.b s8c)
    have hs18 := hs12.trans (Hs.of hs12.b s12c)
    have all18 : ∀ H', Kp K Z H18 H' → ∀ x ∈ [V.ref f, .ref p12, .ref l13, .ref t15, .ref t17], ∃ o, Tv K Z oth H' x o := fun H' kp x hx => by
      simp only [List.mem_cons, List.not_mem_nil, or_false] at hx
      rcases hx with z | z | z | z | z <;> subst z
      · exact ⟨_, (Tv.tup (st_ s12c hf12) (by omega) fun y hy => .sm (sm y hy)).keep kp⟩
      · exact ⟨_, (tv12.keep (Kp.of_same s12c)).keep kp⟩
      · exact ⟨_, (Tv.lst ((lv.hs hs12).not n13) (s13c _ _ h13)).keep kp⟩
      · exact ⟨_, (Tv.tup (stO (s15c _ _ h15)) (by rw [rep_len]; omega) fun y hy => by rw [rep41 hy]; exact .sm rfl).keep kp⟩
      · exact ⟨_, (Tv.tup (stO (s17c _ _ h17)) (by rw [rep_len]; omega) fun y hy => by rw [rep41 hy]; exact .sm (by decide +kernel)).keep kp⟩
    have nB18 : l18 ≠ B.hd := new_ne (hs12.trans (Hs.of hs12.b (s13.trans (s14.trans (s15.trans (s16.trans s17)))))).b n18
    have hf18 := st_ s12c hf12
    have h6' : H18 l6 = some (.lst _) := (s8c.trans s12c) _ _ (s8.ls nB6 (s7 _ _ h6))
    have kp618 : Kp K Z H6 H18 := kp68.trans (Kp.of_same (s8c.trans s12c))
    clear h13 h14 h15 h16 h17
    walk_at "go"
    refine r_slA hf18 fun c19 H19 ys2 s19 hc19 ly2 my2 => ?_
    have hs19 := hs18.trans (Hs.of hs18.b s19)
    walk_at "go"
    refine ⟨B, l6, _, rfl, hs19.b, slO (s19 _ _ h6'), nB6, by simp, by simp, fun x20 H20 hx20 s20 => ?_⟩
    have hs20 := hs19.trans s20
    have kp1820 : Kp K Z H18 H20 := (Kp.of_same s19).trans (Kp.of_hs hs19.b s20 zB)
    obtain ⟨o20, tv20⟩ := all6 _ (kp618.trans kp1820) x20 hx20
    have hc20 := s20.st hs19.b hc19
    have hf20 := kp1820.t _ _ hf18
    have h18' : H20 l18 = some (.lst _) := s20.ls nB18 (s19 _ _ h18)
    walk_at "go"
    refine n_new (le_size (by simp)) fun t21 H21 n21 s21 h21 => ?_
    refine o_catA (st_ s21 hc20) (stO h21) (by simp; omega) fun p22 H22 s22 hp22 => ?_
    walk_at "go"
    refine r_slA (st_ (s21.trans s22) hf20) fun c23 H23 zs2 s23 hc23 lz2 mz2 => ?_
    refine o_catA (st_ s23 hp22) hc23 (by simp; omega) fun p24 H24 s24 hp24 => ?_
    have s20c := s21.trans (s22.trans (s23.trans s24))
    have tv24 := Tv.mid hp24 ly2 lz2 lx my2 mz2 sm (tv20.keep (Kp.of_same s20c))
    have hs24 := hs20.trans (Hs.of hs20.b s20c)
    walk_at "go"
    refine ⟨B, Z, oth, rfl, hs24.b, zB, lv.hs hs24, fun v25 o25 H25 s25 tv25 => ?_⟩
    have hs25 := hs24.trans s25
    have kp2425 : Kp K Z H24 H25 := Kp.of_hs hs24.b s25 zB
    walk_at "go"
    refine n_new (le_size (by simp)) fun l26 H26 n26 s26 h26 => ?_
    have h18'' : H26 l18 = some (.lst _) := s26 _ _ (s25.ls nB18 (s20c _ _ h18'))
    refine o_cat h18'' h26 (by simp) ?_
    refine n_new0 fun l27 H27 n27 s27 h27 => ?_
    have hs26 := hs25.trans (Hs.of hs25.b s26)
    have hs27 := hs26.trans (Hs.of hs26.b s27)
    walk_at "go"
    refine ⟨B, l27, _, rfl, hs27.b, slO h27, new_ne hs26.b n27, by simp, by simp, fun x28 H28 hx28 s28 => ?_⟩
    have kp2528 : Kp K Z H25 H28 := (Kp.of_same (s26.trans s27)).trans (Kp.of_hs hs27.b s28 zB)
    have tvx : ∃ o, Tv K Z oth H28 x28 o := by
      rcases List.mem_append.mp hx28 with y | y
      · exact all18 _ (kp1820.trans ((Kp.of_same s20c).trans (kp2425.trans kp2528))) x28 y
      · simp only [List.mem_cons, List.not_mem_nil, or_false] at y
        rcases y with z | z <;> subst z
        · exact ⟨_, tv24.keep (kp2425.trans kp2528)⟩
        · exact ⟨_, tv25.keep kp2528⟩
    obtain ⟨ox, tvx⟩ := tvx
    walk_at "go"
    exact k _ _ _ (hs27.trans s28) tvx
end
end Vw

set_option Elab.async false
set_option linter.all false
set_option maxRecDepth 100000
set_option maxHeartbeats 4000000
namespace Vw
open PySem PySem.Spec PyProof.Rows L2 RT
local macro_rules | `(tactic| walk_at "s") => `(tactic| with_reducible first
  | refine' s_seq ?_ | refine' s_next ?_ | refine' s_set ?_ | refine' s_ret ?_ | refine' s_retN ?_ | refine' s_drop ?_ | refine' s_if ?_ | refine' s_ipI ?_
  | refine' e_c ?_ | refine' e_op ?_ | refine' e_un ?_ | refine' e_neg ?_ | refine' e_test ?_ | refine' e_tB ?_ | refine' e_bl ?_ | refine' e_and ?_ | refine' e_or ?_ | refine' e_not ?_
  | refine' e_andV ?_ | refine' e_orV ?_ | refine' e_notV ?_ | refine' e_kV ?_ | refine' e_ife ?_ | refine' e_nil ?_ | refine' e_cons ?_ | refine' e_cb ?_ | refine' e_call ?_ | refine' e_chain ?_
  | refine' o_addI ?_ | refine' o_eqI ?_ | refine' o_neI ?_ | refine' o_I0 ?_ | refine' o_pow16 ?_ | refine' o_pow17 ?_ | refine' o_pow18 ?_ | refine' o_pow19 ?_ | refine' o_pow30 ?_ | refine' o_pow31 ?_ | refine' o_pow1 ?_ | refine' o_pow2 ?_ | refine' o_pow3 ?_ | refine' o_pow4 ?_ | refine' o_pow5 ?_ | refine' o_pow6 ?_ | refine' o_pow9 ?_ | refine' o_pow10 ?_ | refine' o_pow12 ?_ | refine' o_pow15 ?_ | refine' o_pow20 ?_ | refine' e_lst ?_ | refine' e_tup ?_ | refine' iteT ?_ | refine' i_nt ?_ | refine' i_nf ?_ | refine' iteF ?_ | refine' c_int ?_ | refine' c_abs ?_ | refine' c_min2 ?_ | refine' c_max2 ?_ | refine' e_tru ?_ | refine' t_bl ?_ | refine' t_non ?_ | refine' t_int ?_ | refine' isN_non ?_ | refine' isN_int ?_ | refine' isN_ref ?_ | refine' isN_str ?_ | refine' isN_bl ?_ | refine' noN_non ?_ | refine' noN_int ?_ | refine' noN_ref ?_ | refine' noN_str ?_ | refine' noN_bl ?_
  | refine' s_brk ?_ | refine' s_cont ?_ | refine' s_for ?_ | refine' e_lc ?_ | refine' e_dc ?_ | refine' e_yes ?_ | refine' i_rng1 ?_ | refine' i_lst0 ?_ | refine' i_tup0 ?_ | refine' e_bm ?_ | refine' e_sl ?_ | refine' e_np ?_ | refine' e_pt ?_ | refine' e_ptI ?_ | refine' e_din ?_ | refine' e_dnin ?_ | refine' e_methE ?_ | refine' p_cons ?_ | refine' p_nil ?_ | refine' s_dput ?_ | refine' e_dget2 ?_ | refine' e_dpop1 ?_ | refine' i_enum0 ?_ | refine' i_rev0 ?_ | refine' g_sub ?_ | refine' s_asg ?_ | refine' i_zip0 ?_ | refine' e_revT ?_ | refine' isB_bl ?_ | refine' notB_bl ?_ | refine' o_neB ?_ | refine' i_nrr ?_ | refine' e_meth ?_ | refine' s_setf ?_ | refine' e_fld ?_ | refine' e_bm0 ?_ | refine' r_tx ?_ | refine' o_eqStr ?_ | refine' o_neStr ?_)
local macro_rules | `(tactic| walk_at "v") => `(tactic| ((with_reducible refine' e_var ?hv ?_); (case hv => exact rfl)))
local macro_rules | `(tactic| walk_at "a") => `(tactic| ((with_reducible refine' s_aug ?hv ?_); (case hv => exact rfl)))
local macro_rules | `(tactic| walk_at "m") => `(tactic| first
  | ((with_reducible refine' o_mod ?hv ?_); (case hv => first | decide | omega))
  | ((with_reducible refine' o_mulR ?hv ?_); (case hv => omega))
  | ((with_reducible refine' o_mulL ?hv ?_); (case hv => omega))
  | ((with_reducible refine' o_div ?hv ?hw ?_); (case hv => omega); (case hw => omega))
  | ((with_reducible refine' o_pow _ ?hv ?hw ?hx ?_); (case hv => exact rfl); (case hw => decide); (case hx => decide)))
local macro_rules | `(tactic| walk_at "i") => `(tactic| (first
  | ((with_reducible refine' isi_int true ?hv ?_); (case hv => exact (by decide +kernel)))
  | ((with_reducible refine' isi_int false ?hv ?_); (case hv => exact (by decide +kernel)))
  | ((with_reducible refine' isi_non true ?hv ?_); (case hv => exact (by decide +kernel)))
  | ((with_reducible refine' isi_non false ?hv ?_); (case hv => exact (by decide +kernel)))
  | ((with_reducible refine' isi_str true ?hv ?_); (case hv => exact (by decide +kernel)))
  | ((with_reducible refine' isi_str false ?hv ?_); (case hv => exact (by decide +kernel)))
  | ((with_reducible refine' isi_bl true ?hv ?_); (case hv => exact (by decide +kernel)))
  | ((with_reducible refine' isi_bl false ?hv ?_); (case hv => exact (by decide +kernel)))
  | ((with_reducible refine' isi_t true ?hw ?hv ?_); (case hw => assumption); (case hv => exact (by decide +kernel)))
  | ((with_reducible refine' isi_t false ?hw ?hv ?_); (case hw => assumption); (case hv => exact (by decide +kernel)))
  | ((with_reducible refine' isi_l true ?hw ?hv ?_); (case hw => assumption); (case hv => exact (by decide +kernel)))
  | ((with_reducible refine' isi_l false ?hw ?hv ?_); (case hw => assumption); (case hv => exact (by decide +kernel)))
  | ((with_reducible refine' isi_tup true ?hw ?hv ?_); (case hw => assumption); (case hv => exact (by decide +kernel)))
  | ((with_reducible refine' isi_tup false ?hw ?hv ?_); (case hw => assumption); (case hv => exact (by decide +kernel)))
  | ((with_reducible refine' isi_lst true ?hw ?hv ?_); (case hw => assumption); (case hv => exact (by decide +kernel)))
  | ((with_reducible refine' isi_lst false ?hw ?hv ?_); (case hw => assumption); (case hv => exact (by decide +kernel)))))
local macro_rules | `(tactic| walk_at "om") => `(tactic| first | omega | (simp only [List.length_cons, List.length_nil, List.length_map, List.length_append, List.length_range]; omega))
local macro_rules | `(tactic| walk_at "d") => `(tactic| (first
  | ((with_reducible refine' i_dt ?hv ?_); (case hv => walk_at "om"))
  | ((with_reducible refine' i_df ?hv ?_); (case hv => walk_at "om"))
  | ((with_reducible refine' i_ndt ?hv ?_); (case hv => walk_at "om"))
  | ((with_reducible refine' i_ndf ?hv ?_); (case hv => walk_at "om"))))
local macro_rules | `(tactic| walk_at "x") => `(tactic| first
  | ((with_reducible refine' o_ixA ?hv ?hw ?_); (case hv => assumption); (case hw => exact rfl))
  | ((with_reducible refine' o_ixU ?hv ?hw ?_); (case hv => assumption); (case hw => exact rfl))
  | ((with_reducible refine' o_ixL ?hv ?hw ?_); (case hv => assumption); (case hw => exact rfl))
  | ((with_reducible refine' o_ixT ?hv ?hw ?_); (case hv => assumption); (case hw => exact rfl))
  | ((with_reducible refine' set_ ?hv ?hw ?_); (case hv => assumption); (case hw => exact rfl))
  | ((with_reducible refine' e_lenM ?hv ?_); (case hv => first | assumption | exact slO (by assumption)))
  | ((with_reducible refine' e_lenN ?hv ?_); (case hv => first | assumption | exact stO (by assumption)))
  | ((with_reducible refine' e_lenL ?hv ?_); (case hv => first | assumption | exact slO (by assumption)))
  | ((with_reducible refine' e_lenT ?hv ?_); (case hv => first | assumption | exact stO (by assumption))))
local macro_rules | `(tactic| walk_at "c") => `(tactic| first
  | ((with_reducible refine' c_listL ?hv ?_); (case hv => assumption))
  | ((with_reducible refine' c_listT ?hv ?_); (case hv => assumption))
  | ((with_reducible refine' c_tupL ?hv ?_); (case hv => first | assumption | exact slO (by assumption)))
  | ((with_reducible refine' c_tupT ?hv ?_); (case hv => assumption))
  | ((with_reducible refine' t_lst ?hv ?_); (case hv => first | assumption | exact slO (by assumption)))
  | ((with_reducible refine' t_tup ?hv ?_); (case hv => assumption))
  | ((with_reducible refine' r_sl ?hv ?_); (case hv => first | assumption | exact slO (by assumption)))
  | ((with_reducible refine' o_inL ?hv ?_); (case hv => first | assumption | exact slO (by assumption)))
  | ((with_reducible refine' o_inT ?hv ?_); (case hv => first | assumption | exact stO (by assumption)))
  | ((with_reducible refine' o_niL ?hv ?_); (case hv => first | assumption | exact slO (by assumption)))
  | ((with_reducible refine' o_niT ?hv ?_); (case hv => first | assumption | exact stO (by assumption)))
  | ((with_reducible refine' ty_lst ?hv ?_); (case hv => assumption)))
local macro_rules | `(tactic| walk_at "mo") => `(tactic| repeat' (first | exact m_yes | exact m_var | exact m_c | exact m_I0 | exact m_I | exact m_ix | exact m_add | exact m_in | exact m_int1 | exact m_abs | exact m_nil | refine' m_and ?_ ?_ | refine' m_test ?_ | refine' m_tB ?_ | refine' m_op ?_ ?_ ?_ | refine' m_cons ?_ ?_ | refine' m_cb ?_ ?_))
local macro_rules | `(tactic| walk_at "go") => `(tactic| repeat' (first | walk_at "s" | walk_at "v" | walk_at "a" | walk_at "x" | walk_at "m" | walk_at "c" | walk_at "i" | walk_at "d"))

section
variable {P : Program} {w : World} {K : PySem.W.Frag} {mg : Str → Option Value} {base : Heap}
theorem addRow_find {rows : Rw} {b : Int} {c r' : Addr} {x : Int} : (addRow rows b c r').find? (fun q => decide (q.1 = x)) = if x = b then some (match rows.find? fun q => decide (q.1 = b) with | some r => (r.1, r.2.1, r.2.2 ++ [c]) | none => (b, r', [c])) else rows.find? fun q => decide (q.1 = x) := by
  unfold addRow
  cases e : rows.find? fun r => decide (r.1 = b) with
  | some r0 =>
    show (rows.map fun r => if r.1 = b then (r.1, r.2.1, r.2.2 ++ [c]) else r).find? _ = _
    rw [List.find?_map]
    have e2 : ((fun q : Int × Addr × List Addr => decide (q.1 = x)) ∘ fun q => if q.1 = b then (q.1, q.2.1, q.2.2 ++ [c]) else q) = fun q => decide (q.1 = x) := by
      funext q
      show decide ((if q.1 = b then (q.1, q.2.1, q.2.2 ++ [c]) else q).1 = x) = decide (q.1 = x)
      split <;> rfl
    rw [e2]
    by_cases hx : x = b
    · rw [if_pos hx, hx, e]
      have : r0.1 = b := of_decide_eq_true (List.find?_some (p := fun r : Int × Addr × List Addr => decide (r.1 = b)) e)
      show some (if r0.1 = b then _ else r0) = _
      rw [if_pos this]
    · rw [if_neg hx]
      cases q : rows.find? fun q => decide (q.1 = x) with
      | none => rfl
      | some r =>
        have : r.1 = x := of_decide_eq_true (List.find?_some (p := fun r : Int × Addr × List Addr => decide (r.1 = x)) q)
        show some (if r.1 = b then _ else r) = some r
        rw [if_neg (by rw [this]; exact hx)]
  | none =>
    show (rows ++ [(b, r', [c])]).find? _ = _
    rw [List.find?_append]
    by_cases hx : x = b
    · rw [if_pos hx, hx, e, Option.none_or]
      simp
    · rw [if_neg hx]
      cases q : rows.find? fun q => decide (q.1 = x) with
      | none => rw [Option.none_or]; simp [Ne.symm hx]
      | some r => rfl
theorem ds_wrote {p : Addr} {H H' : Hp} {D : Dsk} {S : SD} {b : Int} {c r' : Addr} {xs : Ct} (v : Sees K H D S) (hc : SqT K H c xs) (ok : CtOk xs) (h0 : 0 ≤ b) (h1 : b < S.lies.length) (s : Ch (D.foot p) H H') : Sees K H' { D with rows := addRow D.rows b c r' } (S.wrote b xs) := by
  refine ⟨SD.wrote_ok v.ok h0 h1 ok, v.lv.ch s, fun x => ?_, v.pw, v.rc⟩
  show match (addRow D.rows b c r').find? fun q => decide (q.1 = x) with
    | none => (if x = b then S.rows b ++ [xs] else S.rows x) = []
    | some r => TupsAt K H' r.2.2 (if x = b then S.rows b ++ [xs] else S.rows x)
  rw [addRow_find]
  by_cases hx : x = b
  · rw [if_pos hx, if_pos hx]
    cases e : D.rows.find? fun q => decide (q.1 = b) with
    | some r => exact ((v.rv.som e).ch s).snoc (s.st hc)
    | none =>
      rw [v.rv.non e]
      exact TupsAt.nil.snoc (s.st hc)
  · rw [if_neg hx, if_neg hx]
    exact (v.rv.ch s) x
theorem addRow_foot {D : Dsk} {b : Int} {c r' p : Addr} {x : Addr} (h : x ∈ ({ D with rows := addRow D.rows b c r' } : Dsk).foot p) : x ∈ D.foot p ∨ x = r' := by
  unfold Dsk.foot addRow at *
  simp only [List.mem_cons] at h ⊢
  rcases h with z | z | z | z
  · exact .inl (.inl z)
  · exact .inl (.inr (.inl z))
  · exact .inl (.inr (.inr (.inl z)))
  · obtain ⟨q, hq, e⟩ := List.mem_map.mp z
    split at hq
    · obtain ⟨q0, h0, e0⟩ := List.mem_map.mp hq
      refine .inl (.inr (.inr (.inr (List.mem_map.mpr ⟨q0, h0, ?_⟩))))
      rw [← e, ← e0]
      split <;> rfl
    · rcases List.mem_append.mp hq with y | y
      · exact .inl (.inr (.inr (.inr (List.mem_map.mpr ⟨q, y, e⟩))))
      · rw [List.mem_singleton.mp y] at e
        exact .inr e.symm
theorem wr_pre {C p : Addr} {H : Hp} {D : Dsk} {S : SD} (h : DiskAt C H p D) (v : Sees K H D S) (bd : ∀ x, (S.rows x).length < 1000) : D.rows.length < 1000 ∧ ∀ r ∈ D.rows, r.2.2.length < 1000 := by
  refine ⟨?_, fun r hr => ?_⟩
  · have := len_le_of_sub h.kd (L := (List.range D.lies.length).map Int.ofNat) fun x hx => by
      obtain ⟨r, hr, e⟩ := List.mem_map.mp hx
      have := h.kb r hr
      rw [e] at this
      exact List.mem_map.mpr ⟨x.toNat, List.mem_range.mpr (by omega), by show ((x.toNat : Nat) : Int) = x; omega⟩
    rw [List.length_map, List.length_map, List.length_range] at this
    have := h.few
    omega
  · have hx := (rows_mem h v.rv r.1).mp (List.mem_map.mpr ⟨r, hr, rfl⟩)
    obtain ⟨r2, _, hm, hk, tu⟩ := v.rv.there hx
    have : r2 = r := row_uniq h.kd r2 hm r hr hk
    subst this
    rw [tu.1]; exact bd _
theorem ds_write {C p : Addr} {H H' : Hp} {D : Dsk} {S : SD} {b : Int} {c r' : Addr} {xs : Ct} (h : DiskAt C H p D) (v : Sees K H D S) (hc : SqT K H c xs) (ok : CtOk xs) (h0 : 0 ≤ b) (h1 : b < S.lies.length) (hr : r' ∈ D.foot p ∨ H r' = none) (h' : DiskAt C H' p { D with rows := addRow D.rows b c r' }) (but : But (D.foot p) H H') :
    DS K C H' p (({ D with rows := addRow D.rows b c r' } : Dsk).foot p) (S.wrote b xs) ∧ Ch (D.foot p) H H' ∧ ∀ x ∈ ({ D with rows := addRow D.rows b c r' } : Dsk).foot p, x ∈ D.foot p ∨ H x = none := by
  have ch := Ch.of_but but h.mut
  refine ⟨⟨_, h', rfl, ds_wrote v hc ok h0 h1 ch⟩, ch, fun x hx => ?_⟩
  rcases addRow_foot hx with z | z
  · exact .inl z
  · rw [z]; exact hr
theorem w_write {C Cb Cc p c : Addr} {F : List Addr} {S : SD} {H : Hp} {Q : VK} {E : XK} {b : Int} {xs : Ct} (h : DS K C H p F S) (bd : ∀ x, (S.rows x).length < 1000) (h0 : 0 ≤ b) (h1 : b < S.lies.length) (hc : SqT K H c xs) (ok : CtOk xs)
    (q : ∀ F' H', DS K C H' p F' (S.wrote b xs) → Ch F H H' → (∀ a ∈ F', a ∈ F ∨ H a = none) → Q .non H') : sp_disk_write K C Cb Cc [.ref p, .int b, .ref c] H Q E := by
  obtain ⟨D, hD, rfl, v⟩ := h
  obtain ⟨w1, w2⟩ := wr_pre hD v bd
  have := v.lv.1
  refine .inl ⟨p, D, b, c, xs, rfl, hD, h0, by omega, hc, ok.1, ok.2.1, ok.2.2, w1, w2, fun H' r' hr h' but => ?_⟩
  obtain ⟨d, c2, f⟩ := ds_write hD v hc ok h0 h1 hr h' but
  exact q _ H' d c2 f
theorem ds_power {C p : Addr} {H H' : Hp} {D : Dsk} {S : SD} {m : Option Int} (hm : ∀ i, m = some i → 0 ≤ i) (h : DiskAt C H p D) (v : Sees K H D S) (h' : DiskAt C H' p { D with pw := m }) (but : But [p] H H') : DS K C H' p (D.foot p) (S.setPw m) ∧ Ch (D.foot p) H H' := by
  have ch : Ch (D.foot p) H H' := Ch.of_but (fun b o n e => but b o (fun z => n (by rw [List.mem_singleton.mp z]; unfold Dsk.foot; simp)) e) h.mut
  exact ⟨⟨{ D with pw := m }, h', rfl, ⟨SD.setPw_ok v.ok hm, v.lv.ch ch, v.rv.ch ch, rfl, v.rc⟩⟩, ch⟩
theorem bs_power {q : Addr} {H : Hp} {B : Dsk} {S : SD} {m : Option Int} (hm : ∀ i, m = some i → 0 ≤ i) (h : BookAt H q B) (u : Sees K H B S) : BS K (upd H q (.dK (bkv { B with pw := m }))) q (B.foot q) (S.setPw m) ∧ Ch (B.foot q) H (upd H q (.dK (bkv { B with pw := m }))) := by
  have ch : Ch (B.foot q) H (upd H q (.dK (bkv { B with pw := m }))) := Ch.upd1 (by unfold Dsk.foot; simp) fun o e => h.mut q (by unfold Dsk.foot; simp) o e
  have old : ∀ x, x ≠ q → upd H q (.dK (bkv { B with pw := m })) x = H x := fun x hx => upd_ne hx
  refine ⟨⟨{ B with pw := m }, ⟨upd_same, (old _ fun z => by have := h.hl; rw [z, h.ob] at this; cases this).trans h.hl, (old _ h.pw.symm).trans h.hw, fun r hr => ⟨(old _ fun z => by have := (h.hr r hr).1; rw [z, h.ob] at this; cases this).trans (h.hr r hr).1, (h.hr r hr).2⟩, h.nd, h.kd, h.pw, h.lr⟩, rfl, ⟨SD.setPw_ok u.ok hm, u.lv.ch ch, u.rv.ch ch, rfl, u.rc⟩⟩, ch⟩
theorem ne_of_none' {H : Hp} {a b : Addr} {o : HO} (h : H a = some o) (n : H b = none) : b ≠ a := fun z => by rw [z, h] at n; cases n
def MakeQ (C : Addr) (sp : Sp) (dvs : List V) (E : XK) (vs : List V) (H1 : Hp) (Q : VK) : Prop := ∀ x dx, H1 x = none → H1 dx = none → dx ≠ x → sp (.ref x :: (vs ++ dvs)) (upd (upd H1 dx (.own x)) x (.ins C dx [])) (fun v H2 => v = .non ∧ Q (.ref x) H2) E
theorem e_make {C : Addr} {sp : Sp} {dvs : List V} {E : XK} {t : TA} {σ : L2.St} {H : Hp} {Q : VK} (h : t σ H fun vs H1 => MakeQ C sp dvs E vs H1 Q) : tMake C sp dvs E t σ H Q := h
theorem s_par {i j : Nat} {ta : TA} {D : Ends} {σ : L2.St} {H : Hp} (h : ta σ H fun vs H1 => ∃ v w, vs = [v, w] ∧ D.nx ((σ.set i (some v)).set j (some w)) H1) : tPar i j ta D σ H := h
theorem df_pl (l l' w : Addr) (pw : V) (rc : Int) : putF "_lies" (.ref l') (df l w pw rc) = df l' w pw rc := rfl
/-! ### all but some places and the tables stays -/
def ChN (F : List Addr) (H H' : Hp) : Prop := ∀ a o, H a = some o → (a ∉ F ∨ muT o = true) → (∀ ps, o ≠ .tbl ps) → H' a = some o
/-- nothing is there, or a table -/
def Fr (H : Hp) (x : Addr) : Prop := ∀ o, H x = some o → ∃ ps, o = .tbl ps
section
variable {F F' : List Addr} {H H1 H' : Hp} {a c p : Addr} {o : HO} {xs : List V}
theorem Fr.of (h : H a = none) : Fr H a := fun o e => by rw [h] at e; cases e
theorem Fr.not (h : Fr H a) (e : H a = some o) (n : muT o = false) : False := by
  obtain ⟨ps, z⟩ := h o e
  rw [z] at n; cases n
theorem tbl_ne (n : muT o = false) (ps : Array Value) : o ≠ .tbl ps := fun z => by rw [z] at n; cases n
theorem ChN.refl : ChN F H H := fun _ _ e _ _ => e
theorem Ch.n (h : Ch F H H') : ChN F H H' := fun a o e c _ => h a o e c
theorem ChN.of_x (h : LamX.ExtN H H') : ChN F H H' := fun a o e _ n => h a o e n
theorem ChN.of_same (h : Same H H') : ChN F H H' := fun a o e _ _ => h a o e
theorem ChN.trans (h1 : ChN F H H1) (h2 : ChN F' H1 H') (hf : ∀ a ∈ F', a ∈ F ∨ Fr H a) : ChN F H H' := fun a o e c n => by
  refine h2 a o (h1 a o e c n) ?_ n
  rcases c with c | c
  · refine .inl fun m => ?_
    rcases hf a m with z | z
    · exact c z
    · obtain ⟨ps, q⟩ := z o e
      exact n ps q
  · exact .inr c
theorem ChN.mono (h : ChN F H H') (hf : ∀ a ∈ F, a ∈ F' ∨ Fr H a) : ChN F' H H' := (ChN.refl (F := F')).trans h hf
theorem ChN.at_ (h : ChN F H H') (n : a ∉ F) (e : H a = some o) (m : muT o = false) : H' a = some o := h a o e (.inl n) (tbl_ne m)
theorem ChN.st (h : ChN F H H') (s : SqT K H c xs) : SqT K H' c xs := by
  rcases s with (s | ⟨u, s⟩) | s
  · exact .inl (.inl (h _ _ s (.inr rfl) (fun ps z => by cases z)))
  · exact .inl (.inr ⟨u, h _ _ s (.inr rfl) (fun ps z => by cases z)⟩)
  · exact .inr s
theorem ChN.fr (h : ChN F H H') (n : Fr H' a) : a ∈ F ∨ Fr H a := by
  by_cases m : a ∈ F
  · exact .inl m
  · refine .inr fun o e => ?_
    by_cases t : ∃ ps, o = .tbl ps
    · exact t
    · obtain ⟨ps, z⟩ := n o (h a o e (.inl m) fun ps z => t ⟨ps, z⟩)
      exact ⟨ps, z⟩
end
section
variable {X F G : List Addr} {H H' : Hp} {C p q : Addr} {S : SD}
theorem xn_tups {cs : List Addr} {xss : List Ct} (e : ChN X H H') (h : TupsAt K H cs xss) : TupsAt K H' cs xss := ⟨h.1, fun i c xs a b => e.st (h.2 i c xs a b)⟩
theorem sees_n {D : Dsk} (e : ChN X H H') (v : Sees K H D S) : Sees K H' D S := ⟨v.ok, xn_tups e v.lv, fun b => by
  have hb := v.rv b
  split at hb
  · exact hb
  · exact xn_tups e hb, v.pw, v.rc⟩
theorem DS.n (h : DS K C H p F S) (e : ChN X H H') (n : ∀ a ∈ F, a ∉ X) : DS K C H' p F S := by
  obtain ⟨D, d, rfl, v⟩ := h
  obtain ⟨dx, hob⟩ := d.ob
  exact ⟨D, ⟨⟨dx, e.at_ (n p (by unfold Dsk.foot; simp)) hob rfl⟩, e.at_ (n _ (by unfold Dsk.foot; simp)) d.hl rfl, e.at_ (n _ (by unfold Dsk.foot; simp)) d.hw rfl, fun r hr => ⟨e.at_ (n _ (by unfold Dsk.foot; exact List.mem_cons_of_mem _ (List.mem_cons_of_mem _ (List.mem_cons_of_mem _ (List.mem_map.mpr ⟨r, hr, rfl⟩))))) (d.hr r hr).1 rfl, (d.hr r hr).2⟩, d.nd, d.kd, d.lr, d.few, d.kb⟩, rfl, sees_n e v⟩
theorem BS.n (h : BS K H p F S) (e : ChN X H H') (n : ∀ a ∈ F, a ∉ X) : BS K H' p F S := by
  obtain ⟨D, d, rfl, v⟩ := h
  exact ⟨D, ⟨e.at_ (n p (by unfold Dsk.foot; simp)) d.ob rfl, e.at_ (n _ (by unfold Dsk.foot; simp)) d.hl rfl, e.at_ (n _ (by unfold Dsk.foot; simp)) d.hw rfl, fun r hr => ⟨e.at_ (n _ (by unfold Dsk.foot; exact List.mem_cons_of_mem _ (List.mem_cons_of_mem _ (List.mem_cons_of_mem _ (List.mem_map.mpr ⟨r, hr, rfl⟩))))) (d.hr r hr).1 rfl, (d.hr r hr).2⟩, d.nd, d.kd, d.pw, d.lr⟩, rfl, sees_n e v⟩
theorem DS.mut (h : DS K C H p F S) : ∀ a ∈ F, ∀ o, H a = some o → muT o = false := by
  obtain ⟨D, h1, rfl, h2⟩ := h
  exact h1.mut
theorem DS.not_fr (h : DS K C H p F S) {a : Addr} (m : a ∈ F) (z : Fr H a) : False := by
  cases e : H a with
  | none => exact h.there a m e
  | some o => exact z.not e (h.mut a m o e)
theorem BS.not_fr (h : BS K H p F S) {a : Addr} (m : a ∈ F) (z : Fr H a) : False := by
  cases e : H a with
  | none => exact h.there a m e
  | some o => exact z.not e (h.mut a m o e)
structure Two (K : PySem.W.Frag) (C : Addr) (H : Hp) (p q : Addr) (F G : List Addr) (S : SD) : Prop where
  ds : DS K C H p F S
  bs : BS K H q G S
  dj : ∀ x ∈ F, x ∉ G
theorem Two.n (h : Two K C H p q F G S) (e : ChN X H H') (n : ∀ a ∈ F ++ G, a ∉ X) : Two K C H' p q F G S :=
  ⟨h.ds.n e fun a m => n a (List.mem_append_left _ m), h.bs.n e fun a m => n a (List.mem_append_right _ m), h.dj⟩
theorem Two.not_fr (h : Two K C H p q F G S) {a : Addr} (m : a ∈ F ++ G) (z : Fr H a) : False := (List.mem_append.mp m).elim (fun m => h.ds.not_fr m z) fun m => h.bs.not_fr m z
theorem bag_n {B : Bg} (h : BagAt K H B) (e : ChN X H H') (n1 : B.hd ∉ X) (n2 : B.g ∉ X) : BagAt K H' B := by
  obtain ⟨i, big, x, cc, h1, h2, h3⟩ := h
  exact ⟨i, big, x, cc, e.at_ n1 h1 rfl, e.at_ n2 h2 rfl, h3⟩
end
/-! ### a copy -/
end
end Vw

set_option Elab.async false
set_option linter.all false
set_option maxRecDepth 100000
set_option maxHeartbeats 4000000
namespace Vw
open PySem PySem.Spec PyProof.Rows L2 RT
local macro_rules | `(tactic| walk_at "s") => `(tactic| with_reducible first
  | refine' s_seq ?_ | refine' s_next ?_ | refine' s_set ?_ | refine' s_ret ?_ | refine' s_retN ?_ | refine' s_drop ?_ | refine' s_if ?_ | refine' s_ipI ?_
  | refine' e_c ?_ | refine' e_op ?_ | refine' e_un ?_ | refine' e_neg ?_ | refine' e_test ?_ | refine' e_tB ?_ | refine' e_bl ?_ | refine' e_and ?_ | refine' e_or ?_ | refine' e_not ?_
  | refine' e_andV ?_ | refine' e_orV ?_ | refine' e_notV ?_ | refine' e_kV ?_ | refine' e_ife ?_ | refine' e_nil ?_ | refine' e_cons ?_ | refine' e_cb ?_ | refine' e_call ?_ | refine' e_chain ?_
  | refine' o_addI ?_ | refine' o_eqI ?_ | refine' o_neI ?_ | refine' o_I0 ?_ | refine' o_pow16 ?_ | refine' o_pow17 ?_ | refine' o_pow18 ?_ | refine' o_pow19 ?_ | refine' o_pow30 ?_ | refine' o_pow31 ?_ | refine' o_pow1 ?_ | refine' o_pow2 ?_ | refine' o_pow3 ?_ | refine' o_pow4 ?_ | refine' o_pow5 ?_ | refine' o_pow6 ?_ | refine' o_pow9 ?_ | refine' o_pow10 ?_ | refine' o_pow12 ?_ | refine' o_pow15 ?_ | refine' o_pow20 ?_ | refine' e_lst ?_ | refine' e_tup ?_ | refine' iteT ?_ | refine' i_nt ?_ | refine' i_nf ?_ | refine' iteF ?_ | refine' c_int ?_ | refine' c_abs ?_ | refine' c_min2 ?_ | refine' c_max2 ?_ | refine' e_tru ?_ | refine' t_bl ?_ | refine' t_non ?_ | refine' t_int ?_ | refine' isN_non ?_ | refine' isN_int ?_ | refine' isN_ref ?_ | refine' isN_str ?_ | refine' isN_bl ?_ | refine' noN_non ?_ | refine' noN_int ?_ | refine' noN_ref ?_ | refine' noN_str ?_ | refine' noN_bl ?_
  | refine' s_brk ?_ | refine' s_cont ?_ | refine' s_for ?_ | refine' e_lc ?_ | refine' e_dc ?_ | refine' e_yes ?_ | refine' i_rng1 ?_ | refine' i_lst0 ?_ | refine' i_tup0 ?_ | refine' e_bm ?_ | refine' e_sl ?_ | refine' e_np ?_ | refine' e_pt ?_ | refine' e_ptI ?_ | refine' e_din ?_ | refine' e_dnin ?_ | refine' e_methE ?_ | refine' p_cons ?_ | refine' p_nil ?_ | refine' s_dput ?_ | refine' e_dget2 ?_ | refine' e_dpop1 ?_ | refine' i_enum0 ?_ | refine' i_rev0 ?_ | refine' g_sub ?_ | refine' s_asg ?_ | refine' i_zip0 ?_ | refine' e_revT ?_ | refine' isB_bl ?_ | refine' notB_bl ?_ | refine' o_neB ?_ | refine' i_nrr ?_ | refine' e_meth ?_ | refine' s_setf ?_ | refine' e_fld ?_ | refine' e_bm0 ?_ | refine' r_tx ?_ | refine' o_eqStr ?_ | refine' o_neStr ?_)
local macro_rules | `(tactic| walk_at "v") => `(tactic| ((with_reducible refine' e_var ?hv ?_); (case hv => exact rfl)))
local macro_rules | `(tactic| walk_at "a") => `(tactic| ((with_reducible refine' s_aug ?hv ?_); (case hv => exact rfl)))
local macro_rules | `(tactic| walk_at "m") => `(tactic| first
  | ((with_reducible refine' o_mod ?hv ?_); (case hv => first | decide | omega))
  | ((with_reducible refine' o_mulR ?hv ?_); (case hv => omega))
  | ((with_reducible refine' o_mulL ?hv ?_); (case hv => omega))
  | ((with_reducible refine' o_div ?hv ?hw ?_); (case hv => omega); (case hw => omega))
  | ((with_reducible refine' o_pow _ ?hv ?hw ?hx ?_); (case hv => exact rfl); (case hw => decide); (case hx => decide)))
local macro_rules | `(tactic| walk_at "i") => `(tactic| (first
  | ((with_reducible refine' isi_int true ?hv ?_); (case hv => exact (by decide +kernel)))
  | ((with_reducible refine' isi_int false ?hv ?_); (case hv => exact (by decide +kernel)))
  | ((with_reducible refine' isi_non true ?hv ?_); (case hv => exact (by decide +kernel)))
  | ((with_reducible refine' isi_non false ?hv ?_); (case hv => exact (by decide +kernel)))
  | ((with_reducible refine' isi_str true ?hv ?_); (case hv => exact (by decide +kernel)))
  | ((with_reducible refine' isi_str false ?hv ?_); (case hv => exact (by decide +kernel)))
  | ((with_reducible refine' isi_bl true ?hv ?_); (case hv => exact (by decide +kernel)))
  | ((with_reducible refine' isi_bl false ?hv ?_); (case hv => exact (by decide +kernel)))
  | ((with_reducible refine' isi_t true ?hw ?hv ?_); (case hw => assumption); (case hv => exact (by decide +kernel)))
  | ((with_reducible refine' isi_t false ?hw ?hv ?_); (case hw => assumption); (case hv => exact (by decide +kernel)))
  | ((with_reducible refine' isi_l true ?hw ?hv ?_); (case hw => assumption); (case hv => exact (by decide +kernel)))
  | ((with_reducible refine' isi_l false ?hw ?hv ?_); (case hw => assumption); (case hv => exact (by decide +kernel)))
  | ((with_reducible refine' isi_tup true ?hw ?hv ?_); (case hw => assumption); (case hv => exact (by decide +kernel)))
  | ((with_reducible refine' isi_tup false ?hw ?hv ?_); (case hw => assumption); (case hv => exact (by decide +kernel)))
  | ((with_reducible refine' isi_lst true ?hw ?hv ?_); (case hw => assumption); (case hv => exact (by decide +kernel)))
  | ((with_reducible refine' isi_lst false ?hw ?hv ?_); (case hw => assumption); (case hv => exact (by decide +kernel)))))
local macro_rules | `(tactic| walk_at "om") => `(tactic| first | omega | (simp only [List.length_cons, List.length_nil, List.length_map, List.length_append, List.length_range]; omega))
local macro_rules | `(tactic| walk_at "d") => `(tactic| (first
  | ((with_reducible refine' i_dt ?hv ?_); (case hv => walk_at "om"))
  | ((with_reducible refine' i_df ?hv ?_); (case hv => walk_at "om"))
  | ((with_reducible refine' i_ndt ?hv ?_); (case hv => walk_at "om"))
  | ((with_reducible refine' i_ndf ?hv ?_); (case hv => walk_at "om"))))
local macro_rules | `(tactic| walk_at "x") => `(tactic| first
  | ((with_reducible refine' o_ixA ?hv ?hw ?_); (case hv => assumption); (case hw => exact rfl))
  | ((with_reducible refine' o_ixU ?hv ?hw ?_); (case hv => assumption); (case hw => exact rfl))
  | ((with_reducible refine' o_ixL ?hv ?hw ?_); (case hv => assumption); (case hw => exact rfl))
  | ((with_reducible refine' o_ixT ?hv ?hw ?_); (case hv => assumption); (case hw => exact rfl))
  | ((with_reducible refine' set_ ?hv ?hw ?_); (case hv => assumption); (case hw => exact rfl))
  | ((with_reducible refine' e_lenM ?hv ?_); (case hv => first | assumption | exact slO (by assumption)))
  | ((with_reducible refine' e_lenN ?hv ?_); (case hv => first | assumption | exact stO (by assumption)))
  | ((with_reducible refine' e_lenL ?hv ?_); (case hv => first | assumption | exact slO (by assumption)))
  | ((with_reducible refine' e_lenT ?hv ?_); (case hv => first | assumption | exact stO (by assumption))))
local macro_rules | `(tactic| walk_at "c") => `(tactic| first
  | ((with_reducible refine' c_listL ?hv ?_); (case hv => assumption))
  | ((with_reducible refine' c_listT ?hv ?_); (case hv => assumption))
  | ((with_reducible refine' c_tupL ?hv ?_); (case hv => first | assumption | exact slO (by assumption)))
  | ((with_reducible refine' c_tupT ?hv ?_); (case hv => assumption))
  | ((with_reducible refine' t_lst ?hv ?_); (case hv => first | assumption | exact slO (by assumption)))
  | ((with_reducible refine' t_tup ?hv ?_); (case hv => assumption))
  | ((with_reducible refine' r_sl ?hv ?_); (case hv => first | assumption | exact slO (by assumption)))
  | ((with_reducible refine' o_inL ?hv ?_); (case hv => first | assumption | exact slO (by assumption)))
  | ((with_reducible refine' o_inT ?hv ?_); (case hv => first | assumption | exact stO (by assumption)))
  | ((with_reducible refine' o_niL ?hv ?_); (case hv => first | assumption | exact slO (by assumption)))
  | ((with_reducible refine' o_niT ?hv ?_); (case hv => first | assumption | exact stO (by assumption)))
  | ((with_reducible refine' ty_lst ?hv ?_); (case hv => assumption)))
local macro_rules | `(tactic| walk_at "mo") => `(tactic| repeat' (first | exact m_yes | exact m_var | exact m_c | exact m_I0 | exact m_I | exact m_ix | exact m_add | exact m_in | exact m_int1 | exact m_abs | exact m_nil | refine' m_and ?_ ?_ | refine' m_test ?_ | refine' m_tB ?_ | refine' m_op ?_ ?_ ?_ | refine' m_cons ?_ ?_ | refine' m_cb ?_ ?_))
local macro_rules | `(tactic| walk_at "go") => `(tactic| repeat' (first | walk_at "s" | walk_at "v" | walk_at "a" | walk_at "x" | walk_at "m" | walk_at "c" | walk_at "i" | walk_at "d"))

section
variable {P : Program} {w : World} {K : PySem.W.Frag} {mg : Str → Option Value} {base : Heap}
/-! ### a disk and its book, amid all else -/
structure So (ss : List Int) (N n0 : Nat) (S : SD) : Prop where
  ln : S.lies.length = N
  sub : ∀ x, S.rows x ≠ [] → x ∈ ss
  len : ∀ x, (S.rows x).length ≤ n0
theorem So.bd {ss : List Int} {N n0 : Nat} {S : SD} (h : So ss N n0 S) (l : ss.length ≤ 24) (n : n0 ≤ 200) : Bd S := ⟨⟨ss, by omega, h.sub⟩, fun x => by have := h.len x; omega⟩
theorem So.mono {ss : List Int} {N n0 n1 : Nat} {S : SD} (h : So ss N n0 S) (n : n0 ≤ n1) : So ss N n1 S := ⟨h.ln, h.sub, fun x => Nat.le_trans (h.len x) n⟩
theorem So.wrote {ss : List Int} {N n0 : Nat} {S : SD} {b : Int} {c : Ct} (h : So ss N n0 S) (m : b ∈ ss) : So ss N (n0 + 1) (S.wrote b c) := by
  refine ⟨h.ln, fun x hx => ?_, fun x => ?_⟩
  · have hx : (if x = b then S.rows b ++ [c] else S.rows x) ≠ [] := hx
    split at hx
    · next z => rw [z]; exact m
    · exact h.sub x hx
  · show (if x = b then S.rows b ++ [c] else S.rows x).length ≤ _
    have h1 := h.len b
    have h2 := h.len x
    split
    · rw [List.length_append, List.length_singleton]; omega
    · omega
theorem So.got {ss : List Int} {N n0 : Nat} {S : SD} {b : Int} {c : Ct} {cs : List Ct} (h : So ss N n0 S) (e : S.rows b = c :: cs) : So ss N n0 (S.got b c cs) := by
  refine ⟨by show (S.lies.set _ _).length = _; rw [List.length_set]; exact h.ln, fun x hx => ?_, fun x => ?_⟩
  · have hx : (if x = b then cs else S.rows x) ≠ [] := hx
    split at hx
    · next z => rw [z]; exact h.sub b (by rw [e]; simp)
    · exact h.sub x hx
  · show (if x = b then cs else S.rows x).length ≤ _
    have h1 := h.len b
    rw [e, List.length_cons] at h1
    split
    · omega
    · exact h.len x
theorem So.force {ss : List Int} {N n0 : Nat} {S : SD} (h : So ss N n0 S) (ns : List Int) : So ss N n0 (SD.forceL ns S).1 := SD.forceL_ind (Pr := So ss N n0) (fun b T c cs t e _ => t.got e) ns S h
theorem So.pw {ss : List Int} {N n0 : Nat} {S : SD} (h : So ss N n0 S) (m : Option Int) : So ss N n0 (S.setPw m) := ⟨h.ln, h.sub, h.len⟩
structure Go (K : PySem.W.Frag) (TL : List (Addr × Str)) (C : Addr) (H0 : Hp) (F0 : List Addr) (H : Hp) (B : Bg) (p q : Addr) (F G : List Addr) (Sd Sb : SD) (sa : Addr) (ss : List Int) : Prop where
  tb : LamX.Tabs TL H
  bag : BagAt K H B
  ds : DS K C H p F Sd
  bs : BS K H q G Sb
  dj : ∀ x ∈ F, x ∉ G
  hs : H sa = some (.lst (ss.map V.int))
  bF : B.hd ∉ F ++ G
  gF : B.g ∉ F ++ G
  sF : sa ∉ F ++ G
  sB : sa ≠ B.hd
  ch : ChN (B.hd :: F0) H0 H
  ft : ∀ x ∈ F ++ G, x ∈ F0 ∨ Fr H0 x
section
variable {TL : List (Addr × Str)} {C p q sa : Addr} {H0 H H' : Hp} {F0 F G F' G' : List Addr} {B : Bg} {Sd Sb S' : SD} {ss : List Int} {Q : VK} {E : XK}
theorem bag_ls {B : Bg} {H : Hp} (b : BagAt K H B) : (∃ xs, H B.hd = some (.lst xs)) ∧ ∃ xs, H B.g = some (.lst xs) := by
  obtain ⟨i, big, x, c, h1, h2, h3⟩ := b
  exact ⟨⟨_, h1⟩, _, h2⟩
theorem Go.new_off (g : Go K TL C H0 F0 H B p q F G Sd Sb sa ss) {x : Addr} (e : H x = none) : x ≠ B.hd ∧ x ≠ B.g ∧ x ≠ sa := by
  obtain ⟨⟨_, h1⟩, _, h2⟩ := bag_ls g.bag
  exact ⟨ne_of_none' h1 e, ne_of_none' h2 e, ne_of_none' g.hs e⟩
theorem Go.fr0 (g : Go K TL C H0 F0 H B p q F G Sd Sb sa ss) {x : Addr} (e : H x = none) : x ∈ F0 ∨ Fr H0 x := by
  rcases g.ch.fr (Fr.of e) with y | y
  · rcases List.mem_cons.mp y with z | z
    · exact absurd z (g.new_off e).1
    · exact .inl z
  · exact .inr y
theorem Go.hsd (g : Go K TL C H0 F0 H B p q F G Sd Sb sa ss) (s : Hs K B H H') : Go K TL C H0 F0 H' B p q F G Sd Sb sa ss := by
  obtain ⟨ys, e0⟩ := bag_lst g.bag
  have c : Ch [B.hd] H H' := Ch.of_oth s.o (by simp) fun o e => by rw [e0] at e; cases e; rfl
  have off : ∀ x ∈ F ++ G, x ∉ [B.hd] := fun x hx z => g.bF (by rw [← List.mem_singleton.mp z]; exact hx)
  exact ⟨c.tabs g.tb, s.b, g.ds.ch c fun a m => off a (List.mem_append_left _ m), g.bs.ch c fun a m => off a (List.mem_append_right _ m), g.dj, s.ls g.sB g.hs, g.bF, g.gF, g.sF, g.sB, g.ch.trans c.n fun a m => .inl (by rw [List.mem_singleton.mp m]; simp), g.ft⟩
theorem Go.same (g : Go K TL C H0 F0 H B p q F G Sd Sb sa ss) (s : Same H H') : Go K TL C H0 F0 H' B p q F G Sd Sb sa ss := g.hsd (Hs.of g.bag s)
theorem Go.xn (g : Go K TL C H0 F0 H B p q F G Sd Sb sa ss) (e : LamX.ExtN H H') (t : LamX.Tabs TL H') : Go K TL C H0 F0 H' B p q F G Sd Sb sa ss := by
  have c : ChN [] H H' := ChN.of_x e
  exact ⟨t, bag_n g.bag c (by simp) (by simp), g.ds.n c (by simp), g.bs.n c (by simp), g.dj, c.at_ (by simp) g.hs rfl, g.bF, g.gF, g.sF, g.sB, g.ch.trans c (by simp), g.ft⟩
theorem Go.disk (g : Go K TL C H0 F0 H B p q F G Sd Sb sa ss) (d : DS K C H' p F' S') (c : Ch F H H') (f : ∀ x ∈ F', x ∈ F ∨ H x = none) : Go K TL C H0 F0 H' B p q F' G S' Sb sa ss := by
  have oF : ∀ {x}, x ∉ F ++ G → x ∉ F := fun h m => h (List.mem_append_left _ m)
  have oG : ∀ {x}, x ∉ F ++ G → x ∉ G := fun h m => h (List.mem_append_right _ m)
  have new : ∀ {x}, x ∉ F ++ G → H x ≠ none → x ∉ F' ++ G := fun {x} h n m => by
    rcases List.mem_append.mp m with y | y
    · rcases f x y with z | z
      · exact oF h z
      · exact n z
    · exact oG h y
  obtain ⟨⟨_, h1⟩, _, h2⟩ := bag_ls g.bag
  refine ⟨c.tabs g.tb, bag_n g.bag c.n (oF g.bF) (oF g.gF), d, g.bs.ch c fun a m z => g.dj a z m, fun x hx z => ?_, c.at_ (oF g.sF) g.hs, new g.bF (by rw [h1]; simp), new g.gF (by rw [h2]; simp), new g.sF (by rw [g.hs]; simp), g.sB, g.ch.trans c.n fun a m => ?_, fun x hx => ?_⟩
  · rcases f x hx with y | y
    · exact g.dj x y z
    · exact g.bs.there x z y
  · exact (g.ft a (List.mem_append_left _ m)).imp (List.mem_cons_of_mem _) id
  · rcases List.mem_append.mp hx with y | y
    · rcases f x y with z | z
      · exact g.ft x (List.mem_append_left _ z)
      · exact g.fr0 z
    · exact g.ft x (List.mem_append_right _ y)
theorem Go.book (g : Go K TL C H0 F0 H B p q F G Sd Sb sa ss) (d : BS K H' q G' S') (c : Ch G H H') (f : ∀ x ∈ G', x ∈ G ∨ H x = none) : Go K TL C H0 F0 H' B p q F G' Sd S' sa ss := by
  have oF : ∀ {x}, x ∉ F ++ G → x ∉ F := fun h m => h (List.mem_append_left _ m)
  have oG : ∀ {x}, x ∉ F ++ G → x ∉ G := fun h m => h (List.mem_append_right _ m)
  have new : ∀ {x}, x ∉ F ++ G → H x ≠ none → x ∉ F ++ G' := fun {x} h n m => by
    rcases List.mem_append.mp m with y | y
    · exact oF h y
    · rcases f x y with z | z
      · exact oG h z
      · exact n z
  obtain ⟨⟨_, h1⟩, _, h2⟩ := bag_ls g.bag
  refine ⟨c.tabs g.tb, bag_n g.bag c.n (oG g.bF) (oG g.gF), g.ds.ch c fun a m z => g.dj a m z, d, fun x hx z => ?_, c.at_ (oG g.sF) g.hs, new g.bF (by rw [h1]; simp), new g.gF (by rw [h2]; simp), new g.sF (by rw [g.hs]; simp), g.sB, g.ch.trans c.n fun a m => ?_, fun x hx => ?_⟩
  · rcases f x z with y | y
    · exact g.dj x hx y
    · exact g.ds.there x hx y
  · exact (g.ft a (List.mem_append_right _ m)).imp (List.mem_cons_of_mem _) id
  · rcases List.mem_append.mp hx with y | y
    · exact g.ft x (List.mem_append_left _ y)
    · rcases f x y with z | z
      · exact g.ft x (List.mem_append_right _ z)
      · exact g.fr0 z
theorem Go.ins (g : Go K TL C H0 F0 H B p q F G Sd Sb sa ss) : ∃ D, DiskAt C H p D ∧ F = D.foot p ∧ Sees K H D Sd := g.ds
end
/-! ### what is drawn stays what it is -/
theorem Tv.chn {Z Z' : Addr → Prop} {oth v : V} {H H' : Hp} {o : Option (List V)} {X : List Addr} (tv : Tv K Z oth H v o) (c : ChN X H H') (h1 : ∀ a ∈ X, Z a) (h2 : ∀ a, Z' a → Z a ∨ Fr H a) : Tv K Z' oth H' v o := by
  have nx : ∀ {a : Addr}, ¬ Z a → a ∉ X := fun n m => n (h1 _ m)
  have nz : ∀ {a : Addr} {x : HO}, ¬ Z a → H a = some x → muT x = false → ¬ Z' a := fun n e m z => by
    rcases h2 _ z with y | y
    · exact n y
    · exact y.not e m
  cases tv with
  | sm h => exact .sm h
  | oth => exact .oth
  | lst n h => exact .lst (nz n h rfl) (c.at_ (nx n) h rfl)
  | dct n h => exact .dct (nz n h rfl) (c.at_ (nx n) h rfl)
  | tup h l i =>
    refine .tup (c.st h) l fun x hx => ?_
    cases i x hx with
    | sm h => exact .sm h
    | oth => exact .oth
    | tup h => exact .tup (c.st h)
    | lst n h => exact .lst (nz n h rfl) (c.at_ (nx n) h rfl)
    | dct n h => exact .dct (nz n h rfl) (c.at_ (nx n) h rfl)
def ZF (B : Bg) (F G : List Addr) : Addr → Prop := fun a => a = B.hd ∨ a ∈ F ++ G
/-- what the type of a disk is asked for -/
structure DskTy (K : PySem.W.Frag) (C : Addr) : Prop where
  cl : Cls K C
  a : PySem.W.findIn K (.ref C) "__class__" = some (some (.builtin "object.__class__"))
  b : PySem.W.specialIn K (.builtin "object.__class__") "__get__" = some (some (.builtin "getset_descriptor.__get__"))
  c : PySem.W.takesIn K (.builtin "object.__class__") = some true
  d : PySem.W.mroIn K C (.type "object") = some true
  ki : PySem.W.kitOne K (.ref C) (.type "int") = some false
  kb : PySem.W.kitOne K (.ref C) (.type "bool") = some false
  ks : PySem.W.kitOne K (.ref C) (.type "str") = some false
  kt : PySem.W.kitOne K (.ref C) (.type "tuple") = some false
theorem DskTy.kd {C p : Addr} {H : Hp} {fs : List (Str × V)} (t : DskTy K C) (h : InsAt C H p fs) : Kd K H (.ref p) false := by
  obtain ⟨dx, h⟩ := h
  exact ⟨p, .ref C, rfl, .base (.ins h t.cl t.a t.b t.c t.d), t.ki, t.kb, t.ks, t.kt⟩
/-! ### the word of a call -/
def WE (Cs : List Addr) (Q : VK) : XK := fun cls d H' => d = none ∧ ∃ (j : Nat) (C : Addr) (wd : V), Cs[j]? = some C ∧ cls = .ref C ∧ wWords[j]? = some wd ∧ ∀ H'', Same H' H'' → Q wd H''
theorem e_lamW {TL : List (Addr × Str)} {Cs : List Addr} {t : XK → TE} {σ : L2.St} {H : Hp} {Q : VK} (tb : LamX.Tabs TL H) (h : ∀ H1, LamX.ExtN H H1 → LamX.Tabs TL H1 → t (WE Cs Q) σ H1 fun _ H' => Q (.str "let") H') : LamX.tLam TL (TWord Cs) t σ H Q := ⟨tb, h⟩
theorem w_err {Cs : List Addr} {Q : VK} {H : Hp} {C : Addr} {wd : V} (j : Nat) (h1 : Cs[j]? = some C) (h2 : wWords[j]? = some wd) (q : ∀ H'', Same H H'' → Q wd H'') : WE Cs Q (.ref C) none H := ⟨rfl, j, C, wd, h1, rfl, h2, q⟩
theorem w_init {C Cb p : Addr} {H : Hp} {Q : VK} {E : XK} {n : Nat} (h : InsAt C H p []) (h0 : 16 ≤ n) (h1 : n ≤ 600) (q : ∀ F H', DS K C H' p F (SD.new n) → But [p] H H' → (∀ a ∈ F, a = p ∨ H a = none) → Q .non H') : sp_disk_init K C Cb [.ref p, .int n] H Q E := by
  refine .inl ⟨p, n, rfl, h, by omega, by omega, fun H' D hD hf hl hc hr hp hrc but => q _ H' ⟨D, hD, rfl, ⟨SD.new_ok h1, ⟨?_, fun i c xs e1 e2 => ?_⟩, fun b => ?_, hp, hrc⟩⟩ but hf⟩
  · show D.lies.length = (List.replicate n _).length
    rw [List.length_replicate, hl]; omega
  · have e2 : (List.replicate n ([] : Ct))[i]? = some xs := e2
    rw [List.eq_of_mem_replicate (List.mem_of_getElem? e2)]
    exact hc c (List.mem_of_getElem? e1)
  · rw [hr]; rfl
def msN (n : Nat) : List Int := (List.range n).map Int.ofNat
theorem rgV_N {n : Nat} : rgV 0 (n : Int) = (msN n).map V.int := by
  unfold rgV msN
  rw [List.map_map]
  refine List.map_congr_left fun i _ => ?_
  show V.int (0 + (i : Int)) = V.int (i : Int)
  rw [Int.zero_add]
theorem msN_in {n : Nat} : ∀ m ∈ msN n, 0 ≤ m ∧ m < n := fun m h => by
  obtain ⟨i, hi, rfl⟩ := List.mem_map.mp h
  have := List.mem_range.mp hi
  show 0 ≤ (i : Int) ∧ (i : Int) < n
  omega
theorem msN_mem {n : Nat} {m : Int} (h0 : 0 ≤ m) (h1 : m < n) : m ∈ msN n := List.mem_map.mpr ⟨m.toNat, List.mem_range.mpr (by omega), by show ((m.toNat : Nat) : Int) = m; omega⟩
theorem msN_len {n : Nat} : (msN n).length = n := by unfold msN; rw [List.length_map, List.length_range]
theorem e_rgN {i : Nat} {σ : L2.St} {H : Hp} {Q : VK} {n : Nat} (hv : σ[i]? = some (some (.int (n : Int)))) (hn : n ≤ 600) (q : ∀ l H2, H l = none → Same H H2 → H2 l = some (.lst ((msN n).map V.int)) → Q (.ref l) H2) : tLstRg (tRg1 (tVar i)) σ H Q :=
  ⟨_, hv, n, rfl, by unfold RgOk; omega, fun l nl => by rw [rgV_N]; exact q l _ nl (Same.new nl) upd_same⟩
end
end Vw

set_option Elab.async false
set_option linter.all false
set_option maxRecDepth 100000
set_option maxHeartbeats 4000000
namespace Vw
open PySem PySem.Spec PyProof.Rows L2 RT
local macro_rules | `(tactic| walk_at "s") => `(tactic| with_reducible first
  | refine' s_seq ?_ | refine' s_next ?_ | refine' s_set ?_ | refine' s_ret ?_ | refine' s_retN ?_ | refine' s_drop ?_ | refine' s_if ?_ | refine' s_ipI ?_
  | refine' e_c ?_ | refine' e_op ?_ | refine' e_un ?_ | refine' e_neg ?_ | refine' e_test ?_ | refine' e_tB ?_ | refine' e_bl ?_ | refine' e_and ?_ | refine' e_or ?_ | refine' e_not ?_
  | refine' e_andV ?_ | refine' e_orV ?_ | refine' e_notV ?_ | refine' e_kV ?_ | refine' e_ife ?_ | refine' e_nil ?_ | refine' e_cons ?_ | refine' e_cb ?_ | refine' e_call ?_ | refine' e_chain ?_
  | refine' o_addI ?_ | refine' o_eqI ?_ | refine' o_neI ?_ | refine' o_I0 ?_ | refine' o_pow16 ?_ | refine' o_pow17 ?_ | refine' o_pow18 ?_ | refine' o_pow19 ?_ | refine' o_pow30 ?_ | refine' o_pow31 ?_ | refine' o_pow1 ?_ | refine' o_pow2 ?_ | refine' o_pow3 ?_ | refine' o_pow4 ?_ | refine' o_pow5 ?_ | refine' o_pow6 ?_ | refine' o_pow9 ?_ | refine' o_pow10 ?_ | refine' o_pow12 ?_ | refine' o_pow15 ?_ | refine' o_pow20 ?_ | refine' e_lst ?_ | refine' e_tup ?_ | refine' iteT ?_ | refine' i_nt ?_ | refine' i_nf ?_ | refine' iteF ?_ | refine' c_int ?_ | refine' c_abs ?_ | refine' c_min2 ?_ | refine' c_max2 ?_ | refine' e_tru ?_ | refine' t_bl ?_ | refine' t_non ?_ | refine' t_int ?_ | refine' isN_non ?_ | refine' isN_int ?_ | refine' isN_ref ?_ | refine' isN_str ?_ | refine' isN_bl ?_ | refine' noN_non ?_ | refine' noN_int ?_ | refine' noN_ref ?_ | refine' noN_str ?_ | refine' noN_bl ?_
  | refine' s_brk ?_ | refine' s_cont ?_ | refine' s_for ?_ | refine' e_lc ?_ | refine' e_dc ?_ | refine' e_yes ?_ | refine' i_rng1 ?_ | refine' i_lst0 ?_ | refine' i_tup0 ?_ | refine' e_bm ?_ | refine' e_sl ?_ | refine' e_np ?_ | refine' e_pt ?_ | refine' e_ptI ?_ | refine' e_din ?_ | refine' e_dnin ?_ | refine' e_methE ?_ | refine' p_cons ?_ | refine' p_nil ?_ | refine' s_dput ?_ | refine' e_dget2 ?_ | refine' e_dpop1 ?_ | refine' i_enum0 ?_ | refine' i_rev0 ?_ | refine' g_sub ?_ | refine' s_asg ?_ | refine' i_zip0 ?_ | refine' e_revT ?_ | refine' isB_bl ?_ | refine' notB_bl ?_ | refine' o_neB ?_ | refine' i_nrr ?_ | refine' e_meth ?_ | refine' s_setf ?_ | refine' e_fld ?_ | refine' e_bm0 ?_ | refine' r_tx ?_ | refine' o_eqStr ?_ | refine' o_neStr ?_)
local macro_rules | `(tactic| walk_at "v") => `(tactic| ((with_reducible refine' e_var ?hv ?_); (case hv => exact rfl)))
local macro_rules | `(tactic| walk_at "a") => `(tactic| ((with_reducible refine' s_aug ?hv ?_); (case hv => exact rfl)))
local macro_rules | `(tactic| walk_at "m") => `(tactic| first
  | ((with_reducible refine' o_mod ?hv ?_); (case hv => first | decide | omega))
  | ((with_reducible refine' o_mulR ?hv ?_); (case hv => omega))
  | ((with_reducible refine' o_mulL ?hv ?_); (case hv => omega))
  | ((with_reducible refine' o_div ?hv ?hw ?_); (case hv => omega); (case hw => omega))
  | ((with_reducible refine' o_pow _ ?hv ?hw ?hx ?_); (case hv => exact rfl); (case hw => decide); (case hx => decide)))
local macro_rules | `(tactic| walk_at "i") => `(tactic| (first
  | ((with_reducible refine' isi_int true ?hv ?_); (case hv => exact (by decide +kernel)))
  | ((with_reducible refine' isi_int false ?hv ?_); (case hv => exact (by decide +kernel)))
  | ((with_reducible refine' isi_non true ?hv ?_); (case hv => exact (by decide +kernel)))
  | ((with_reducible refine' isi_non false ?hv ?_); (case hv => exact (by decide +kernel)))
  | ((with_reducible refine' isi_str true ?hv ?_); (case hv => exact (by decide +kernel)))
  | ((with_reducible refine' isi_str false ?hv ?_); (case hv => exact (by decide +kernel)))
  | ((with_reducible refine' isi_bl true ?hv ?_); (case hv => exact (by decide +kernel)))
  | ((with_reducible refine' isi_bl false ?hv ?_); (case hv => exact (by decide +kernel)))
  | ((with_reducible refine' isi_t true ?hw ?hv ?_); (case hw => assumption); (case hv => exact (by decide +kernel)))
  | ((with_reducible refine' isi_t false ?hw ?hv ?_); (case hw => assumption); (case hv => exact (by decide +kernel)))
  | ((with_reducible refine' isi_l true ?hw ?hv ?_); (case hw => assumption); (case hv => exact (by decide +kernel)))
  | ((with_reducible refine' isi_l false ?hw ?hv ?_); (case hw => assumption); (case hv => exact (by decide +kernel)))
  | ((with_reducible refine' isi_tup true ?hw ?hv ?_); (case hw => assumption); (case hv => exact (by decide +kernel)))
  | ((with_reducible refine' isi_tup false ?hw ?hv ?_); (case hw => assumption); (case hv => exact (by decide +kernel)))
  | ((with_reducible refine' isi_lst true ?hw ?hv ?_); (case hw => assumption); (case hv => exact (by decide +kernel)))
  | ((with_reducible refine' isi_lst false ?hw ?hv ?_); (case hw => assumption); (case hv => exact (by decide +kernel)))))
local macro_rules | `(tactic| walk_at "om") => `(tactic| first | omega | (simp only [List.length_cons, List.length_nil, List.length_map, List.length_append, List.length_range]; omega))
local macro_rules | `(tactic| walk_at "d") => `(tactic| (first
  | ((with_reducible refine' i_dt ?hv ?_); (case hv => walk_at "om"))
  | ((with_reducible refine' i_df ?hv ?_); (case hv => walk_at "om"))
  | ((with_reducible refine' i_ndt ?hv ?_); (case hv => walk_at "om"))
  | ((with_reducible refine' i_ndf ?hv ?_); (case hv => walk_at "om"))))
local macro_rules | `(tactic| walk_at "x") => `(tactic| first
  | ((with_reducible refine' o_ixA ?hv ?hw ?_); (case hv => assumption); (case hw => exact rfl))
  | ((with_reducible refine' o_ixU ?hv ?hw ?_); (case hv => assumption); (case hw => exact rfl))
  | ((with_reducible refine' o_ixL ?hv ?hw ?_); (case hv => assumption); (case hw => exact rfl))
  | ((with_reducible refine' o_ixT ?hv ?hw ?_); (case hv => assumption); (case hw => exact rfl))
  | ((with_reducible refine' set_ ?hv ?hw ?_); (case hv => assumption); (case hw => exact rfl))
  | ((with_reducible refine' e_lenM ?hv ?_); (case hv => first | assumption | exact slO (by assumption)))
  | ((with_reducible refine' e_lenN ?hv ?_); (case hv => first | assumption | exact stO (by assumption)))
  | ((with_reducible refine' e_lenL ?hv ?_); (case hv => first | assumption | exact slO (by assumption)))
  | ((with_reducible refine' e_lenT ?hv ?_); (case hv => first | assumption | exact stO (by assumption))))
local macro_rules | `(tactic| walk_at "c") => `(tactic| first
  | ((with_reducible refine' c_listL ?hv ?_); (case hv => assumption))
  | ((with_reducible refine' c_listT ?hv ?_); (case hv => assumption))
  | ((with_reducible refine' c_tupL ?hv ?_); (case hv => first | assumption | exact slO (by assumption)))
  | ((with_reducible refine' c_tupT ?hv ?_); (case hv => assumption))
  | ((with_reducible refine' t_lst ?hv ?_); (case hv => first | assumption | exact slO (by assumption)))
  | ((with_reducible refine' t_tup ?hv ?_); (case hv => assumption))
  | ((with_reducible refine' r_sl ?hv ?_); (case hv => first | assumption | exact slO (by assumption)))
  | ((with_reducible refine' o_inL ?hv ?_); (case hv => first | assumption | exact slO (by assumption)))
  | ((with_reducible refine' o_inT ?hv ?_); (case hv => first | assumption | exact stO (by assumption)))
  | ((with_reducible refine' o_niL ?hv ?_); (case hv => first | assumption | exact slO (by assumption)))
  | ((with_reducible refine' o_niT ?hv ?_); (case hv => first | assumption | exact stO (by assumption)))
  | ((with_reducible refine' ty_lst ?hv ?_); (case hv => assumption)))
local macro_rules | `(tactic| walk_at "mo") => `(tactic| repeat' (first | exact m_yes | exact m_var | exact m_c | exact m_I0 | exact m_I | exact m_ix | exact m_add | exact m_in | exact m_int1 | exact m_abs | exact m_nil | refine' m_and ?_ ?_ | refine' m_test ?_ | refine' m_tB ?_ | refine' m_op ?_ ?_ ?_ | refine' m_cons ?_ ?_ | refine' m_cb ?_ ?_))
local macro_rules | `(tactic| walk_at "go") => `(tactic| repeat' (first | walk_at "s" | walk_at "v" | walk_at "a" | walk_at "x" | walk_at "m" | walk_at "c" | walk_at "i" | walk_at "d"))

section
variable {P : Program} {w : World} {K : PySem.W.Frag} {mg : Str → Option Value} {base : Heap}
/-! ### the law's state: a disk, its book, what is drawn -/
structure Lw (K : PySem.W.Frag) (TL : List (Addr × Str)) (C : Addr) (H : Hp) (B : Bg) (p q : Addr) (F G : List Addr) (Sd Sb : SD) (N n0 : Nat) : Prop where
  g : Go K TL C H (F ++ G) H B p q F G Sd Sb B.g B.ns
  sd : So (msN N) N n0 Sd
  sb : So (msN N) N n0 Sb
  pw : Sb.pw = none
  N0 : 16 ≤ N
  N1 : N ≤ 24
/-- drawn things stay -/
def Stp (K : PySem.W.Frag) (B : Bg) (H H' : Hp) (F G F' G' : List Addr) : Prop := ∀ {oth v : V} {o : Option (List V)}, Tv K (ZF B F G) oth H v o → Tv K (ZF B F' G') oth H' v o
section
variable {TL : List (Addr × Str)} {C p q : Addr} {H H' : Hp} {F G F' G' : List Addr} {B : Bg} {Sd Sb S' : SD} {N n0 n1 : Nat}
theorem Go.reb {H0 : Hp} {F0 : List Addr} {sa : Addr} {ss : List Int} (g : Go K TL C H0 F0 H B p q F G Sd Sb sa ss) : Go K TL C H (F ++ G) H B p q F G Sd Sb sa ss := ⟨g.tb, g.bag, g.ds, g.bs, g.dj, g.hs, g.bF, g.gF, g.sF, g.sB, ChN.refl, fun x hx => .inl hx⟩
theorem Lw.mono (l : Lw K TL C H B p q F G Sd Sb N n0) (h : n0 ≤ n1) : Lw K TL C H B p q F G Sd Sb N n1 := ⟨l.g, l.sd.mono h, l.sb.mono h, l.pw, l.N0, l.N1⟩
theorem Lw.hsd (l : Lw K TL C H B p q F G Sd Sb N n0) (s : Hs K B H H') : Lw K TL C H' B p q F G Sd Sb N n0 ∧ Stp K B H H' F G F G := by
  obtain ⟨ys, e0⟩ := bag_lst l.g.bag
  have c : Ch [B.hd] H H' := Ch.of_oth s.o (by simp) fun o e => by rw [e0] at e; cases e; rfl
  exact ⟨⟨(l.g.hsd s).reb, l.sd, l.sb, l.pw, l.N0, l.N1⟩, fun tv => tv.chn c.n (fun a m => .inl (List.mem_singleton.mp m)) fun a z => .inl z⟩
theorem Lw.same (l : Lw K TL C H B p q F G Sd Sb N n0) (s : Same H H') : Lw K TL C H' B p q F G Sd Sb N n0 ∧ Stp K B H H' F G F G := l.hsd (Hs.of l.g.bag s)
theorem Lw.xn (l : Lw K TL C H B p q F G Sd Sb N n0) (e : LamX.ExtN H H') (t : LamX.Tabs TL H') : Lw K TL C H' B p q F G Sd Sb N n0 ∧ Stp K B H H' F G F G :=
  ⟨⟨(l.g.xn e t).reb, l.sd, l.sb, l.pw, l.N0, l.N1⟩, fun tv => tv.chn (X := []) (ChN.of_x e) (by simp) fun a z => .inl z⟩
theorem Lw.disk (l : Lw K TL C H B p q F G Sd Sb N n0) (d : DS K C H' p F' S') (c : Ch F H H') (f : ∀ x ∈ F', x ∈ F ∨ H x = none) (so : So (msN N) N n1 S') (h : n0 ≤ n1) : Lw K TL C H' B p q F' G S' Sb N n1 ∧ Stp K B H H' F G F' G :=
  ⟨⟨(l.g.disk d c f).reb, so, l.sb.mono h, l.pw, l.N0, l.N1⟩, fun tv => tv.chn c.n (fun a m => .inr (List.mem_append_left _ m)) fun a z => by
    rcases z with z | z
    · exact .inl (.inl z)
    · rcases List.mem_append.mp z with y | y
      · exact (f a y).imp (fun m => .inr (List.mem_append_left _ m)) Fr.of
      · exact .inl (.inr (List.mem_append_right _ y))⟩
theorem Lw.book (l : Lw K TL C H B p q F G Sd Sb N n0) (d : BS K H' q G' S') (c : Ch G H H') (f : ∀ x ∈ G', x ∈ G ∨ H x = none) (so : So (msN N) N n1 S') (h : n0 ≤ n1) (pw : S'.pw = none) : Lw K TL C H' B p q F G' Sd S' N n1 ∧ Stp K B H H' F G F G' :=
  ⟨⟨(l.g.book d c f).reb, l.sd.mono h, so, pw, l.N0, l.N1⟩, fun tv => tv.chn c.n (fun a m => .inr (List.mem_append_right _ m)) fun a z => by
    rcases z with z | z
    · exact .inl (.inl z)
    · rcases List.mem_append.mp z with y | y
      · exact .inl (.inr (List.mem_append_left _ y))
      · exact (f a y).imp (fun m => .inr (List.mem_append_right _ m)) Fr.of⟩
theorem Lw.dsk (l : Lw K TL C H B p q F G Sd Sb N n0) : ∃ D, DiskAt C H p D ∧ F = D.foot p ∧ Sees K H D Sd ∧ D.lies.length = N := by
  obtain ⟨D, hD, e, v⟩ := l.g.ds
  exact ⟨D, hD, e, v, v.lv.1.trans l.sd.ln⟩
theorem Lw.bd (l : Lw K TL C H B p q F G Sd Sb N n0) (h : n0 ≤ 200) : Bd Sb := l.sb.bd (by rw [msN_len]; exact l.N1) h
theorem Lw.bdd (l : Lw K TL C H B p q F G Sd Sb N n0) (h : n0 ≤ 200) : Bd Sd := l.sd.bd (by rw [msN_len]; exact l.N1) h
theorem Lw.live (l : Lw K TL C H B p q F G Sd Sb N n0) : Live (ZF B F G) H := fun a z e => by
  rcases z with z | z
  · obtain ⟨ys, e0⟩ := bag_lst l.g.bag
    rw [← z, e] at e0; cases e0
  · exact (List.mem_append.mp z).elim (fun m => l.g.ds.there a m e) fun m => l.g.bs.there a m e
theorem Lw.kd (l : Lw K TL C H B p q F G Sd Sb N n0) (dt : DskTy K C) : smallV (.ref p) = true ∨ Kd K H (.ref p) false := by
  obtain ⟨D, hD, _⟩ := l.dsk
  exact .inr (dt.kd hD.ob)
theorem Lw.th {v : V} {o : Option (List V)} (l : Lw K TL C H B p q F G Sd Sb N n0) (dt : DskTy K C) (tv : Tv K (ZF B F G) (.ref p) H v o) : Th K H v o := tv.th (l.kd dt)
end
theorem item_small {x : V} (h : itemB x = true) : smallV x = true := by
  cases x with
  | str z =>
    unfold itemB at h
    have h : (wordB z || false) = true := h
    rw [Bool.or_false] at h
    unfold wordB at h
    rw [Bool.and_eq_true] at h
    have := of_decide_eq_true h.1
    exact decide_eq_true (by omega)
  | int i => rfl
  | non => rfl
  | bl b => rfl
  | _ => cases h
theorem items_ok {xs : List V} (l : xs.length ≤ 1000) (h : itemsB xs 0 40 = true) : CtOk xs := by
  refine ⟨l, fun x hx => ?_, h⟩
  unfold itemsB at h
  rw [Bool.and_eq_true, Bool.and_eq_true] at h
  exact item_small (List.all_eq_true.mp h.2.2 x hx)
theorem Tv.tupD {Z : Addr → Prop} {oth v : V} {H : Hp} {xs : List V} (h : Tv K Z oth H v (some xs)) : ∃ a, v = .ref a ∧ SqT K H a xs ∧ xs.length ≤ 1000 := by
  cases h with
  | tup h l i => exact ⟨_, rfl, h, l⟩
theorem forceB_none : ∀ (n : Nat) {S : SD} {b : Int}, S.pw = none → (SD.fB b n S).2 = true ∧ (SD.fB b n S).1.pw = none
  | 0, S, b, h => ⟨rfl, h⟩
  | n + 1, S, b, h => by
    unfold SD.fB
    split
    · exact ⟨rfl, h⟩
    · next c cs e =>
      rw [if_neg (by rw [h]; simp)]
      exact forceB_none n (by show S.pw.map _ = none; rw [h]; rfl)
theorem forceL_none : ∀ (ns : List Int) {S : SD}, S.pw = none → (SD.forceL ns S).2 = true ∧ (SD.forceL ns S).1.pw = none
  | [], S, h => ⟨rfl, h⟩
  | b :: bs, S, h => by
    have h1 := forceB_none (S.rows b).length (S := S) (b := b) h
    unfold SD.forceL
    have e : (S.forceB b).2 = true := h1.1
    rw [if_pos e]
    exact forceL_none bs h1.2
theorem lot_nums {N : Nat} {xs : List V} (h : lotN N (some xs) = true) : xs = (xs.map vInt).map V.int ∧ lotB (xs.map vInt) = true ∧ ∀ n ∈ xs.map vInt, n < (N : Int) := by
  have h : (xs.all (fun x => within x 0 ((N : Int) - 1)) && ascB (xs.map vInt)) = true := h
  rw [Bool.and_eq_true] at h
  have a := List.all_eq_true.mp h.1
  refine ⟨all_nums (within_nums h.1), ?_, fun n hn => ?_⟩
  · unfold lotB
    rw [h.2, Bool.and_true, List.all_eq_true]
    intro n hn
    obtain ⟨x, hx, rfl⟩ := List.mem_map.mp hn
    obtain ⟨b, rfl, b0, b1⟩ := within_int (a x hx)
    exact decide_eq_true b0
  · obtain ⟨x, hx, rfl⟩ := List.mem_map.mp hn
    obtain ⟨b, rfl, b0, b1⟩ := within_int (a x hx)
    show b < _
    omega
/-- a write waits for the block -/
def nothB (S : SD) (N : Nat) (v : V) : Bool := match v with
  | .int b => within v 0 ((N : Int) - 1) && !(S.rows b).isEmpty
  | _ => false
def pwOk (v : V) : Bool := match v with
  | .non => true
  | v => within v 0 1000000
end
end Vw

set_option Elab.async false
set_option linter.all false
set_option maxRecDepth 100000
set_option maxHeartbeats 4000000
namespace Vw
open PySem PySem.Spec PyProof.Rows L2 RT
local macro_rules | `(tactic| walk_at "s") => `(tactic| with_reducible first
  | refine' s_seq ?_ | refine' s_next ?_ | refine' s_set ?_ | refine' s_ret ?_ | refine' s_retN ?_ | refine' s_drop ?_ | refine' s_if ?_ | refine' s_ipI ?_
  | refine' e_c ?_ | refine' e_op ?_ | refine' e_un ?_ | refine' e_neg ?_ | refine' e_test ?_ | refine' e_tB ?_ | refine' e_bl ?_ | refine' e_and ?_ | refine' e_or ?_ | refine' e_not ?_
  | refine' e_andV ?_ | refine' e_orV ?_ | refine' e_notV ?_ | refine' e_kV ?_ | refine' e_ife ?_ | refine' e_nil ?_ | refine' e_cons ?_ | refine' e_cb ?_ | refine' e_call ?_ | refine' e_chain ?_
  | refine' o_addI ?_ | refine' o_eqI ?_ | refine' o_neI ?_ | refine' o_I0 ?_ | refine' o_pow16 ?_ | refine' o_pow17 ?_ | refine' o_pow18 ?_ | refine' o_pow19 ?_ | refine' o_pow30 ?_ | refine' o_pow31 ?_ | refine' o_pow1 ?_ | refine' o_pow2 ?_ | refine' o_pow3 ?_ | refine' o_pow4 ?_ | refine' o_pow5 ?_ | refine' o_pow6 ?_ | refine' o_pow9 ?_ | refine' o_pow10 ?_ | refine' o_pow12 ?_ | refine' o_pow15 ?_ | refine' o_pow20 ?_ | refine' e_lst ?_ | refine' e_tup ?_ | refine' iteT ?_ | refine' i_nt ?_ | refine' i_nf ?_ | refine' iteF ?_ | refine' c_int ?_ | refine' c_abs ?_ | refine' c_min2 ?_ | refine' c_max2 ?_ | refine' e_tru ?_ | refine' t_bl ?_ | refine' t_non ?_ | refine' t_int ?_ | refine' isN_non ?_ | refine' isN_int ?_ | refine' isN_ref ?_ | refine' isN_str ?_ | refine' isN_bl ?_ | refine' noN_non ?_ | refine' noN_int ?_ | refine' noN_ref ?_ | refine' noN_str ?_ | refine' noN_bl ?_
  | refine' s_brk ?_ | refine' s_cont ?_ | refine' s_for ?_ | refine' e_lc ?_ | refine' e_dc ?_ | refine' e_yes ?_ | refine' i_rng1 ?_ | refine' i_lst0 ?_ | refine' i_tup0 ?_ | refine' e_bm ?_ | refine' e_sl ?_ | refine' e_np ?_ | refine' e_pt ?_ | refine' e_ptI ?_ | refine' e_din ?_ | refine' e_dnin ?_ | refine' e_methE ?_ | refine' p_cons ?_ | refine' p_nil ?_ | refine' s_dput ?_ | refine' e_dget2 ?_ | refine' e_dpop1 ?_ | refine' i_enum0 ?_ | refine' i_rev0 ?_ | refine' g_sub ?_ | refine' s_asg ?_ | refine' i_zip0 ?_ | refine' e_revT ?_ | refine' isB_bl ?_ | refine' notB_bl ?_ | refine' o_neB ?_ | refine' i_nrr ?_ | refine' e_meth ?_ | refine' s_setf ?_ | refine' e_fld ?_ | refine' e_bm0 ?_ | refine' r_tx ?_ | refine' o_eqStr ?_ | refine' o_neStr ?_)
local macro_rules | `(tactic| walk_at "v") => `(tactic| ((with_reducible refine' e_var ?hv ?_); (case hv => exact rfl)))
local macro_rules | `(tactic| walk_at "a") => `(tactic| ((with_reducible refine' s_aug ?hv ?_); (case hv => exact rfl)))
local macro_rules | `(tactic| walk_at "m") => `(tactic| first
  | ((with_reducible refine' o_mod ?hv ?_); (case hv => first | decide | omega))
  | ((with_reducible refine' o_mulR ?hv ?_); (case hv => omega))
  | ((with_reducible refine' o_mulL ?hv ?_); (case hv => omega))
  | ((with_reducible refine' o_div ?hv ?hw ?_); (case hv => omega); (case hw => omega))
  | ((with_reducible refine' o_pow _ ?hv ?hw ?hx ?_); (case hv => exact rfl); (case hw => decide); (case hx => decide)))
local macro_rules | `(tactic| walk_at "i") => `(tactic| (first
  | ((with_reducible refine' isi_int true ?hv ?_); (case hv => exact (by decide +kernel)))
  | ((with_reducible refine' isi_int false ?hv ?_); (case hv => exact (by decide +kernel)))
  | ((with_reducible refine' isi_non true ?hv ?_); (case hv => exact (by decide +kernel)))
  | ((with_reducible refine' isi_non false ?hv ?_); (case hv => exact (by decide +kernel)))
  | ((with_reducible refine' isi_str true ?hv ?_); (case hv => exact (by decide +kernel)))
  | ((with_reducible refine' isi_str false ?hv ?_); (case hv => exact (by decide +kernel)))
  | ((with_reducible refine' isi_bl true ?hv ?_); (case hv => exact (by decide +kernel)))
  | ((with_reducible refine' isi_bl false ?hv ?_); (case hv => exact (by decide +kernel)))
  | ((with_reducible refine' isi_t true ?hw ?hv ?_); (case hw => assumption); (case hv => exact (by decide +kernel)))
  | ((with_reducible refine' isi_t false ?hw ?hv ?_); (case hw => assumption); (case hv => exact (by decide +kernel)))
  | ((with_reducible refine' isi_l true ?hw ?hv ?_); (case hw => assumption); (case hv => exact (by decide +kernel)))
  | ((with_reducible refine' isi_l false ?hw ?hv ?_); (case hw => assumption); (case hv => exact (by decide +kernel)))
  | ((with_reducible refine' isi_tup true ?hw ?hv ?_); (case hw => assumption); (case hv => exact (by decide +kernel)))
  | ((with_reducible refine' isi_tup false ?hw ?hv ?_); (case hw => assumption); (case hv => exact (by decide +kernel)))
  | ((with_reducible refine' isi_lst true ?hw ?hv ?_); (case hw => assumption); (case hv => exact (by decide +kernel)))
  | ((with_reducible refine' isi_lst false ?hw ?hv ?_); (case hw => assumption); (case hv => exact (by decide +kernel)))))
local macro_rules | `(tactic| walk_at "om") => `(tactic| first | omega | (simp only [List.length_cons, List.length_nil, List.length_map, List.length_append, List.length_range]; omega))
local macro_rules | `(tactic| walk_at "d") => `(tactic| (first
  | ((with_reducible refine' i_dt ?hv ?_); (case hv => walk_at "om"))
  | ((with_reducible refine' i_df ?hv ?_); (case hv => walk_at "om"))
  | ((with_reducible refine' i_ndt ?hv ?_); (case hv => walk_at "om"))
  | ((with_reducible refine' i_ndf ?hv ?_); (case hv => walk_at "om"))))
local macro_rules | `(tactic| walk_at "x") => `(tactic| first
  | ((with_reducible refine' o_ixA ?hv ?hw ?_); (case hv => assumption); (case hw => exact rfl))
  | ((with_reducible refine' o_ixU ?hv ?hw ?_); (case hv => assumption); (case hw => exact rfl))
  | ((with_reducible refine' o_ixL ?hv ?hw ?_); (case hv => assumption); (case hw => exact rfl))
  | ((with_reducible refine' o_ixT ?hv ?hw ?_); (case hv => assumption); (case hw => exact rfl))
  | ((with_reducible refine' set_ ?hv ?hw ?_); (case hv => assumption); (case hw => exact rfl))
  | ((with_reducible refine' e_lenM ?hv ?_); (case hv => first | assumption | exact slO (by assumption)))
  | ((with_reducible refine' e_lenN ?hv ?_); (case hv => first | assumption | exact stO (by assumption)))
  | ((with_reducible refine' e_lenL ?hv ?_); (case hv => first | assumption | exact slO (by assumption)))
  | ((with_reducible refine' e_lenT ?hv ?_); (case hv => first | assumption | exact stO (by assumption))))
local macro_rules | `(tactic| walk_at "c") => `(tactic| first
  | ((with_reducible refine' c_listL ?hv ?_); (case hv => assumption))
  | ((with_reducible refine' c_listT ?hv ?_); (case hv => assumption))
  | ((with_reducible refine' c_tupL ?hv ?_); (case hv => first | assumption | exact slO (by assumption)))
  | ((with_reducible refine' c_tupT ?hv ?_); (case hv => assumption))
  | ((with_reducible refine' t_lst ?hv ?_); (case hv => first | assumption | exact slO (by assumption)))
  | ((with_reducible refine' t_tup ?hv ?_); (case hv => assumption))
  | ((with_reducible refine' r_sl ?hv ?_); (case hv => first | assumption | exact slO (by assumption)))
  | ((with_reducible refine' o_inL ?hv ?_); (case hv => first | assumption | exact slO (by assumption)))
  | ((with_reducible refine' o_inT ?hv ?_); (case hv => first | assumption | exact stO (by assumption)))
  | ((with_reducible refine' o_niL ?hv ?_); (case hv => first | assumption | exact slO (by assumption)))
  | ((with_reducible refine' o_niT ?hv ?_); (case hv => first | assumption | exact stO (by assumption)))
  | ((with_reducible refine' ty_lst ?hv ?_); (case hv => assumption)))
local macro_rules | `(tactic| walk_at "mo") => `(tactic| repeat' (first | exact m_yes | exact m_var | exact m_c | exact m_I0 | exact m_I | exact m_ix | exact m_add | exact m_in | exact m_int1 | exact m_abs | exact m_nil | refine' m_and ?_ ?_ | refine' m_test ?_ | refine' m_tB ?_ | refine' m_op ?_ ?_ ?_ | refine' m_cons ?_ ?_ | refine' m_cb ?_ ?_))
local macro_rules | `(tactic| walk_at "go") => `(tactic| repeat' (first | walk_at "s" | walk_at "v" | walk_at "a" | walk_at "x" | walk_at "m" | walk_at "c" | walk_at "i" | walk_at "d"))

section
variable {P : Program} {w : World} {K : PySem.W.Frag} {mg : Str → Option Value} {base : Heap}
theorem tabs_hs {TL : List (Addr × Str)} {B : Bg} {H H' : Hp} (b : BagAt K H B) (s : Hs K B H H') (t : LamX.Tabs TL H) : LamX.Tabs TL H' := by
  obtain ⟨ys, e0⟩ := bag_lst b
  exact (Ch.of_oth (F := [B.hd]) s.o (by simp) fun o e => by rw [e0] at e; cases e; rfl).tabs t
theorem first_ne {w1 w2 : Str} {x y : Bool} (h : (x && y) = false) (n1 : w1 ≠ "let") (n2 : w2 ≠ "let") : firstW w1 x w2 y ≠ "let" := by
  cases x <;> cases y <;> simp_all [firstW]
theorem noth_no {S : SD} {N : Nat} {b : Int} (e : S.rows b = []) : nothB S N (.int b) = false := by
  show (within (.int b) 0 ((N : Int) - 1) && !(S.rows b).isEmpty) = false
  rw [e]; simp
theorem noth_yes {S : SD} {N : Nat} {b : Int} {c : Ct} {cs : List Ct} (eb : within (.int b) 0 ((N : Int) - 1) = true) (e : S.rows b = c :: cs) : nothB S N (.int b) = true := by
  show (within (.int b) 0 ((N : Int) - 1) && !(S.rows b).isEmpty) = true
  rw [e, eb]; rfl
theorem noth_is {H : Hp} {q : Addr} {D : Dsk} {S : SD} {N : Nat} {b : Int} (hD : BookAt H q D) (u : Sees K H D S) (eb : within (.int b) 0 ((N : Int) - 1) = true) : (valV (kvs_of D.rows) (Sum.inl b : Key)).isSome = nothB S N (.int b) := by
  rcases (show S.rows b = [] ∨ ∃ c cs, S.rows b = c :: cs by cases S.rows b with | nil => exact .inl rfl | cons c cs => exact .inr ⟨c, cs, rfl⟩) with hrow | ⟨c, cs, hrow⟩
  · have ef : D.rows.find? (fun r => decide (r.1 = b)) = none := by
      cases qq : D.rows.find? (fun r => decide (r.1 = b)) with
      | none => rfl
      | some r =>
        have tu := u.rv.som qq
        rw [hrow] at tu
        exact absurd (List.length_eq_zero_iff.mp tu.1) (hD.hr r (List.mem_of_find?_eq_some qq)).2
    rw [noth_no hrow, val_row, ef]; rfl
  · obtain ⟨r, ef, hm, hk, tu⟩ := u.rv.there (b := b) (by rw [hrow]; simp)
    rw [noth_yes eb hrow, val_row, ef]; rfl
theorem Tv.smt {Z : Addr → Prop} {oth : V} {H : Hp} {a : Addr} {xs : List V} (h : H a = some (.tup xs)) (l : xs.length ≤ 1000) (s : xs.all smallV = true) : Tv K Z oth H (.ref a) (some xs) := .tup (stO h) l fun x hx => .sm (List.all_eq_true.mp s x hx)
theorem pw_of {v : V} (h : pwOk v = true) : ∃ m : Option Int, v = pwV m ∧ ∀ i, m = some i → 0 ≤ i ∧ i ≤ 1000000 := by
  cases v with
  | non => exact ⟨none, rfl, fun i e => nomatch e⟩
  | int i =>
    obtain ⟨b, e, b0, b1⟩ := within_int (v := .int i) (lo := 0) (hi := 1000000) h
    cases e
    exact ⟨some i, rfl, fun j e => by cases e; exact ⟨b0, b1⟩⟩
  | _ => cases h
theorem pw_no {v : V} (h : pwOk v = false) : v ≠ .non ∧ within v 0 1000000 = false := by
  cases v with
  | non => cases h
  | _ => exact ⟨(fun z => nomatch z), h⟩
theorem setPw_back {S : SD} {m : Option Int} (h : S.pw = none) : (S.setPw m).setPw none = S := by
  cases S
  cases h
  rfl
def sp_law (K : PySem.W.Frag) (PT : Addr) : Sp := fun vs H Q _ => ∃ (a : Addr) (ns : List Int), vs = [.ref a] ∧ SqL K H a (ns.map V.int) ∧ ns.length ≤ 63 ∧ H PT = some (.tbl #[]) ∧ ∀ H', Q (.bl true) H'
theorem ok_law (T : Txt K mg) (dt : DskTy K T.C_Disk) (B_law : LamX.TabB base mg T.law.c T.law.P) : FnOk P w K mg base CX0 8 T.law.f T.law.fd ["script"] ((sp_law K T.law.P)) := by
  refine T.law.ok sc_law (fun vs H Q E h => ?_) (fun A outer s H vs Q E hr h => ?_)
  · obtain ⟨a, ns, rfl, _⟩ := h
    rfl
  · obtain ⟨a, ns0, rfl, hS, hl, hP, k⟩ := h
    refine ⟨_, (pss_cons (ps_set (i := 1) sc_law.nd rfl (Or.inl rfl) (pe_call (ok_law_hand T) (hr.mono (by decide)) (by rfl) T.law_hand.g T.law_hand.F.kp T.law_hand.b .nil pass0 (pa_cons (pv 0) pa_nil)))
    (pss_cons (ps_set (i := 2) sc_law.nd rfl (Or.inr rfl) (pe_call (ok_law_any T) (hr.mono (by decide)) (by rfl) T.law_any.g T.law_any.F.kp T.law_any.b .nil pass0 (pa_cons (pv 1) (pa_cons (pe_lst (pa_cons pe_int (pa_cons pe_int (pa_cons pe_int (pa_cons pe_int (pa_cons pe_int (pa_cons (pe_op oAdd pe_int (pe_call (ok_law_draw T) (hr.mono (by decide)) (by rfl) T.law_draw.g T.law_draw.F.kp T.law_draw.b .nil pass0 (pa_cons (pv 1) (pa_cons pe_int pa_nil)))) (pa_cons (pe_call (ok_law_odd T) (hr.mono (by decide)) (by rfl) T.law_odd.g T.law_odd.F.kp T.law_odd.b .nil pass0 (pa_cons (pv 1) (pa_cons pe_str pa_nil))) pa_nil)))))))) pa_nil))))
    (Evl.pss_cut (ps_if (pt_cmpR (oNe (K := K) hr.units) (pe_lamF (n := ("law" : Str) ++ ".<locals>.") (T := tabsL T) (k := 4) nox_qual T.law_word (by rfl) sc_law_word4 (by rfl) (.inl (by rfl)) (fun cdv => word_givesX T rfl rfl) B_law rfl (tabsM_law T) (tabs_uniq T.dst (tabsM_law T)) (hr.mono (by decide)) (show LamX.LamS (defScope s_law) _ from LamX.lamS_by (by decide +kernel)) rfl (fun _ _ _ _ _ => rfl) (fun A outer s H E f c hr => (pe_make (T.m_Disk_init.made T.k_Disk) (ok_Disk_init T) (hr.mono (by decide)) (by rfl) T.k_Disk.g T.m_Disk_init.b .nil (passes_call (takes_of rfl rfl rfl rfl) (fun _ _ _ _ h => h)) (pa_cons (pv 2) pa_nil)))) (pe_ifExp (ptTruth (K := K) (pe_call (ok_law_is_int T) (hr.mono (by decide)) (by rfl) T.law_is_int.g T.law_is_int.F.kp T.law_is_int.b .nil pass0 (pa_cons (pv 2) (pa_cons pe_int (pa_cons pe_int pa_nil)))) (by intro _; rfl)) pe_str pe_str) (nomark _)) (pss_one (ps_ret pe_bl)) pss_nil)
    (pss_cons (ps_set (i := 3) sc_law.nd rfl (Or.inl rfl) (pe_op oAdd pe_int (pe_call (ok_law_draw T) (hr.mono (by decide)) (by rfl) T.law_draw.g T.law_draw.F.kp T.law_draw.b .nil pass0 (pa_cons (pv 1) (pa_cons pe_int pa_nil)))))
    (pss_cons (ps_asg (pe_tup (pa_cons (pe_make (T.m_Disk_init.made T.k_Disk) (ok_Disk_init T) (hr.mono (by decide)) (by rfl) T.k_Disk.g T.m_Disk_init.b .nil passL (pa_cons (pv 3) pa_nil)) (pa_cons (pe_call (ok_law_book T) (hr.mono (by decide)) (by rfl) T.law_book.g T.law_book.F.kp T.law_book.b .nil pass0 (pa_cons (pv 3) pa_nil)) pa_nil))) (pgTup (K := K) (n := 2) (pg_tup (n := 2) rfl (pgs_cons (pg_name (i := 4) sc_law.nd rfl (Or.inr rfl)) (pgs_cons (pg_name (i := 5) sc_law.nd rfl (Or.inl rfl)) pgs_nil)))))
    (pss_cons (ps_for PassesOwn.never rfl (pi_range1 (by rfl) T.z_range (pa_cons pe_int pa_nil)) (pg_name (i := 6) sc_law.nd rfl (Or.inl rfl))
      (pss_cons (ps_set (i := 7) sc_law.nd rfl (Or.inr rfl) (pe_call (ok_law_any T) (hr.mono (by decide)) (by rfl) T.law_any.g T.law_any.F.kp T.law_any.b .nil pass0 (pa_cons (pv 1) (pa_cons (pe_lst (pa_cons pe_int (pa_cons (pe_op op_sub (pv 3) pe_int) (pa_cons (pv 3) (pa_cons pe_int (pa_cons pe_int (pa_cons (pe_call (ok_law_odd T) (hr.mono (by decide)) (by rfl) T.law_odd.g T.law_odd.F.kp T.law_odd.b .nil pass0 (pa_cons (pv 1) (pa_cons (pv 4) pa_nil))) pa_nil))))))) pa_nil))))
    (pss_cons (ps_asg (pe_tup (pa_cons (pe_call (ok_law_is_int T) (hr.mono (by decide)) (by rfl) T.law_is_int.g T.law_is_int.F.kp T.law_is_int.b .nil pass0 (pa_cons (pv 7) (pa_cons pe_int (pa_cons (pe_op op_sub (pv 3) pe_int) pa_nil)))) (pa_cons (pe_call (ok_law_some_content T) (hr.mono (by decide)) (by rfl) T.law_some_content.g T.law_some_content.F.kp T.law_some_content.b .nil pass0 (pa_cons (pv 1) (pa_cons (pv 4) pa_nil))) pa_nil))) (pgTup (K := K) (n := 2) (pg_tup (n := 2) rfl (pgs_cons (pg_name (i := 8) sc_law.nd rfl (Or.inl rfl)) (pgs_cons (pg_name (i := 9) sc_law.nd rfl (Or.inr rfl)) pgs_nil)))))
    (pss_cons (ps_set (i := 10) sc_law.nd rfl (Or.inl rfl) (pe_call (ok_law_first T) (hr.mono (by decide)) (by rfl) T.law_first.g T.law_first.F.kp T.law_first.b .nil pass0 (pa_cons (pe_lst (pa_cons (pe_tup (pa_cons pe_str (pa_cons (pv 8) pa_nil))) (pa_cons (pe_tup (pa_cons pe_str (pa_cons (pe_call (ok_law_is_content T) (hr.mono (by decide)) (by rfl) T.law_is_content.g T.law_is_content.F.kp T.law_is_content.b .nil pass0 (pa_cons (pv 9) pa_nil)) pa_nil))) pa_nil))) pa_nil)))
    (Evl.pss_cut (ps_if (pt_cmpR (oNe (K := K) hr.units) (pe_lamF (n := ("law" : Str) ++ ".<locals>.") (T := tabsL T) (k := 5) nox_qual T.law_word (by rfl) sc_law_word4 (by rfl) (.inl (by rfl)) (fun cdv => word_givesX T rfl rfl) B_law rfl (tabsM_law T) (tabs_uniq T.dst (tabsM_law T)) (hr.mono (by decide)) (show LamX.LamS (defScope s_law) _ from LamX.lamS_by (by decide +kernel)) rfl (fun _ _ _ _ _ => rfl) (fun A outer s H E f c hr => (pe_meth (pv 4) T.k_Disk.cl T.m_Disk_write.i (ok_Disk_write T) (hr.mono (by decide)) T.m_Disk_write.b .nil (passes_call (takes_of rfl rfl rfl rfl) (fun _ _ _ _ h => h)) (pa_cons (pv 7) (pa_cons (pv 9) pa_nil))))) (pv 10) (nomark _)) (pss_one (ps_ret pe_bl)) pss_nil)
    (Evl.pss_cut (ps_if (pt_cmpR (oEq (K := K) hr.units) (pv 10) pe_str (nomark _)) (pss_one (ps_expr (pe_call (ok_law_wrote T) (hr.mono (by decide)) (by rfl) T.law_wrote.g T.law_wrote.F.kp T.law_wrote.b .nil pass0 (pa_cons (pv 5) (pa_cons (pv 7) (pa_cons (pv 9) pa_nil)))))) pss_nil)
    (Evl.pss_cut (ps_set (i := 10) sc_law.nd rfl (Or.inl rfl) (pe_ifExp (ptTruth (K := K) (pv 8) (by intro _; rfl)) pe_str pe_str))
    (Evl.pss_cut (ps_if (PW.pt (pw_or (pt_cmpR (oNe (K := K) hr.units) (pe_lamF (n := ("law" : Str) ++ ".<locals>.") (T := tabsL T) (k := 4) nox_qual T.law_word (by rfl) sc_law_word4 (by rfl) (.inl (by rfl)) (fun cdv => word_givesX T rfl rfl) B_law rfl (tabsM_law T) (tabs_uniq T.dst (tabsM_law T)) (hr.mono (by decide)) (show LamX.LamS (defScope s_law) _ from LamX.lamS_by (by decide +kernel)) rfl (fun _ _ _ _ _ => rfl) (fun A outer s H E f c hr => (pe_meth (pv 4) T.k_Disk.cl T.m_Disk_read.i (ok_Disk_read T) (hr.mono (by decide)) T.m_Disk_read.b .nil (passes_call (takes_of rfl rfl rfl rfl) (fun _ _ _ _ h => h)) (pa_cons (pv 7) pa_nil)))) (pv 10) (nomark _)) (pw_or1 (pt_not (ptTruth (K := K) (pe_call (ok_law_shows T) (hr.mono (by decide)) (by rfl) T.law_shows.g T.law_shows.F.kp T.law_shows.b .nil pass0 (pa_cons (pv 4) (pa_cons (pv 5) (pa_cons (pe_listRg rfl (by rfl) T.z_list (prg_1 (by rfl) T.z_range (pv 3))) pa_nil)))) (by intro _; rfl)))))) (pss_one (ps_ret pe_bl)) pss_nil)
    (Evl.pss_cut (ps_if (pt_cmpR (oNe (K := K) hr.units) (pe_lamF (n := ("law" : Str) ++ ".<locals>.") (T := tabsL T) (k := 4) nox_qual T.law_word (by rfl) sc_law_word4 (by rfl) (.inl (by rfl)) (fun cdv => word_givesX T rfl rfl) B_law rfl (tabsM_law T) (tabs_uniq T.dst (tabsM_law T)) (hr.mono (by decide)) (show LamX.LamS (defScope s_law) _ from LamX.lamS_by (by decide +kernel)) rfl (fun _ _ _ _ _ => rfl) (fun A outer s H E f c hr => (pe_meth (pv 4) T.k_Disk.cl T.m_Disk_lying.i (ok_Disk_lying T) (hr.mono (by decide)) T.m_Disk_lying.b .nil (passes_call (takes_of rfl rfl rfl rfl) (fun _ _ _ _ h => h)) (pa_cons (pv 7) pa_nil)))) (pv 10) (nomark _)) (pss_one (ps_ret pe_bl)) pss_nil)
    (Evl.pss_cut (ps_set (i := 10) sc_law.nd rfl (Or.inl rfl) (pe_call (ok_law_first T) (hr.mono (by decide)) (by rfl) T.law_first.g T.law_first.F.kp T.law_first.b .nil pass0 (pa_cons (pe_lst (pa_cons (pe_tup (pa_cons pe_str (pa_cons (pv 8) pa_nil))) (pa_cons (pe_tup (pa_cons pe_str (pa_cons (pe_and (pv 8) (pe_one (pe_cmp (pc_din (hu_of hr) (pv 7) (pe_dget (hu_of hr) (pv 5) pe_str (fun _ _ => rfl)))))) pa_nil))) pa_nil))) pa_nil)))
    (Evl.pss_cut (ps_if (PW.pt (pw_or (pt_cmpR (oNe (K := K) hr.units) (pe_lamF (n := ("law" : Str) ++ ".<locals>.") (T := tabsL T) (k := 4) nox_qual T.law_word (by rfl) sc_law_word4 (by rfl) (.inl (by rfl)) (fun cdv => word_givesX T rfl rfl) B_law rfl (tabsM_law T) (tabs_uniq T.dst (tabsM_law T)) (hr.mono (by decide)) (show LamX.LamS (defScope s_law) _ from LamX.lamS_by (by decide +kernel)) rfl (fun _ _ _ _ _ => rfl) (fun A outer s H E f c hr => (pe_meth (pv 4) T.k_Disk.cl T.m_Disk_reach.i (ok_Disk_reach T) (hr.mono (by decide)) T.m_Disk_reach.b .nil (passes_call (takes_of rfl rfl rfl rfl) (fun _ _ _ _ h => h)) (pa_cons (pv 7) pa_nil)))) (pv 10) (nomark _)) (pw_or1 (PW.pt (pw_and (pt_cmpR (oEq (K := K) hr.units) (pv 10) pe_str (nomark _)) (pw_and1 (pt_not (ptTruth (K := K) (pe_call (ok_law_reached T) (hr.mono (by decide)) (by rfl) T.law_reached.g T.law_reached.F.kp T.law_reached.b .nil pass0 (pa_cons (pv 5) (pa_cons (pv 7) pa_nil))) (by intro _; rfl))))))))) (pss_one (ps_ret pe_bl)) pss_nil)
    (pss_cons (ps_set (i := 11) sc_law.nd rfl (Or.inl rfl) (pe_lst (pa_cons (pe_tup pa_nil) (pa_cons (pe_tup (pa_cons pe_int pa_nil)) (pa_cons (pe_tup (pa_cons pe_int (pa_cons pe_int pa_nil))) (pa_cons (pe_tup (pa_cons pe_int (pa_cons pe_int pa_nil))) (pa_cons (pe_tup (pa_cons pe_int (pa_cons pe_int pa_nil))) (pa_cons (pe_tup (pa_cons (pv 3) pa_nil)) (pa_cons (pe_tup (pa_cons pe_int (pa_cons (pv 3) pa_nil))) (pa_cons (pe_tup (pa_cons (pe_un un_neg pe_int) (pa_cons pe_int pa_nil))) (pa_cons (pe_lst (pa_cons pe_int pa_nil)) (pa_cons (pe_tup (pa_cons pe_bl (pa_cons pe_int pa_nil))) (pa_cons (pe_tup (pa_cons pe_str pa_nil)) (pa_cons pe_int pa_nil))))))))))))))
    (pss_cons (ps_set (i := 12) sc_law.nd rfl (Or.inr rfl) (pe_call (ok_law_any T) (hr.mono (by decide)) (by rfl) T.law_any.g T.law_any.F.kp T.law_any.b .nil pass0 (pa_cons (pv 1) (pa_cons (pe_op oAdd (pv 11) (pe_lst (pa_cons (pe_call (ok_law_odd T) (hr.mono (by decide)) (by rfl) T.law_odd.g T.law_odd.F.kp T.law_odd.b .nil pass0 (pa_cons (pv 1) (pa_cons (pv 4) pa_nil))) pa_nil))) pa_nil))))
    (pss_cons (ps_set (i := 13) sc_law.nd rfl (Or.inl rfl) (pe_call (ok_law_is_lot T) (hr.mono (by decide)) (by rfl) T.law_is_lot.g T.law_is_lot.F.kp T.law_is_lot.b .nil pass0 (pa_cons (pv 12) (pa_cons (pv 3) pa_nil))))
    (Evl.pss_cut (ps_if (pt_cmpR (oNe (K := K) hr.units) (pe_lamF (n := ("law" : Str) ++ ".<locals>.") (T := tabsL T) (k := 4) nox_qual T.law_word (by rfl) sc_law_word4 (by rfl) (.inl (by rfl)) (fun cdv => word_givesX T rfl rfl) B_law rfl (tabsM_law T) (tabs_uniq T.dst (tabsM_law T)) (hr.mono (by decide)) (show LamX.LamS (defScope s_law) _ from LamX.lamS_by (by decide +kernel)) rfl (fun _ _ _ _ _ => rfl) (fun A outer s H E f c hr => (pe_meth (pv 4) T.k_Disk.cl T.m_Disk_force.i (ok_Disk_force T) (hr.mono (by decide)) T.m_Disk_force.b .nil (passes_call (takes_of rfl rfl rfl rfl) (fun _ _ _ _ h => h)) (pa_cons (pv 12) pa_nil)))) (pe_ifExp (ptTruth (K := K) (pv 13) (by intro _; rfl)) pe_str pe_str) (nomark _)) (pss_one (ps_ret pe_bl)) pss_nil)
    (Evl.pss_cut (ps_if (PW.pt (pw_and (ptTruth (K := K) (pv 13) (by intro _; rfl)) (pw_and1 (pt_not (ptTruth (K := K) (pe_call (ok_law_forced T) (hr.mono (by decide)) (by rfl) T.law_forced.g T.law_forced.F.kp T.law_forced.b .nil pass0 (pa_cons (pv 5) (pa_cons (pv 12) pa_nil))) (by intro _; rfl)))))) (pss_one (ps_ret pe_bl)) pss_nil)
    (pss_cons (ps_set (i := 14) sc_law.nd rfl (Or.inr rfl) (pe_call (ok_law_any T) (hr.mono (by decide)) (by rfl) T.law_any.g T.law_any.F.kp T.law_any.b .nil pass0 (pa_cons (pv 1) (pa_cons (pe_lst (pa_cons pe_non (pa_cons (pe_op op_pow pe_int pe_int) (pa_cons (pe_op oAdd (pe_op op_pow pe_int pe_int) pe_int) (pa_cons pe_int (pa_cons (pe_un un_neg pe_int) (pa_cons pe_bl (pa_cons pe_str (pa_cons (pe_tup (pa_cons pe_int pa_nil)) (pa_cons (pe_call (ok_law_odd T) (hr.mono (by decide)) (by rfl) T.law_odd.g T.law_odd.F.kp T.law_odd.b .nil pass0 (pa_cons (pv 1) (pa_cons (pv 4) pa_nil))) pa_nil)))))))))) pa_nil))))
    (Evl.pss_cut (ps_set (i := 10) sc_law.nd rfl (Or.inl rfl) (pe_ifExp (PW.pt (pw_or (pt_cmpR oIsN (pv 14) pe_non (nomark _)) (pw_or1 (ptTruth (K := K) (pe_call (ok_law_is_int T) (hr.mono (by decide)) (by rfl) T.law_is_int.g T.law_is_int.F.kp T.law_is_int.b .nil pass0 (pa_cons (pv 14) (pa_cons pe_int (pa_cons (pe_op op_pow pe_int pe_int) pa_nil)))) (by intro _; rfl))))) pe_str pe_str))
    (Evl.pss_cut (ps_if (PW.pt (pw_or (pt_cmpR (oNe (K := K) hr.units) (pe_lamF (n := ("law" : Str) ++ ".<locals>.") (T := tabsL T) (k := 3) nox_qual T.law_word (by rfl) sc_law_word4 (by rfl) (.inl (by rfl)) (fun cdv => word_givesX T rfl rfl) B_law rfl (tabsM_law T) (tabs_uniq T.dst (tabsM_law T)) (hr.mono (by decide)) (show LamX.LamS (defScope s_law) _ from LamX.lamS_by (by decide +kernel)) rfl (fun _ _ _ _ _ => rfl) (fun A outer s H E f c hr => (pe_meth (pv 4) T.k_Disk.cl T.m_Disk_power.i (ok_Disk_power T) (hr.mono (by decide)) T.m_Disk_power.b .nil (passes_call (takes_of rfl rfl rfl rfl) (fun _ _ _ _ h => h)) (pa_cons (pv 14) pa_nil)))) (pv 10) (nomark _)) (pw_or1 (pt_not (ptTruth (K := K) (pe_call (ok_law_shows T) (hr.mono (by decide)) (by rfl) T.law_shows.g T.law_shows.F.kp T.law_shows.b .nil pass0 (pa_cons (pv 4) (pa_cons (pv 5) (pa_cons (pe_listRg rfl (by rfl) T.z_list (prg_1 (by rfl) T.z_range (pv 3))) pa_nil)))) (by intro _; rfl)))))) (pss_one (ps_ret pe_bl)) pss_nil)
    (pss_one (ps_expr (pe_meth (pv 4) T.k_Disk.cl T.m_Disk_power.i (ok_Disk_power T) (hr.mono (by decide)) T.m_Disk_power.b .nil passL (pa_cons pe_non pa_nil)))))))))))))))))))))))
    (pss_one (ps_ret pe_bl)))))))), ?_⟩
    walk_at "go"
    refine ⟨a, ns0, rfl, hS, hl, fun B H1 nB s1 b1 => ?_⟩
    have tb1 : LamX.Tabs (tabsL T) H1 := fun pp hpp => by
      rw [List.mem_singleton.mp hpp]
      exact LamX.TabS.nil (s1 _ _ hP)
    walk_at "go"
    refine ⟨B, 500, rfl, b1, by omega, by omega, fun d H2 d0 d1 s2 => ?_⟩
    walk_at "go"
    refine ⟨B, (fun a => a = B.hd), .str "disk", rfl, s2.b, rfl, fun a z e => by (obtain ⟨ys, e0⟩ := bag_lst s2.b; rw [← z, e] at e0; cases e0), fun v3 o3 H3 s3 tv3 => ?_⟩
    have hs3 := s2.trans s3
    walk_at "go"
    refine n_new (le_size (by simp)) fun l4 H4 n4 s4 h4 => ?_
    have hs4 := hs3.trans (Hs.of hs3.b s4)
    walk_at "go"
    refine ⟨B, l4, _, rfl, hs4.b, slO h4, new_ne hs3.b n4, by simp, by simp, fun many H5 hx s5 => ?_⟩
    have tvm : ∃ o, Tv K (fun a => a = B.hd) (.str "disk") H5 many o := by
      simp only [List.mem_cons, List.not_mem_nil, or_false] at hx
      rcases hx with z | z | z | z | z | z | z <;> subst z
      · exact ⟨_, .sm rfl⟩
      · exact ⟨_, .sm rfl⟩
      · exact ⟨_, .sm rfl⟩
      · exact ⟨_, .sm rfl⟩
      · exact ⟨_, .sm rfl⟩
      · exact ⟨_, .sm rfl⟩
      · exact ⟨_, tv3.keep ((Kp.of_same s4).trans (Kp.of_hs hs4.b s5 rfl))⟩
    obtain ⟨om, tvm⟩ := tvm
    have hs5 := hs4.trans s5
    have tb5 := tabs_hs b1 hs5 tb1
    have b5 := hs5.b
    clear tv3 h4 n4 hx
    walk_at "go"
    refine s_cut (fun σ9 H9 => σ9 = [some (.ref a), some (.ref B.hd), some many, none, none, none, none, none, none, none, none, none, none, none, none] ∧ BagAt K H9 B ∧ LamX.Tabs (tabsL T) H9) ?_ ?_
    · walk_at "go"
      refine e_lamW tb5 fun H6 x6 t6 => ?_
      have c6 : ChN [] H5 H6 := ChN.of_x x6
      have b6 := bag_n b5 c6 (by simp) (by simp)
      have tv6 : Tv K (fun a => a = B.hd) (.str "disk") H6 many om := tvm.chn c6 (by simp) fun a z => .inl z
      walk_at "go"
      refine e_make ?_
      walk_at "go"
      intro p dx np ndx ne
      show sp_disk_init K T.C_Disk T.e_BadDisk.C [.ref p, many] _ _ _
      have hq7 : upd (upd H6 dx (.own p)) p (.ins T.C_Disk dx []) p = some (.ins T.C_Disk dx []) := upd_same
      have s7 : Same H6 (upd (upd H6 dx (.own p)) p (.ins T.C_Disk dx [])) := fun x o e => by
        rw [upd_ne (ne_of_none e np), upd_ne (ne_of_none e ndx)]; exact e
      generalize upd (upd H6 dx (.own p)) p (.ins T.C_Disk dx []) = H7 at *
      have od : ∀ H8, Same H6 H8 → Od K H8 many := fun H8 s8 => ((tv6.keep (Kp.of_same s8)).th (.inl (by decide +kernel))).ods.od
      cases ew : within many 16 600 with
      | true =>
        obtain ⟨n, rfl, n0, n1⟩ := within_int ew
        obtain ⟨m, rfl⟩ : ∃ m : Nat, n = m := ⟨n.toNat, by omega⟩
        refine w_init ⟨dx, hq7⟩ (by omega) (by omega) fun F H8 d8 but8 f8 => ⟨rfl, ?_⟩
        have s8 : Same H6 H8 := fun x o e => but8 x o (by rw [List.mem_singleton]; exact ne_of_none e np) (s7 x o e)
        walk_at "go"
        refine ⟨_, _, _, rfl, od _ s8, ?_⟩
        rw [ew]
        walk_at "go"
        refine i_f (decide_eq_false (by simp)) ?_
        walk_at "go"
        exact ⟨rfl, bag_same b6 s8, t6.ext s8⟩
      | false =>
        refine .inr ⟨p, many, rfl, od _ s7, ew, w_err 0 rfl rfl fun H8 s8 => ?_⟩
        walk_at "go"
        refine ⟨_, _, _, rfl, od _ (s7.trans s8), ?_⟩
        rw [ew]
        walk_at "go"
        refine i_f (decide_eq_false (by simp)) ?_
        walk_at "go"
        exact ⟨rfl, bag_same b6 (s7.trans s8), t6.ext (s7.trans s8)⟩
    rintro σ9 H9 ⟨rfl, b9, t9⟩
    clear tvm tb5 b5 hs5 hs4 hs3 tb1 b1 s1 s2 s3 s4 s5
    walk_at "go"
    refine ⟨B, 9, rfl, b9, by omega, by omega, fun e H10 e0 e1 s10 => ?_⟩
    obtain ⟨N, hN⟩ : ∃ N : Nat, 16 + e = N := ⟨(16 + e).toNat, by omega⟩
    have b10 := s10.b
    have tb10 := tabs_hs b9 s10 t9
    walk_at "go"
    rw [hN]
    walk_at "go"
    refine e_make ?_
    walk_at "go"
    intro p dx np ndx ne
    show sp_disk_init K T.C_Disk T.e_BadDisk.C [.ref p, .int N] _ _ _
    have hq5 : upd (upd H10 dx (.own p)) p (.ins T.C_Disk dx []) p = some (.ins T.C_Disk dx []) := upd_same
    have s5 : Same H10 (upd (upd H10 dx (.own p)) p (.ins T.C_Disk dx [])) := fun x o e => by
      rw [upd_ne (ne_of_none e np), upd_ne (ne_of_none e ndx)]; exact e
    generalize upd (upd H10 dx (.own p)) p (.ins T.C_Disk dx []) = H5' at *
    refine w_init ⟨dx, hq5⟩ (by omega) (by omega) fun F H6 d6 but6 f6 => ⟨rfl, ?_⟩
    have s6 : Same H10 H6 := fun x o e => but6 x o (by rw [List.mem_singleton]; exact ne_of_none e np) (s5 x o e)
    have nF : ∀ x ∈ F, H10 x = none := fun x hx => by
      rcases f6 x hx with z | z
      · rw [z]; exact np
      · exact free_ s5 z
    walk_at "go"
    refine ⟨N, rfl, by omega, fun q G H7 bs7 nG7 s7 => ?_⟩
    have s27 := s6.trans s7
    have tw7 : Two K T.C_Disk H7 p q F G (SD.new N) := ⟨d6.same s7, bs7, fun x hx m => d6.there x hx (nG7 x m)⟩
    have nFG : ∀ x ∈ F ++ G, H10 x = none := fun x hx => (List.mem_append.mp hx).elim (nF x) fun m => free_ s6 (nG7 x m)
    have so0 : So (msN N) N 0 (SD.new N) := ⟨by show (List.replicate N _).length = N; rw [List.length_replicate], fun x hx => absurd rfl hx, fun x => Nat.le_refl _⟩
    have off : ∀ {x : Addr} {o : HO}, H10 x = some o → x ∉ F ++ G := fun e m => by rw [nFG _ m] at e; cases e
    have lw0 : Lw K (tabsL T) T.C_Disk H7 B p q F G (SD.new N) (SD.new N) N 0 := by
      have b7 := bag_same b10 s27
      obtain ⟨i, big, mix, c, g1, g2, g3, g4⟩ := id b10
      refine ⟨⟨tb10.ext s27, b7, tw7.ds, tw7.bs, tw7.dj, s27 _ _ g2, off g1, off g2, off g2, g3, ChN.refl, fun x hx => .inl hx⟩, so0, so0, rfl, by omega, by omega⟩
    clear tw7 bs7 d6 so0 nFG nF s27 s6 s5 hq5 but6 f6 nG7 s7 off
    walk_at "go"
    refine n_new (le_size (by simp)) fun tt H8 n8 s8 h8 => ?_
    have lw0 := (lw0.same s8).1
    refine g_pairS (stO h8) ?_
    walk_at "go"
    refine i_rng 8 rfl (by omega) (by omega) ?_
    refine l_rng (fun i σ3 H3 => ∃ (y6 y7 y8 y9 y10 y11 y12 y13 y14 : Option V) (F G : List Addr) (S : SD), σ3 = [some (.ref a), some (.ref B.hd), some many, some (.int (N : Int)), some (.ref p), some (.ref q), y6, y7, y8, y9, y10, y11, y12, y13, y14] ∧ Lw K (tabsL T) T.C_Disk H3 B p q F G S S N i) ⟨none, none, none, none, none, none, none, none, none, F, G, SD.new N, rfl, lw0⟩ (fun σ3 H3 z => ?_) (fun i σ3 H3 hi z => ?_)
    · obtain ⟨y6, y7, y8, y9, y10, y11, y12, y13, y14, F, G, S, rfl, l⟩ := z
      walk_at "go"
      exact k H3
    obtain ⟨y6', y7, y8, y9, y10, y11, y12, y13, y14, F, G, S, rfl, l0⟩ := z
    clear lw0
    walk_at "go"
    refine ⟨B, ZF B F G, .ref p, rfl, l0.g.bag, .inl rfl, l0.live, fun v1 o1 H4 s4 tv1 => ?_⟩
    obtain ⟨l1, t1⟩ := l0.hsd s4
    walk_at "go"
    refine n_new (le_size (by simp)) fun l5 H5 n5 s5 h5 => ?_
    obtain ⟨l2, t2⟩ := l1.same s5
    walk_at "go"
    refine ⟨B, l5, _, rfl, l2.g.bag, slO h5, new_ne l1.g.bag n5, by simp, by simp, fun vb H6 hx s6 => ?_⟩
    obtain ⟨l3, t3⟩ := l2.hsd s6
    have tvb : ∃ o, Tv K (ZF B F G) (.ref p) H6 vb o := by
      simp only [List.mem_cons, List.not_mem_nil, or_false] at hx
      rcases hx with z | z | z | z | z | z <;> subst z
      · exact ⟨_, .sm rfl⟩
      · exact ⟨_, .sm rfl⟩
      · exact ⟨_, .sm rfl⟩
      · exact ⟨_, .sm rfl⟩
      · exact ⟨_, .sm rfl⟩
      · exact ⟨_, t3 (t2 tv1)⟩
    obtain ⟨ob, tvb⟩ := tvb
    clear tv1 h5 n5 hx
    walk_at "go"
    refine ⟨vb, _, _, rfl, (l3.th dt tvb).ods.od, ?_⟩
    walk_at "go"
    refine ⟨B, ZF B F G, .ref p, rfl, l3.g.bag, .inl rfl, l3.live, fun vc oc H7 s7 tvc => ?_⟩
    obtain ⟨l4, t4⟩ := l3.hsd s7
    have tvb := t4 tvb
    walk_at "go"
    refine n_new (le_size (by simp)) fun tt H8 n8 s8 h8 => ?_
    refine g_pairS (stO h8) ?_
    walk_at "go"
    refine n_new (le_size (by simp)) fun u1 H9 n9 s9 h9 => ?_
    obtain ⟨l6, t6⟩ := l4.same (s8.trans s9)
    walk_at "go"
    refine ⟨vc, oc, rfl, l6.th dt (t6 tvc), fun H10 s10 => ?_⟩
    walk_at "go"
    refine n_new (le_size (by simp)) fun u2 H11 n11 s11 h11 => ?_
    walk_at "go"
    refine n_new (le_size (by simp)) fun u3 H12 n12 s12 h12 => ?_
    walk_at "go"
    refine ⟨u3, u1, u2, "block", _, "content", _, rfl, h12, stO ((s10.trans (s11.trans s12)) _ _ h9), stO (s12 _ _ h11), fun H13 s13 => ?_⟩
    obtain ⟨l7, t7⟩ := l6.same (s10.trans (s11.trans (s12.trans s13)))
    have tvb := t7 (t6 tvb)
    have tvc := t7 (t6 tvc)
    clear l0 l1 l2 l3 l4 l6 t1 t2 t3 t4 t6 t7 h8 h9 h11 h12
    have hi8 : i < 8 := hi
    walk_at "go"
    refine s_cut (fun σ9 H9 => ∃ (y6 y11 y12 y13 y14 : Option V) (F9 : List Addr) (Sd9 : SD), σ9 = [some (.ref a), some (.ref B.hd), some many, some (.int (N : Int)), some (.ref p), some (.ref q), y6, some vb, some (.bl (within vb 0 ((N : Int) - 1))), some vc, some (.str (firstW "block" (within vb 0 ((N : Int) - 1)) "content" (itemsO 0 40 oc))), y11, y12, y13, y14] ∧ Lw K (tabsL T) T.C_Disk H9 B p q F9 G Sd9 S N (i + 1) ∧ Tv K (ZF B F9 G) (.ref p) H9 vb ob ∧ Tv K (ZF B F9 G) (.ref p) H9 vc oc ∧ ((∃ b c xs, vb = .int b ∧ vc = .ref c ∧ oc = some xs ∧ within vb 0 ((N : Int) - 1) = true ∧ itemsO 0 40 oc = true ∧ 0 ≤ b ∧ b < (N : Int) ∧ CtOk xs ∧ SqT K H9 c xs ∧ Sd9 = S.wrote b xs) ∨ ((within vb 0 ((N : Int) - 1) && itemsO 0 40 oc) = false ∧ Sd9 = S))) ?_ ?_
    · walk_at "go"
      refine e_lamW l7.g.tb fun H14 x14 t14 => ?_
      obtain ⟨lx, tx⟩ := l7.xn x14 t14
      have tvb := tx tvb
      have tvc := tx tvc
      obtain ⟨D, hD, eF, v, eN⟩ := lx.dsk
      walk_at "go"
      refine m_call0 hD.ob (df_no _ _ _ _ (by decide +kernel)) ?_
      walk_at "go"
      cases eb : within vb 0 ((N : Int) - 1) with
      | false =>
        refine .inr (.inl ⟨rfl, p, D, vb, _, rfl, hD, (lx.th dt tvb).ods.od, by rw [eN]; exact eb, w_err 1 rfl rfl fun H15 s15 => ?_⟩)
        obtain ⟨l8, t8⟩ := lx.same s15
        walk_at "go"
        refine i_f (decide_eq_false (by simp [firstW])) ?_
        walk_at "go"
        exact ⟨_, _, _, _, _, F, S, rfl, l8.mono (Nat.le_succ _), t8 tvb, t8 tvc, .inr ⟨rfl, rfl⟩⟩
      | true =>
        obtain ⟨b, rfl, b0, b1⟩ := within_int eb
        cases ec : itemsO 0 40 oc with
        | true =>
          obtain ⟨xs, rfl⟩ : ∃ xs, oc = some xs := by
            cases oc with
            | none => cases ec
            | some xs => exact ⟨xs, rfl⟩
          obtain ⟨c, rfl, hc, lc⟩ := tvc.tupD
          have ok := items_ok lc ec
          refine w_write lx.g.ds (fun x => by have := lx.sd.len x; omega) b0 (by rw [lx.sd.ln]; omega) hc ok fun F8 H8 d8 c8 f8 => ?_
          obtain ⟨l8, t8⟩ := lx.disk d8 c8 f8 (lx.sd.wrote (msN_mem b0 (by omega))) (Nat.le_succ _)
          walk_at "go"
          refine i_f (decide_eq_false (by simp [firstW])) ?_
          walk_at "go"
          exact ⟨_, _, _, _, _, F8, _, rfl, l8, t8 tvb, t8 tvc, .inl ⟨b, c, xs, rfl, rfl, rfl, rfl, rfl, b0, by omega, ok, c8.st hc, rfl⟩⟩
        | false =>
          refine .inr (.inr ⟨p, D, b, vc, oc, rfl, hD, b0, by omega, lx.th dt tvc, ec, fun H15 s15 => w_err 2 rfl rfl fun H16 s16 => ?_⟩)
          obtain ⟨l8, t8⟩ := lx.same (s15.trans s16)
          walk_at "go"
          refine i_f (decide_eq_false (by simp [firstW])) ?_
          walk_at "go"
          exact ⟨_, _, _, _, _, F, S, rfl, l8.mono (Nat.le_succ _), t8 tvb, t8 tvc, .inr ⟨rfl, rfl⟩⟩
    rintro σ9 H9 ⟨y6, y11, y12, y13, y14, F9, Sd9, rfl, l8, tvb, tvc, hW⟩
    clear l7
    walk_at "go"
    refine s_cut (fun σ9 H9 => ∃ (y6 y10 y11 y12 y13 y14 : Option V) (F G : List Addr) (S : SD), σ9 = [some (.ref a), some (.ref B.hd), some many, some (.int (N : Int)), some (.ref p), some (.ref q), y6, some vb, some (.bl (within vb 0 ((N : Int) - 1))), some vc, y10, y11, y12, y13, y14] ∧ Lw K (tabsL T) T.C_Disk H9 B p q F G S S N (i + 1) ∧ Tv K (ZF B F G) (.ref p) H9 vb ob) ?_ ?_
    · rcases hW with ⟨b, c, xs, rfl, rfl, rfl, eb, ec, b0, b1, ok, hc, rfl⟩ | ⟨e, rfl⟩
      · walk_at "go"
        refine i_t (decide_eq_true (by rw [eb, ec]; rfl)) ?_
        walk_at "go"
        refine ⟨q, G, S, b, c, xs, rfl, l8.g.bs, hc, ok, b0, by rw [l8.sb.ln]; omega, fun x => by have := l8.sb.len x; omega, (l8.bd (by omega)).few, fun G' H10 bs10 c10 f10 => ?_⟩
        obtain ⟨l9, t9⟩ := l8.book bs10 c10 f10 l8.sd (Nat.le_refl _) l8.pw
        walk_at "go"
        exact ⟨_, _, _, _, _, _, F9, G', _, rfl, l9, t9 tvb⟩
      · walk_at "go"
        refine i_f (decide_eq_false (first_ne e (by decide +kernel) (by decide +kernel))) ?_
        walk_at "go"
        exact ⟨_, _, _, _, _, _, F9, G, _, rfl, l8, tvb⟩
    clear hW tvc l8 tvb
    rintro σ9 H9 ⟨y6, y10, y11, y12, y13, y14, F, G, S, rfl, l, tvb⟩
    walk_at "go"
    refine s_cut (fun σ9 H9 => ∃ (y6 y11 y12 y13 y14 : Option V) (F G : List Addr) (S : SD), σ9 = [some (.ref a), some (.ref B.hd), some many, some (.int (N : Int)), some (.ref p), some (.ref q), y6, some vb, some (.bl (within vb 0 ((N : Int) - 1))), some vc, some (.str (if within vb 0 ((N : Int) - 1) = true then "let" else "block")), y11, y12, y13, y14] ∧ Lw K (tabsL T) T.C_Disk H9 B p q F G S S N (i + 1) ∧ Tv K (ZF B F G) (.ref p) H9 vb ob) ?_ ?_
    · walk_at "go"
      cases eb : within vb 0 ((N : Int) - 1) with
      | false =>
        walk_at "go"
        exact ⟨_, _, _, _, _, F, G, S, rfl, l, tvb⟩
      | true =>
        walk_at "go"
        exact ⟨_, _, _, _, _, F, G, S, rfl, l, tvb⟩
    clear l tvb
    rintro σ9 H9 ⟨y6, y11, y12, y13, y14, F, G, S, rfl, l, tvb⟩
    walk_at "go"
    refine s_cut (fun σ9 H9 => ∃ (y6 y11 y12 y13 y14 : Option V) (F G : List Addr) (S : SD), σ9 = [some (.ref a), some (.ref B.hd), some many, some (.int (N : Int)), some (.ref p), some (.ref q), y6, some vb, some (.bl (within vb 0 ((N : Int) - 1))), some vc, some (.str (if within vb 0 ((N : Int) - 1) = true then "let" else "block")), y11, y12, y13, y14] ∧ Lw K (tabsL T) T.C_Disk H9 B p q F G S S N (i + 1) ∧ Tv K (ZF B F G) (.ref p) H9 vb ob) ?_ ?_
    · walk_at "go"
      refine e_lamW l.g.tb fun H14 x14 t14 => ?_
      obtain ⟨lx, tx⟩ := l.xn x14 t14
      have tvb := tx tvb
      obtain ⟨D, hD, eF, v, eN⟩ := lx.dsk
      walk_at "go"
      refine m_call0 hD.ob (df_no _ _ _ _ (by decide +kernel)) ?_
      walk_at "go"
      cases eb : within vb 0 ((N : Int) - 1) with
      | false =>
        refine .inr ⟨rfl, p, D, vb, _, rfl, hD, (lx.th dt tvb).ods.od, by rw [eN]; exact eb, w_err 1 rfl rfl fun H15 s15 => ?_⟩
        obtain ⟨l8, t8⟩ := lx.same s15
        walk_at "go"
        refine i_f (decide_eq_false (by simp [firstW])) ?_
        walk_at "go"
        refine e_rgN rfl (by omega) fun lr H16 n16 s16 h16 => ?_
        obtain ⟨lr1, tr1⟩ := l8.same s16
        walk_at "go"
        refine ⟨p, F, q, G, lr, S, S.pw, msN N, rfl, lr1.g.ds, lr1.g.bs, slO h16, fun m => l8.g.bs.there lr m n16, fun m hm => by rw [lr1.sb.ln]; exact msN_in m hm, lr1.bd (by omega), by rw [lr1.sb.ln]; omega, fun H17 s17 => ?_⟩
        obtain ⟨lr2, tr2⟩ := lr1.same s17
        walk_at "go"
        exact ⟨_, _, _, _, _, F, G, S, rfl, lr2, tr2 (tr1 (t8 tvb))⟩
      | true =>
        obtain ⟨b, rfl, b0, b1⟩ := within_int eb
        obtain ⟨c, xs, e1, e2, tc, ok⟩ := shows_at v (fun r hr => (hD.hr r hr).2) b0 (by rw [lx.sd.ln]; omega)
        refine .inl ⟨p, D, b, c, rfl, hD, b0, by omega, e1, ?_⟩
        walk_at "go"
        refine i_f (decide_eq_false (by simp [firstW])) ?_
        walk_at "go"
        refine e_rgN rfl (by omega) fun lr H16 n16 s16 h16 => ?_
        obtain ⟨lr1, tr1⟩ := lx.same s16
        walk_at "go"
        refine ⟨p, F, q, G, lr, S, S.pw, msN N, rfl, lr1.g.ds, lr1.g.bs, slO h16, fun m => lx.g.bs.there lr m n16, fun m hm => by rw [lr1.sb.ln]; exact msN_in m hm, lr1.bd (by omega), by rw [lr1.sb.ln]; omega, fun H17 s17 => ?_⟩
        obtain ⟨lr2, tr2⟩ := lr1.same s17
        walk_at "go"
        exact ⟨_, _, _, _, _, F, G, S, rfl, lr2, tr2 (tr1 (tvb))⟩
    clear l tvb
    rintro σ9 H9 ⟨y6, y11, y12, y13, y14, F, G, S, rfl, l, tvb⟩
    walk_at "go"
    refine s_cut (fun σ9 H9 => ∃ (y6 y11 y12 y13 y14 : Option V) (F G : List Addr) (S : SD), σ9 = [some (.ref a), some (.ref B.hd), some many, some (.int (N : Int)), some (.ref p), some (.ref q), y6, some vb, some (.bl (within vb 0 ((N : Int) - 1))), some vc, some (.str (if within vb 0 ((N : Int) - 1) = true then "let" else "block")), y11, y12, y13, y14] ∧ Lw K (tabsL T) T.C_Disk H9 B p q F G S S N (i + 1) ∧ Tv K (ZF B F G) (.ref p) H9 vb ob) ?_ ?_
    · walk_at "go"
      refine e_lamW l.g.tb fun H14 x14 t14 => ?_
      obtain ⟨lx, tx⟩ := l.xn x14 t14
      have tvb := tx tvb
      obtain ⟨D, hD, eF, v, eN⟩ := lx.dsk
      walk_at "go"
      refine m_call0 hD.ob (df_no _ _ _ _ (by decide +kernel)) ?_
      walk_at "go"
      cases eb : within vb 0 ((N : Int) - 1) with
      | false =>
        refine .inr ⟨rfl, p, D, vb, _, rfl, hD, (lx.th dt tvb).ods.od, by rw [eN]; exact eb, w_err 1 rfl rfl fun H15 s15 => ?_⟩
        obtain ⟨l8, t8⟩ := lx.same s15
        walk_at "go"
        refine i_f (decide_eq_false (by simp [firstW])) ?_
        walk_at "go"
        exact ⟨_, _, _, _, _, F, G, S, rfl, l8, t8 tvb⟩
      | true =>
        obtain ⟨b, rfl, b0, b1⟩ := within_int eb
        have hb : b.toNat < D.lies.length := by omega
        refine .inl ⟨p, D, b, _, rfl, hD, b0, List.getElem?_eq_getElem hb, ?_⟩
        walk_at "go"
        refine i_f (decide_eq_false (by simp [firstW])) ?_
        walk_at "go"
        exact ⟨_, _, _, _, _, F, G, S, rfl, lx, tvb⟩
    clear l tvb
    rintro σ9 H9 ⟨y6, y11, y12, y13, y14, F, G, S, rfl, l, tvb⟩
    walk_at "go"
    refine s_cut (fun σ9 H9 => ∃ (y6 y11 y12 y13 y14 : Option V) (F G : List Addr) (S : SD), σ9 = [some (.ref a), some (.ref B.hd), some many, some (.int (N : Int)), some (.ref p), some (.ref q), y6, some vb, some (.bl (within vb 0 ((N : Int) - 1))), some vc, some (.str (firstW "block" (within vb 0 ((N : Int) - 1)) "nothing" (nothB S N vb))), y11, y12, y13, y14] ∧ Lw K (tabsL T) T.C_Disk H9 B p q F G S S N (i + 1) ∧ Tv K (ZF B F G) (.ref p) H9 vb ob) ?_ ?_
    · walk_at "go"
      refine n_new (le_size (by simp)) fun u1 H10 n10 s10 h10 => ?_
      obtain ⟨l1, t1⟩ := l.same s10
      walk_at "go"
      cases eb : within vb 0 ((N : Int) - 1) with
      | false =>
        rw [eb] at h10
        walk_at "go"
        refine n_new (le_size (by simp)) fun u2 H11 n11 s11 h11 => ?_
        walk_at "go"
        refine n_new (le_size (by simp)) fun u3 H12 n12 s12 h12 => ?_
        walk_at "go"
        refine ⟨u3, u1, u2, "block", _, "nothing", _, rfl, h12, stO ((s11.trans s12) _ _ h10), stO (s12 _ _ h11), fun H13 s13 => ?_⟩
        obtain ⟨l7, t7⟩ := l1.same (s11.trans (s12.trans s13))
        walk_at "go"
        exact ⟨_, _, _, _, _, F, G, S, rfl, l7, t7 (t1 tvb)⟩
      | true =>
        rw [eb] at h10
        obtain ⟨b, rfl, b0, b1⟩ := within_int eb
        obtain ⟨D, hD, eG, u⟩ := id l1.g.bs
        walk_at "go"
        refine e_dget ?_
        walk_at "go"
        refine o_dget (k := Sum.inr "waits") hD.ob (bkv_w D) ?_
        refine g_din (k := Sum.inl b) hD.hw ?_
        rw [show (valV (kvs_of D.rows) (Sum.inl b : Key)).isSome = nothB S N (.int b) from noth_is hD u eb]
        walk_at "go"
        refine n_new (le_size (by simp)) fun u2 H11 n11 s11 h11 => ?_
        walk_at "go"
        refine n_new (le_size (by simp)) fun u3 H12 n12 s12 h12 => ?_
        walk_at "go"
        refine ⟨u3, u1, u2, "block", _, "nothing", _, rfl, h12, stO ((s11.trans s12) _ _ h10), stO (s12 _ _ h11), fun H13 s13 => ?_⟩
        obtain ⟨l7, t7⟩ := l1.same (s11.trans (s12.trans s13))
        walk_at "go"
        exact ⟨_, _, _, _, _, F, G, S, rfl, l7, t7 (t1 tvb)⟩
    clear l tvb
    rintro σ9 H9 ⟨y6, y11, y12, y13, y14, F, G, S, rfl, l, tvb⟩
    walk_at "go"
    refine s_cut (fun σ9 H9 => ∃ (y6 y10 y11 y12 y13 y14 : Option V) (F G : List Addr) (S : SD), σ9 = [some (.ref a), some (.ref B.hd), some many, some (.int (N : Int)), some (.ref p), some (.ref q), y6, some vb, some (.bl (within vb 0 ((N : Int) - 1))), some vc, y10, y11, y12, y13, y14] ∧ Lw K (tabsL T) T.C_Disk H9 B p q F G S S N (i + 1)) ?_ ?_
    · walk_at "go"
      refine e_lamW l.g.tb fun H14 x14 t14 => ?_
      obtain ⟨lx, tx⟩ := l.xn x14 t14
      have tvb := tx tvb
      obtain ⟨D, hD, eF, v, eN⟩ := lx.dsk
      walk_at "go"
      refine m_call0 hD.ob (df_no _ _ _ _ (by decide +kernel)) ?_
      walk_at "go"
      cases eb : within vb 0 ((N : Int) - 1) with
      | false =>
        refine .inl ⟨rfl, p, D, vb, _, rfl, hD, (lx.th dt tvb).ods.od, by rw [eN]; exact eb, w_err 1 rfl rfl fun H15 s15 => ?_⟩
        obtain ⟨l8, t8⟩ := lx.same s15
        walk_at "go"
        refine i_f (decide_eq_false (by simp [firstW])) ?_
        walk_at "go"
        refine i_f (decide_eq_false (first_ne rfl (by decide +kernel) (by decide +kernel))) ?_
        walk_at "go"
        exact ⟨_, _, _, _, _, _, F, G, S, rfl, l8⟩
      | true =>
        obtain ⟨b, rfl, b0, b1⟩ := within_int eb
        refine .inr ⟨p, F, S, b, rfl, lx.g.ds, b0, by rw [lx.sd.ln]; omega, fun e => w_err 3 rfl rfl fun H15 s15 => ?_, fun c cs e => ⟨fun pz => absurd pz (by rw [lx.pw]; simp), fun np H6 F6 d6 c6 f6 => ?_⟩⟩
        · obtain ⟨l8, t8⟩ := lx.same s15
          rw [noth_no (N := N) e]
          walk_at "go"
          refine i_f (decide_eq_false (by simp [firstW])) ?_
          walk_at "go"
          refine i_f (decide_eq_false (first_ne rfl (by decide +kernel) (by decide +kernel))) ?_
          walk_at "go"
          exact ⟨_, _, _, _, _, _, F, G, S, rfl, l8⟩
        · obtain ⟨l8, t8⟩ := lx.disk d6 c6 (fun x hx => .inl (f6 x hx)) (lx.sd.got e) (Nat.le_refl _)
          rw [noth_yes eb e]
          walk_at "go"
          refine i_f (decide_eq_false (by simp [firstW])) ?_
          walk_at "go"
          refine i_t (decide_eq_true rfl) ?_
          walk_at "go"
          have lc := l8.sb.len b
          rw [e, List.length_cons] at lc
          refine ⟨q, G, S, b, c, cs, rfl, l8.g.bs, e, by omega, (l8.bd (by omega)).few, fun pz => absurd pz (by rw [lx.pw]; simp), fun np H7 G7 b7 c7 f7 => ?_⟩
          obtain ⟨l9, t9⟩ := l8.book b7 c7 f7 (l8.sb.got e) (Nat.le_refl _) (by show S.pw.map _ = none; rw [lx.pw]; rfl)
          walk_at "go"
          exact ⟨_, _, _, _, _, _, F6, G7, _, rfl, l9⟩
    clear l tvb
    rintro σ9 H9 ⟨y6, y10, y11, y12, y13, y14, F, G, S, rfl, l⟩
    walk_at "go"
    refine n_new (le_size (by simp)) fun e1 E1 n1 s1 h1 => ?_
    walk_at "go"
    refine n_new (le_size (by simp)) fun e2 E2 n2 s2 h2 => ?_
    walk_at "go"
    refine n_new (le_size (by simp)) fun e3 E3 n3 s3 h3 => ?_
    walk_at "go"
    refine n_new (le_size (by simp)) fun e4 E4 n4 s4 h4 => ?_
    walk_at "go"
    refine n_new (le_size (by simp)) fun e5 E5 n5 s5 h5 => ?_
    walk_at "go"
    refine n_new (le_size (by simp)) fun e6 E6 n6 s6 h6 => ?_
    walk_at "go"
    refine n_new (le_size (by simp)) fun e7 E7 n7 s7 h7 => ?_
    walk_at "go"
    refine n_new (le_size (by simp)) fun e8 E8 n8 s8 h8 => ?_
    walk_at "go"
    refine n_new (le_size (by simp)) fun e9 E9 n9 s9 h9 => ?_
    walk_at "go"
    refine n_new (le_size (by simp)) fun e10 E10 n10 s10 h10 => ?_
    walk_at "go"
    refine n_new (le_size (by simp)) fun e11 E11 n11 s11 h11 => ?_
    walk_at "go"
    refine n_new (le_size (by simp)) fun e12 E12 n12 s12 h12 => ?_
    have r11 := s12
    have r10 := s11.trans r11
    have r9 := s10.trans r10
    have r8 := s9.trans r9
    have r7 := s8.trans r8
    have r6 := s7.trans r7
    have r5 := s6.trans r6
    have r4 := s5.trans r5
    have r3 := s4.trans r4
    have r2 := s3.trans r3
    have r1 := s2.trans r2
    have r0 := s1.trans r1
    have q8 := s1.trans (s2.trans (s3.trans (s4.trans (s5.trans (s6.trans (s7.trans s8))))))
    have q11 := q8.trans (s9.trans (s10.trans s11))
    have all12 : ∀ x ∈ [V.ref e1, .ref e2, .ref e3, .ref e4, .ref e5, .ref e6, .ref e7, .ref e8, .ref e9, .ref e10, .ref e11, .int 3], ∃ o, Tv K (ZF B F G) (.ref p) E12 x o := fun x hx => by
      simp only [List.mem_cons, List.not_mem_nil, or_false] at hx
      rcases hx with z | z | z | z | z | z | z | z | z | z | z | z <;> subst z
      · exact ⟨_, .smt (r1 _ _ h1) (by simp) (by first | rfl | decide +kernel)⟩
      · exact ⟨_, .smt (r2 _ _ h2) (by simp) (by first | rfl | decide +kernel)⟩
      · exact ⟨_, .smt (r3 _ _ h3) (by simp) (by first | rfl | decide +kernel)⟩
      · exact ⟨_, .smt (r4 _ _ h4) (by simp) (by first | rfl | decide +kernel)⟩
      · exact ⟨_, .smt (r5 _ _ h5) (by simp) (by first | rfl | decide +kernel)⟩
      · exact ⟨_, .smt (r6 _ _ h6) (by simp) (by first | rfl | decide +kernel)⟩
      · exact ⟨_, .smt (r7 _ _ h7) (by simp) (by first | rfl | decide +kernel)⟩
      · exact ⟨_, .smt (r8 _ _ h8) (by simp) (by first | rfl | decide +kernel)⟩
      · exact ⟨_, .lst ((l.same q8).1.live.not n9) (r9 _ _ h9)⟩
      · exact ⟨_, .smt (r10 _ _ h10) (by simp) (by first | rfl | decide +kernel)⟩
      · exact ⟨_, .smt (r11 _ _ h11) (by simp) (by first | rfl | decide +kernel)⟩
      · exact ⟨_, .sm rfl⟩
    have ne12 : e12 ≠ B.hd := new_ne (l.same q11).1.g.bag n12
    obtain ⟨l1, t1⟩ := l.same r0
    clear h1 h2 h3 h4 h5 h6 h7 h8 h9 h10 h11
    walk_at "go"
    refine ⟨B, ZF B F G, .ref p, rfl, l1.g.bag, .inl rfl, l1.live, fun v13 o13 H13 s13 tv13 => ?_⟩
    obtain ⟨l2, t2⟩ := l1.hsd s13
    walk_at "go"
    refine n_new (le_size (by simp)) fun l14 H14 n14 s14 h14 => ?_
    have h12' := s14 _ _ (s13.ls ne12 h12)
    refine o_cat h12' h14 (by simp) ?_
    refine n_new0 fun l15 H15 n15 s15 h15 => ?_
    obtain ⟨l3, t3⟩ := l2.same (s14.trans s15)
    walk_at "go"
    refine ⟨B, l15, _, rfl, l3.g.bag, slO h15, new_ne (l2.same s14).1.g.bag n15, by simp, by simp, fun vl H16 hx s16 => ?_⟩
    obtain ⟨l4, t4⟩ := l3.hsd s16
    have tvl : ∃ o, Tv K (ZF B F G) (.ref p) H16 vl o := by
      rcases List.mem_append.mp hx with y | y
      · obtain ⟨o, z⟩ := all12 vl y
        exact ⟨o, t4 (t3 (t2 z))⟩
      · rw [List.mem_singleton.mp y]
        exact ⟨_, t4 (t3 tv13)⟩
    obtain ⟨ol, tvl⟩ := tvl
    walk_at "go"
    refine ⟨vl, ol, N, rfl, l4.th dt tvl, fun H17 s17 => ?_⟩
    obtain ⟨l5, t5⟩ := l4.same s17
    have tvl := t5 tvl
    clear l l1 l2 l3 l4 t1 t2 t3 t4 t5 h12 h12' h14 h15 all12 hx tv13 r0 r1 r2 r3 r4 r5 r6 r7 r8 r9 r10 r11 q8 q11 s1 s2 s3 s4 s5 s6 s7 s8 s9 s10 s11 s12
    walk_at "go"
    refine s_cut (fun σ9 H9 => ∃ (y6 y10 y11 y14 : Option V) (F9 : List Addr) (Sd9 : SD), σ9 = [some (.ref a), some (.ref B.hd), some many, some (.int (N : Int)), some (.ref p), some (.ref q), y6, some vb, some (.bl (within vb 0 ((N : Int) - 1))), some vc, y10, y11, some vl, some (.bl (lotN (N : Int) ol)), y14] ∧ Lw K (tabsL T) T.C_Disk H9 B p q F9 G Sd9 S N (i + 1) ∧ ((∃ c xs, vl = .ref c ∧ ol = some xs ∧ lotN (N : Int) ol = true ∧ SqT K H9 c xs ∧ Sd9 = (SD.forceL (xs.map vInt) S).1) ∨ (lotN (N : Int) ol = false ∧ Sd9 = S))) ?_ ?_
    · walk_at "go"
      refine e_lamW l5.g.tb fun H14 x14 t14 => ?_
      obtain ⟨lx, tx⟩ := l5.xn x14 t14
      have tvl := tx tvl
      obtain ⟨D, hD, eF, v, eN⟩ := lx.dsk
      walk_at "go"
      refine m_call0 hD.ob (df_no _ _ _ _ (by decide +kernel)) ?_
      walk_at "go"
      cases ef : lotN (N : Int) ol with
      | true =>
        obtain ⟨xs, rfl⟩ : ∃ xs, ol = some xs := by
          cases ol with
          | none => cases ef
          | some xs => exact ⟨xs, rfl⟩
        obtain ⟨c, rfl, hc, lc⟩ := tvl.tupD
        obtain ⟨ex, lb, ln⟩ := lot_nums ef
        refine .inr ⟨p, F, S, c, xs.map vInt, rfl, lx.g.ds, by rw [← ex]; exact hc, by rw [List.length_map]; exact lc, lb, fun n hn => by rw [lx.sd.ln]; exact ln n hn, fun H15 F15 d15 c15 f15 => ?_⟩
        rw [if_pos (forceL_none _ lx.pw).1]
        obtain ⟨l8, t8⟩ := lx.disk d15 c15 f15 (lx.sd.force _) (Nat.le_refl _)
        walk_at "go"
        refine i_f (decide_eq_false (by simp [firstW])) ?_
        walk_at "go"
        exact ⟨_, _, _, _, F15, _, rfl, l8, .inl ⟨c, xs, rfl, rfl, rfl, c15.st hc, rfl⟩⟩
      | false =>
        refine .inl ⟨p, D, vl, ol, rfl, hD, lx.th dt tvl, (lotN_no ef).imp id (fun ⟨xs, e, m, e2, e3⟩ => ⟨xs, e, m, e2, by rw [eN]; exact e3⟩), fun H15 s15 => w_err 1 rfl rfl fun H16 s16 => ?_⟩
        obtain ⟨l8, t8⟩ := lx.same (s15.trans s16)
        walk_at "go"
        refine i_f (decide_eq_false (by simp [firstW])) ?_
        walk_at "go"
        exact ⟨_, _, _, _, F, S, rfl, l8, .inr ⟨rfl, rfl⟩⟩
    clear l5 tvl
    rintro σ9 H9 ⟨y6, y10, y11, y14, F9, Sd9, rfl, l, hW⟩
    walk_at "go"
    refine s_cut (fun σ9 H9 => ∃ (y6 y10 y11 y12 y13 y14 : Option V) (F G : List Addr) (S : SD), σ9 = [some (.ref a), some (.ref B.hd), some many, some (.int (N : Int)), some (.ref p), some (.ref q), y6, some vb, some (.bl (within vb 0 ((N : Int) - 1))), some vc, y10, y11, y12, y13, y14] ∧ Lw K (tabsL T) T.C_Disk H9 B p q F G S S N (i + 1)) ?_ ?_
    · rcases hW with ⟨c, xs, rfl, rfl, ef, hc, rfl⟩ | ⟨ef, rfl⟩
      · obtain ⟨ex, lb, ln⟩ := lot_nums ef
        rw [ef]
        walk_at "go"
        refine ⟨q, G, S, c, xs.map vInt, rfl, l.g.bs, .inl (by rw [← ex]; exact hc), l.bd (by omega), fun H15 G15 b15 c15 f15 => ?_⟩
        rw [(forceL_none _ l.pw).1]
        obtain ⟨l9, t9⟩ := l.book b15 c15 f15 (l.sb.force _) (Nat.le_refl _) (forceL_none _ l.pw).2
        walk_at "go"
        exact ⟨_, _, _, _, _, _, F9, G15, _, rfl, l9⟩
      · rw [ef]
        walk_at "go"
        exact ⟨_, _, _, _, _, _, F9, G, _, rfl, l⟩
    clear l hW
    rintro σ9 H9 ⟨y6, y10, y11, y12, y13, y14, F, G, S, rfl, l⟩
    walk_at "go"
    refine n_new (le_size (by simp)) fun e1 E1 n1 s1 h1 => ?_
    obtain ⟨l1, t1⟩ := l.same s1
    walk_at "go"
    refine ⟨B, ZF B F G, .ref p, rfl, l1.g.bag, .inl rfl, l1.live, fun v2 o2 H2 s2 tv2 => ?_⟩
    obtain ⟨l2, t2⟩ := l1.hsd s2
    have tu : Tv K (ZF B F G) (.ref p) E1 (.ref e1) (some [.int 1]) := .smt h1 (by simp) rfl
    walk_at "go"
    refine n_new (le_size (by simp)) fun e3 H3 n3 s3 h3 => ?_
    obtain ⟨l3, t3⟩ := l2.same s3
    walk_at "go"
    refine ⟨B, e3, _, rfl, l3.g.bag, slO h3, new_ne l2.g.bag n3, by simp, by simp, fun vp H4 hx s4 => ?_⟩
    obtain ⟨l4, t4⟩ := l3.hsd s4
    have tvp : ∃ o, Tv K (ZF B F G) (.ref p) H4 vp o := by
      simp only [List.mem_cons, List.not_mem_nil, or_false] at hx
      rcases hx with z | z | z | z | z | z | z | z | z <;> subst z
      · exact ⟨_, .sm rfl⟩
      · exact ⟨_, .sm rfl⟩
      · exact ⟨_, .sm rfl⟩
      · exact ⟨_, .sm rfl⟩
      · exact ⟨_, .sm rfl⟩
      · exact ⟨_, .sm rfl⟩
      · exact ⟨_, .sm (by decide +kernel)⟩
      · exact ⟨_, t4 (t3 (t2 tu))⟩
      · exact ⟨_, t4 (t3 tv2)⟩
    obtain ⟨op, tvp⟩ := tvp
    clear l l1 l2 l3 t1 t2 t3 t4 h1 h3 hx tv2 tu
    walk_at "go"
    refine s_cut (fun σ9 H9 => ∃ (y6 y11 y12 y13 : Option V) , σ9 = [some (.ref a), some (.ref B.hd), some many, some (.int (N : Int)), some (.ref p), some (.ref q), y6, some vb, some (.bl (within vb 0 ((N : Int) - 1))), some vc, some (.str (if pwOk vp = true then "let" else "number")), y11, y12, y13, some vp] ∧ Lw K (tabsL T) T.C_Disk H9 B p q F G S S N (i + 1) ∧ Tv K (ZF B F G) (.ref p) H9 vp op) ?_ ?_
    · rcases (l4.th dt tvp).ods.od with hp | ⟨b, hk⟩
      rotate_left 1
      · obtain ⟨a, rfl⟩ := hk.ref
        walk_at "go"
        refine ⟨_, _, _, rfl, (l4.th dt tvp).ods.od, ?_⟩
        rw [show pwOk (.ref a) = within (.ref a) 0 1000000 from rfl]
        cases ew : within (.ref a) 0 1000000 with
        | true =>
          walk_at "go"
          exact ⟨_, _, _, _, rfl, l4, tvp⟩
        | false =>
          walk_at "go"
          exact ⟨_, _, _, _, rfl, l4, tvp⟩
      cases vp with
      | non =>
        walk_at "go"
        exact ⟨_, _, _, _, rfl, l4, tvp⟩
      | int x =>
        walk_at "go"
        refine ⟨_, _, _, rfl, (l4.th dt tvp).ods.od, ?_⟩
        rw [show pwOk (.int x) = within (.int x) 0 1000000 from rfl]
        cases ew : within (.int x) 0 1000000 with
        | true =>
          walk_at "go"
          exact ⟨_, _, _, _, rfl, l4, tvp⟩
        | false =>
          walk_at "go"
          exact ⟨_, _, _, _, rfl, l4, tvp⟩
      | bl x =>
        walk_at "go"
        refine ⟨_, _, _, rfl, (l4.th dt tvp).ods.od, ?_⟩
        rw [show pwOk (.bl x) = within (.bl x) 0 1000000 from rfl]
        cases ew : within (.bl x) 0 1000000 with
        | true =>
          walk_at "go"
          exact ⟨_, _, _, _, rfl, l4, tvp⟩
        | false =>
          walk_at "go"
          exact ⟨_, _, _, _, rfl, l4, tvp⟩
      | str x =>
        walk_at "go"
        refine ⟨_, _, _, rfl, (l4.th dt tvp).ods.od, ?_⟩
        rw [show pwOk (.str x) = within (.str x) 0 1000000 from rfl]
        cases ew : within (.str x) 0 1000000 with
        | true =>
          walk_at "go"
          exact ⟨_, _, _, _, rfl, l4, tvp⟩
        | false =>
          walk_at "go"
          exact ⟨_, _, _, _, rfl, l4, tvp⟩
      | _ => cases hp
    clear l4 tvp
    rintro σ9 H9 ⟨y6, y11, y12, y13, rfl, l, tvp⟩
    walk_at "go"
    refine s_cut (fun σ9 H9 => ∃ (y6 y10 y11 y12 y13 y14 : Option V) (F : List Addr) (m : Option Int), σ9 = [some (.ref a), some (.ref B.hd), some many, some (.int (N : Int)), some (.ref p), some (.ref q), y6, some vb, some (.bl (within vb 0 ((N : Int) - 1))), some vc, y10, y11, y12, y13, y14] ∧ Lw K (tabsL T) T.C_Disk H9 B p q F G (S.setPw m) S N (i + 1)) ?_ ?_
    · walk_at "go"
      refine e_lamW l.g.tb fun H14 x14 t14 => ?_
      obtain ⟨lx, tx⟩ := l.xn x14 t14
      have tvp := tx tvp
      obtain ⟨D, hD, eF, v, eN⟩ := lx.dsk
      walk_at "go"
      refine m_call0 hD.ob (df_no _ _ _ _ (by decide +kernel)) ?_
      walk_at "go"
      cases eo : pwOk vp with
      | true =>
        obtain ⟨m, rfl, hm⟩ := pw_of eo
        refine .inl ⟨p, D, m, rfl, hD, hm, fun H8 hD8 but8 => ?_⟩
        obtain ⟨d8, c8⟩ := ds_power (fun i e => (hm i e).1) hD v hD8 but8
        rw [← eF] at d8 c8
        obtain ⟨l8, t8⟩ := lx.disk d8 c8 (fun x hx => .inl hx) (lx.sd.pw m) (Nat.le_refl _)
        walk_at "go"
        refine i_f (decide_eq_false (by simp [firstW])) ?_
        walk_at "go"
        refine e_rgN rfl (by omega) fun lr H16 n16 s16 h16 => ?_
        obtain ⟨lr1, tr1⟩ := l8.same s16
        walk_at "go"
        refine ⟨p, F, q, G, lr, S, m, msN N, rfl, lr1.g.ds, lr1.g.bs, slO h16, fun m => l8.g.bs.there lr m n16, fun m hm => by rw [lr1.sb.ln]; exact msN_in m hm, lr1.bd (by omega), by rw [lr1.sb.ln]; omega, fun H17 s17 => ?_⟩
        obtain ⟨lr2, tr2⟩ := lr1.same s17
        walk_at "go"
        exact ⟨_, _, _, _, _, _, F, m, rfl, lr2⟩
      | false =>
        refine .inr ⟨p, D, vp, rfl, hD, (lx.th dt tvp).ods.od, (pw_no eo).1, (pw_no eo).2, w_err 4 rfl rfl fun H15 s15 => ?_⟩
        obtain ⟨l8, t8⟩ := lx.same s15
        walk_at "go"
        refine i_f (decide_eq_false (by simp [firstW])) ?_
        walk_at "go"
        refine e_rgN rfl (by omega) fun lr H16 n16 s16 h16 => ?_
        obtain ⟨lr1, tr1⟩ := l8.same s16
        walk_at "go"
        refine ⟨p, F, q, G, lr, S, S.pw, msN N, rfl, lr1.g.ds, lr1.g.bs, slO h16, fun m => l8.g.bs.there lr m n16, fun m hm => by rw [lr1.sb.ln]; exact msN_in m hm, lr1.bd (by omega), by rw [lr1.sb.ln]; omega, fun H17 s17 => ?_⟩
        obtain ⟨lr2, tr2⟩ := lr1.same s17
        walk_at "go"
        exact ⟨_, _, _, _, _, _, F, S.pw, rfl, lr2⟩
    clear l tvp
    rintro σ9 H9 ⟨y6, y10, y11, y12, y13, y14, F, m, rfl, l⟩
    walk_at "go"
    obtain ⟨D, hD, eF, v, eN⟩ := l.dsk
    refine m_call0 hD.ob (df_no _ _ _ _ (by decide +kernel)) ?_
    walk_at "go"
    refine .inl ⟨p, D, none, rfl, hD, (fun i e => nomatch e), fun H8 hD8 but8 => ?_⟩
    obtain ⟨d8, c8⟩ := ds_power (m := none) (fun i e => (nomatch e)) hD v hD8 but8
    rw [← eF] at d8 c8
    obtain ⟨l8, t8⟩ := l.disk d8 c8 (fun x hx => .inl hx) (l.sd.pw none) (Nat.le_refl _)
    rw [setPw_back l.pw] at l8
    walk_at "go"
    exact ⟨_, _, _, _, _, _, _, _, _, F, G, S, rfl, l8⟩
end
end Vw

set_option Elab.async false
namespace Vw
open PySem PySem.Spec PyProof.Rows L2 RT
theorem tabIn_of {K : PySem.W.Frag} {x : Str} {f c P : Addr} {oc oc2 : Value} {od od2 : Option Addr} {fd : FuncData} {sl sl2 : Array (Option Value)} {vs : Array Value} (a : PySem.W.nsIn K mainGlobals x = some (some (.ref f))) (l : K.lookup f = some ⟨oc, od, .func fd, sl⟩) (e : fd.code = .ref c) (lc : K.lookup c = some ⟨oc2, od2, .fields vs, sl2⟩) (p : vs[11]? = some (.ref P)) : PySem.W.tabIn K x = some (c, P) := by
  unfold PySem.W.tabIn
  simp only [a, l, e, lc, p]
def defAtL_mk2 {K : PySem.W.Frag} {mg : Str → Option Value} {h : Heap} {x qual : Str} {st : Stmt} {ps : List Str} {f c P : Addr} {od an od2 : Option Addr} {sl sl2 : Array (Option Value)} {oc kV dc pm ct oc2 : Value} {vs : Array Value} (X : K.In h) (G : h.Ns mainGlobals mg)
    (a : PySem.W.nsIn K mainGlobals x = some (some (.ref f))) (l : K.lookup f = some ⟨oc, od, .func (PySem.W.fnOf x qual (defArgs st) (defBody st) (defScope st) .none kV dc pm an (.ref c) ct), sl⟩) (cc : PySem.W.codeIn K (.ref c) qual = true) (k : PySem.W.keepIn K (.ref f) = true)
    (lc : K.lookup c = some ⟨oc2, od2, .fields vs, sl2⟩) (p : vs[11]? = some (.ref P)) (nP : K.lookup P = none)
    (b : ∀ (kV doc pm : Value) (an : Option Addr) (cdv ct : Value) (us : List Value), us.length = ps.length → bindArgs (PySem.W.fnOf x qual (defArgs st) (defBody st) (defScope st) .none kV doc pm an cdv ct) ⟨us, []⟩ = pure (ps.zip us)) : DefAtL K mg x qual st ps :=
  defAtL_mk X G a l cc k (tabIn_of a l rfl lc p) nP b
def gRef_mk {K : PySem.W.Frag} {mg : Str → Option Value} {h : Heap} {x : Str} {C : Addr} (X : K.In h) (G : h.Ns mainGlobals mg) (a : PySem.W.nsIn K mainGlobals x = some (some (.ref C))) : { N : Addr // mg x = some (.ref N) } := ⟨C, PySem.W.mg_of X G a⟩
theorem law_mkL {l : PySem.W.OpenLaw} {q : Program} {w : World} {K : PySem.W.Frag} {h : Heap} {mg : Str → Option Value} {fa : Addr} {e : DefRec} (X : K.In h) (G : h.Ns mainGlobals mg) (hfa : mg "law" = some (.ref fa))
    (tabs : ∀ (y : Str) (e : DefRec) (c P : Addr), (PyProof.Rows.recsOf q).find? (fun e => e.name == y) = some e → PySem.W.tabIn K y = some (c, P) → PySem.W.CodeHd h c P ∧ h.get? P = some { cls := .none, data := .fields #[] })
    (hrec : (PyProof.Rows.recsOf q).find? (fun e => e.name == ("law" : Str)) = some e) (T : Txt K mg) (d1 : PySem.W.findIn K (.ref T.C_Disk) "__class__" = some (some (.builtin "object.__class__")))
    (d2 : PySem.W.specialIn K (.builtin "object.__class__") "__get__" = some (some (.builtin "getset_descriptor.__get__"))) (d3 : PySem.W.takesIn K (.builtin "object.__class__") = some true) (d4 : PySem.W.mroIn K T.C_Disk (.type "object") = some true)
    (d5 : PySem.W.kitOne K (.ref T.C_Disk) (.type "int") = some false) (d6 : PySem.W.kitOne K (.ref T.C_Disk) (.type "bool") = some false) (d7 : PySem.W.kitOne K (.ref T.C_Disk) (.type "str") = some false) (d8 : PySem.W.kitOne K (.ref T.C_Disk) (.type "tuple") = some false) :
    LamX.LawAtS l w K CX0 8 63 "script" mg fa h := by
  have dt : DskTy K T.C_Disk := ⟨T.k_Disk.cl, d1, d2, d3, d4, d5, d6, d7, d8⟩
  have e : fa = T.law.f := by
    have := hfa.symm.trans T.law.g
    injection this with this
    injection this
  subst e
  obtain ⟨oc, od, kV, doc, pm, an, ct, osl, efd, _⟩ := T.law.ex
  obtain ⟨t1, t2⟩ := tabs _ _ _ _ hrec T.law.tb
  have one : ∀ {Z : Addr × Addr → Prop}, Z (T.law.c, T.law.P) → ∀ p ∈ [(T.law.c, T.law.P)], Z p := fun z p hp => by rw [List.mem_singleton.mp hp]; exact z
  exact ⟨T.law.fd, [(T.law.c, T.law.P)], sp_law K T.law.P, one t2, one T.law.nP, one t1, fun s v => by rw [efd]; exact .of_eq rfl,
    fun H a ns hl _ hH hS => ⟨a, ns, rfl, hS, hl, hH _ (.head _), fun _ => rfl⟩, fun base _ _ hB => ok_law T dt (hB _ (.head _))⟩
end Vw
open PySem PySem.W PyProof.Rows
set_option maxRecDepth 100000 in
set_option maxHeartbeats 0 in
theorem PySem.Challenge.cw_wholeways_k02_disks_refused_holds : PySem.Challenge.rw_wholeways_k02_disks_refused.Holds := by
  w_on; o_law; k_head; (case hw => w_witness2)
  k_fill
  refine Vw.walk_ofRecs (l := PySem.Challenge.rw_wholeways_k02_disks_refused) (n := 63) (k := 8) (x := "script") (CX := fun _ => L2.CX0) rfl (by decide) rfl ⟨rfl, by decide, by decide⟩ (fun w h Y => PySem.W.km_in_of Y) ?F (fun _ _ _ _ _ h => h)
  case F =>
    intro w mg fa h _ KX G hmg tabs
    refine' Vw.law_mkL KX G hmg tabs rfl (T := {
      wall := (Vw.defAt_mk KX G ?a0 ?l0 ?c0 ?k0 (fun _ _ _ _ _ _ us hl => match us, hl with | [_], _ => rfl)),
      is_integer := (Vw.defAt_mk KX G ?a1 ?l1 ?c1 ?k1 (fun _ _ _ _ _ _ us hl => match us, hl with | [_], _ => rfl)),
      is_within := (Vw.defAt_mk KX G ?a2 ?l2 ?c2 ?k2 (fun _ _ _ _ _ _ us hl => match us, hl with | [_, _, _], _ => rfl)),
      is_number := (Vw.defAt_mk KX G ?a3 ?l3 ?c3 ?k3 (fun _ _ _ _ _ _ us hl => match us, hl with | [_], _ => rfl)),
      is_word := (Vw.defAt_mk KX G ?a4 ?l4 ?c4 ?k4 (fun _ _ _ _ _ _ us hl => match us, hl with | [_], _ => rfl)),
      is_item := (Vw.defAt_mk KX G ?a5 ?l5 ?c5 ?k5 (fun _ _ _ _ _ _ us hl => match us, hl with | [_], _ => rfl)),
      is_ascending := (Vw.defAt_mk KX G ?a6 ?l6 ?c6 ?k6 (fun _ _ _ _ _ _ us hl => match us, hl with | [_], _ => rfl)),
      is_lot := (Vw.defAt_mk KX G ?a7 ?l7 ?c7 ?k7 (fun _ _ _ _ _ _ us hl => match us, hl with | [_], _ => rfl)),
      is_items := (Vw.defAt_mk KX G ?a8 ?l8 ?c8 ?k8 (fun _ _ _ _ _ _ us hl => match us, hl with | [_, _, _], _ => rfl)),
      law_hand := (Vw.defAt_mk KX G ?a9 ?l9 ?c9 ?k9 (fun _ _ _ _ _ _ us hl => match us, hl with | [_], _ => rfl)),
      law_draw := (Vw.defAt_mk KX G ?a10 ?l10 ?c10 ?k10 (fun _ _ _ _ _ _ us hl => match us, hl with | [_, _], _ => rfl)),
      law_any := (Vw.defAt_mk KX G ?a11 ?l11 ?c11 ?k11 (fun _ _ _ _ _ _ us hl => match us, hl with | [_, _], _ => rfl)),
      law_is_int := (Vw.defAt_mk KX G ?a12 ?l12 ?c12 ?k12 (fun _ _ _ _ _ _ us hl => match us, hl with | [_, _, _], _ => rfl)),
      law_deep := (Vw.defAt_mk KX G ?a13 ?l13 ?c13 ?k13 (fun _ _ _ _ _ _ us hl => match us, hl with | [_], _ => rfl)),
      law_first := (Vw.defAt_mk KX G ?a14 ?l14 ?c14 ?k14 (fun _ _ _ _ _ _ us hl => match us, hl with | [_], _ => rfl)),
      law_is_name := (Vw.defAt_mk KX G ?a15 ?l15 ?c15 ?k15 (fun _ _ _ _ _ _ us hl => match us, hl with | [_, _], _ => rfl)),
      law_content := (Vw.defAt_mk KX G ?a16 ?l16 ?c16 ?k16 (fun _ _ _ _ _ _ us hl => match us, hl with | [_], _ => rfl)),
      law_book := (Vw.defAt_mk KX G ?a17 ?l17 ?c17 ?k17 (fun _ _ _ _ _ _ us hl => match us, hl with | [_], _ => rfl)),
      law_wrote := (Vw.defAt_mk KX G ?a18 ?l18 ?c18 ?k18 (fun _ _ _ _ _ _ us hl => match us, hl with | [_, _, _], _ => rfl)),
      law_reached := (Vw.defAt_mk KX G ?a19 ?l19 ?c19 ?k19 (fun _ _ _ _ _ _ us hl => match us, hl with | [_, _], _ => rfl)),
      law_forced := (Vw.defAt_mk KX G ?a20 ?l20 ?c20 ?k20 (fun _ _ _ _ _ _ us hl => match us, hl with | [_, _], _ => rfl)),
      law_shows := (Vw.defAt_mk KX G ?a21 ?l21 ?c21 ?k21 (fun _ _ _ _ _ _ us hl => match us, hl with | [_, _, _], _ => rfl)),
      law_word := (Vw.defAt_mk KX G ?a22 ?l22 ?c22 ?k22 (fun _ _ _ _ _ _ us hl => match us, hl with | [_], _ => rfl)),
      law_odd := (Vw.defAt_mk KX G ?a23 ?l23 ?c23 ?k23 (fun _ _ _ _ _ _ us hl => match us, hl with | [_, _], _ => rfl)),
      law_is_content := (Vw.defAt_mk KX G ?a24 ?l24 ?c24 ?k24 (fun _ _ _ _ _ _ us hl => match us, hl with | [_], _ => rfl)),
      law_some_content := (Vw.defAt_mk KX G ?a25 ?l25 ?c25 ?k25 (fun _ _ _ _ _ _ us hl => match us, hl with | [_, _], _ => rfl)),
      law_is_lot := (Vw.defAt_mk KX G ?a26 ?l26 ?c26 ?k26 (fun _ _ _ _ _ _ us hl => match us, hl with | [_, _], _ => rfl)),
      law := (Vw.defAtL_mk2 KX G ?a27 ?l27 ?c27 ?k27 ?lc27 ?p27 ?nP27 (fun _ _ _ _ _ _ us hl => match us, hl with | [_], _ => rfl)),
      z_ValueError := PySem.W.mg_none_of KX G ?z_ValueError,
      z_abs := PySem.W.mg_none_of KX G ?z_abs,
      z_all := PySem.W.mg_none_of KX G ?z_all,
      z_bool := PySem.W.mg_none_of KX G ?z_bool,
      z_dict := PySem.W.mg_none_of KX G ?z_dict,
      z_int := PySem.W.mg_none_of KX G ?z_int,
      z_isinstance := PySem.W.mg_none_of KX G ?z_isinstance,
      z_len := PySem.W.mg_none_of KX G ?z_len,
      z_list := PySem.W.mg_none_of KX G ?z_list,
      z_range := PySem.W.mg_none_of KX G ?z_range,
      z_sorted := PySem.W.mg_none_of KX G ?z_sorted,
      z_str := PySem.W.mg_none_of KX G ?z_str,
      z_tuple := PySem.W.mg_none_of KX G ?z_tuple,
      z_zip := PySem.W.mg_none_of KX G ?z_zip,
      c_GREATEST_ITEM := Vw.cAt_mk KX G ?q_GREATEST_ITEM ?r_GREATEST_ITEM,
      c_LONGEST_WORD := Vw.cAt_mk KX G ?q_LONGEST_WORD ?r_LONGEST_WORD,
      c_LEAST_BLOCKS := Vw.cAt_mk KX G ?q_LEAST_BLOCKS ?r_LEAST_BLOCKS,
      c_MOST_BLOCKS := Vw.cAt_mk KX G ?q_MOST_BLOCKS ?r_MOST_BLOCKS,
      c_MOST_ITEMS := Vw.cAt_mk KX G ?q_MOST_ITEMS ?r_MOST_ITEMS,
      c_MOST_POWER := Vw.cAt_mk KX G ?q_MOST_POWER ?r_MOST_POWER,
      C_Disk := ?C_Disk,
      k_Disk := Vw.clsAt_mk KX G ?ka_Disk ?kb_Disk ?kc_Disk ?kd_Disk ?ke_Disk ?kf_Disk ?kg_Disk,
      m_Disk_init := Vw.methAt_mk ?ma_Disk_init ?mi_Disk_init ?ml_Disk_init ?mc_Disk_init ?mk_Disk_init (fun _ _ _ _ _ _ us hl => match us, hl with | [_, _], _ => rfl),
      m_Disk_blocks := Vw.methAt_mk ?ma_Disk_blocks ?mi_Disk_blocks ?ml_Disk_blocks ?mc_Disk_blocks ?mk_Disk_blocks (fun _ _ _ _ _ _ us hl => match us, hl with | [_], _ => rfl),
      m_Disk_write := Vw.methAt_mk ?ma_Disk_write ?mi_Disk_write ?ml_Disk_write ?mc_Disk_write ?mk_Disk_write (fun _ _ _ _ _ _ us hl => match us, hl with | [_, _, _], _ => rfl),
      m_Disk_read := Vw.methAt_mk ?ma_Disk_read ?mi_Disk_read ?ml_Disk_read ?mc_Disk_read ?mk_Disk_read (fun _ _ _ _ _ _ us hl => match us, hl with | [_, _], _ => rfl),
      m_Disk_reach := Vw.methAt_mk ?ma_Disk_reach ?mi_Disk_reach ?ml_Disk_reach ?mc_Disk_reach ?mk_Disk_reach (fun _ _ _ _ _ _ us hl => match us, hl with | [_, _], _ => rfl),
      m_Disk_force := Vw.methAt_mk ?ma_Disk_force ?mi_Disk_force ?ml_Disk_force ?mc_Disk_force ?mk_Disk_force (fun _ _ _ _ _ _ us hl => match us, hl with | [_, _], _ => rfl),
      m_Disk_calm := Vw.methAt_mk ?ma_Disk_calm ?mi_Disk_calm ?ml_Disk_calm ?mc_Disk_calm ?mk_Disk_calm (fun _ _ _ _ _ _ us hl => match us, hl with | [_], _ => rfl),
      m_Disk_power := Vw.methAt_mk ?ma_Disk_power ?mi_Disk_power ?ml_Disk_power ?mc_Disk_power ?mk_Disk_power (fun _ _ _ _ _ _ us hl => match us, hl with | [_, _], _ => rfl),
      m_Disk_cut := Vw.methAt_mk ?ma_Disk_cut ?mi_Disk_cut ?ml_Disk_cut ?mc_Disk_cut ?mk_Disk_cut (fun _ _ _ _ _ _ us hl => match us, hl with | [_], _ => rfl),
      m_Disk_waiting := Vw.methAt_mk ?ma_Disk_waiting ?mi_Disk_waiting ?ml_Disk_waiting ?mc_Disk_waiting ?mk_Disk_waiting (fun _ _ _ _ _ _ us hl => match us, hl with | [_], _ => rfl),
      m_Disk_lying := Vw.methAt_mk ?ma_Disk_lying ?mi_Disk_lying ?ml_Disk_lying ?mc_Disk_lying ?mk_Disk_lying (fun _ _ _ _ _ _ us hl => match us, hl with | [_, _], _ => rfl),
      m_Disk_reached := Vw.methAt_mk ?ma_Disk_reached ?mi_Disk_reached ?ml_Disk_reached ?mc_Disk_reached ?mk_Disk_reached (fun _ _ _ _ _ _ us hl => match us, hl with | [_], _ => rfl),
      m_Disk_copy := Vw.methAt_mk ?ma_Disk_copy ?mi_Disk_copy ?ml_Disk_copy ?mc_Disk_copy ?mk_Disk_copy (fun _ _ _ _ _ _ us hl => match us, hl with | [_], _ => rfl),
      m_Disk__need_block := Vw.methAt_mk ?ma_Disk__need_block ?mi_Disk__need_block ?ml_Disk__need_block ?mc_Disk__need_block ?mk_Disk__need_block (fun _ _ _ _ _ _ us hl => match us, hl with | [_, _], _ => rfl),
      m_Disk__reach_one := Vw.methAt_mk ?ma_Disk__reach_one ?mi_Disk__reach_one ?ml_Disk__reach_one ?mc_Disk__reach_one ?mk_Disk__reach_one (fun _ _ _ _ _ _ us hl => match us, hl with | [_, _], _ => rfl),
      n_Disk__lies := Vw.noAttr_mk ?na_Disk__lies,
      n_Disk__waits := Vw.noAttr_mk ?na_Disk__waits,
      n_Disk__power := Vw.noAttr_mk ?na_Disk__power,
      n_Disk__reached := Vw.noAttr_mk ?na_Disk__reached,
      m_StoreError_init := Vw.initAt_mk ?il ?ic ?ik (fun _ _ _ _ _ _ us hl => match us, hl with | [_], _ => rfl),
      vV := ?vV,
      e_Stopped := Vw.excAt_mk KX G ?ea_Stopped ?el_Stopped ?eb_Stopped ?es_Stopped ?ex_Stopped ?et_Stopped ?ek_Stopped ?ei_Stopped ?ef_Stopped ?eh_Stopped ?ec_Stopped ?ee_Stopped,
      e_NothingWaits := Vw.excAt_mk KX G ?ea_NothingWaits ?el_NothingWaits ?eb_NothingWaits ?es_NothingWaits ?ex_NothingWaits ?et_NothingWaits ?ek_NothingWaits ?ei_NothingWaits ?ef_NothingWaits ?eh_NothingWaits ?ec_NothingWaits ?ee_NothingWaits,
      e_BadDisk := Vw.excAt_mk KX G ?ea_BadDisk ?el_BadDisk ?eb_BadDisk ?es_BadDisk ?ex_BadDisk ?et_BadDisk ?ek_BadDisk ?ei_BadDisk ?ef_BadDisk ?eh_BadDisk ?ec_BadDisk ?ee_BadDisk,
      e_NoBlock := Vw.excAt_mk KX G ?ea_NoBlock ?el_NoBlock ?eb_NoBlock ?es_NoBlock ?ex_NoBlock ?et_NoBlock ?ek_NoBlock ?ei_NoBlock ?ef_NoBlock ?eh_NoBlock ?ec_NoBlock ?ee_NoBlock,
      e_NoContent := Vw.excAt_mk KX G ?ea_NoContent ?el_NoContent ?eb_NoContent ?es_NoContent ?ex_NoContent ?et_NoContent ?ek_NoContent ?ei_NoContent ?ef_NoContent ?eh_NoContent ?ec_NoContent ?ee_NoContent,
      e_NoNumber := Vw.excAt_mk KX G ?ea_NoNumber ?el_NoNumber ?eb_NoNumber ?es_NoNumber ?ex_NoNumber ?et_NoNumber ?ek_NoNumber ?ei_NoNumber ?ef_NoNumber ?eh_NoNumber ?ec_NoNumber ?ee_NoNumber,
      N_StoreError := (Vw.gRef_mk KX G ?gn_StoreError).1,
      g_StoreError := (Vw.gRef_mk KX G ?gn_StoreError).2,
      x_BadDisk := ⟨?xa_BadDisk, ?xb_BadDisk, ?xc_BadDisk, ?xd_BadDisk, ?xe_BadDisk, ?xf_BadDisk, ?xg_BadDisk, ?xh_BadDisk⟩,
      kv_BadDisk := ?kv_BadDisk,
      xs_BadDisk := PySem.W.exm_ref ?m1_BadDisk ?m2_BadDisk ?m3_BadDisk ?m4_BadDisk,
      k_BadDisk_BadDisk := ?k_BadDisk_BadDisk,
      k_BadDisk_NoBlock := ?k_BadDisk_NoBlock,
      k_BadDisk_NoContent := ?k_BadDisk_NoContent,
      k_BadDisk_NothingWaits := ?k_BadDisk_NothingWaits,
      k_BadDisk_NoNumber := ?k_BadDisk_NoNumber,
      x_NoBlock := ⟨?xa_NoBlock, ?xb_NoBlock, ?xc_NoBlock, ?xd_NoBlock, ?xe_NoBlock, ?xf_NoBlock, ?xg_NoBlock, ?xh_NoBlock⟩,
      kv_NoBlock := ?kv_NoBlock,
      xs_NoBlock := PySem.W.exm_ref ?m1_NoBlock ?m2_NoBlock ?m3_NoBlock ?m4_NoBlock,
      k_NoBlock_BadDisk := ?k_NoBlock_BadDisk,
      k_NoBlock_NoBlock := ?k_NoBlock_NoBlock,
      k_NoBlock_NoContent := ?k_NoBlock_NoContent,
      k_NoBlock_NothingWaits := ?k_NoBlock_NothingWaits,
      k_NoBlock_NoNumber := ?k_NoBlock_NoNumber,
      x_NoContent := ⟨?xa_NoContent, ?xb_NoContent, ?xc_NoContent, ?xd_NoContent, ?xe_NoContent, ?xf_NoContent, ?xg_NoContent, ?xh_NoContent⟩,
      kv_NoContent := ?kv_NoContent,
      xs_NoContent := PySem.W.exm_ref ?m1_NoContent ?m2_NoContent ?m3_NoContent ?m4_NoContent,
      k_NoContent_BadDisk := ?k_NoContent_BadDisk,
      k_NoContent_NoBlock := ?k_NoContent_NoBlock,
      k_NoContent_NoContent := ?k_NoContent_NoContent,
      k_NoContent_NothingWaits := ?k_NoContent_NothingWaits,
      k_NoContent_NoNumber := ?k_NoContent_NoNumber,
      x_NothingWaits := ⟨?xa_NothingWaits, ?xb_NothingWaits, ?xc_NothingWaits, ?xd_NothingWaits, ?xe_NothingWaits, ?xf_NothingWaits, ?xg_NothingWaits, ?xh_NothingWaits⟩,
      kv_NothingWaits := ?kv_NothingWaits,
      xs_NothingWaits := PySem.W.exm_ref ?m1_NothingWaits ?m2_NothingWaits ?m3_NothingWaits ?m4_NothingWaits,
      k_NothingWaits_BadDisk := ?k_NothingWaits_BadDisk,
      k_NothingWaits_NoBlock := ?k_NothingWaits_NoBlock,
      k_NothingWaits_NoContent := ?k_NothingWaits_NoContent,
      k_NothingWaits_NothingWaits := ?k_NothingWaits_NothingWaits,
      k_NothingWaits_NoNumber := ?k_NothingWaits_NoNumber,
      x_NoNumber := ⟨?xa_NoNumber, ?xb_NoNumber, ?xc_NoNumber, ?xd_NoNumber, ?xe_NoNumber, ?xf_NoNumber, ?xg_NoNumber, ?xh_NoNumber⟩,
      kv_NoNumber := ?kv_NoNumber,
      xs_NoNumber := PySem.W.exm_ref ?m1_NoNumber ?m2_NoNumber ?m3_NoNumber ?m4_NoNumber,
      k_NoNumber_BadDisk := ?k_NoNumber_BadDisk,
      k_NoNumber_NoBlock := ?k_NoNumber_NoBlock,
      k_NoNumber_NoContent := ?k_NoNumber_NoContent,
      k_NoNumber_NothingWaits := ?k_NoNumber_NothingWaits,
      k_NoNumber_NoNumber := ?k_NoNumber_NoNumber,
      dst := ?dst }) ?dA ?dB ?dC ?dD ?dE ?dF ?dG ?dH
    (case ka_Disk => k_is); (case kb_Disk => k_is); (case kc_Disk => k_is); (case kd_Disk => k_is); (case ke_Disk => k_is); (case kf_Disk => k_is); (case kg_Disk => k_is)
    (case ma_Disk_init => k_is); (case mi_Disk_init => k_is); (case ml_Disk_init => k_is); (case mc_Disk_init => k_is); (case mk_Disk_init => k_is)
    (case ma_Disk_blocks => k_is); (case mi_Disk_blocks => k_is); (case ml_Disk_blocks => k_is); (case mc_Disk_blocks => k_is); (case mk_Disk_blocks => k_is)
    (case ma_Disk_write => k_is); (case mi_Disk_write => k_is); (case ml_Disk_write => k_is); (case mc_Disk_write => k_is); (case mk_Disk_write => k_is)
    (case ma_Disk_read => k_is); (case mi_Disk_read => k_is); (case ml_Disk_read => k_is); (case mc_Disk_read => k_is); (case mk_Disk_read => k_is)
    (case ma_Disk_reach => k_is); (case mi_Disk_reach => k_is); (case ml_Disk_reach => k_is); (case mc_Disk_reach => k_is); (case mk_Disk_reach => k_is)
    (case ma_Disk_force => k_is); (case mi_Disk_force => k_is); (case ml_Disk_force => k_is); (case mc_Disk_force => k_is); (case mk_Disk_force => k_is)
    (case ma_Disk_calm => k_is); (case mi_Disk_calm => k_is); (case ml_Disk_calm => k_is); (case mc_Disk_calm => k_is); (case mk_Disk_calm => k_is)
    (case ma_Disk_power => k_is); (case mi_Disk_power => k_is); (case ml_Disk_power => k_is); (case mc_Disk_power => k_is); (case mk_Disk_power => k_is)
    (case ma_Disk_cut => k_is); (case mi_Disk_cut => k_is); (case ml_Disk_cut => k_is); (case mc_Disk_cut => k_is); (case mk_Disk_cut => k_is)
    (case ma_Disk_waiting => k_is); (case mi_Disk_waiting => k_is); (case ml_Disk_waiting => k_is); (case mc_Disk_waiting => k_is); (case mk_Disk_waiting => k_is)
    (case ma_Disk_lying => k_is); (case mi_Disk_lying => k_is); (case ml_Disk_lying => k_is); (case mc_Disk_lying => k_is); (case mk_Disk_lying => k_is)
    (case ma_Disk_reached => k_is); (case mi_Disk_reached => k_is); (case ml_Disk_reached => k_is); (case mc_Disk_reached => k_is); (case mk_Disk_reached => k_is)
    (case ma_Disk_copy => k_is); (case mi_Disk_copy => k_is); (case ml_Disk_copy => k_is); (case mc_Disk_copy => k_is); (case mk_Disk_copy => k_is)
    (case ma_Disk__need_block => k_is); (case mi_Disk__need_block => k_is); (case ml_Disk__need_block => k_is); (case mc_Disk__need_block => k_is); (case mk_Disk__need_block => k_is)
    (case ma_Disk__reach_one => k_is); (case mi_Disk__reach_one => k_is); (case ml_Disk__reach_one => k_is); (case mc_Disk__reach_one => k_is); (case mk_Disk__reach_one => k_is)
    (case na_Disk__lies => k_is)
    (case na_Disk__waits => k_is)
    (case na_Disk__power => k_is)
    (case na_Disk__reached => k_is)
    (case ea_Stopped => k_is); (case ei_Stopped => k_is); (case eh_Stopped => exact rfl); (case il => k_is); (case ic => k_is); (case ik => k_is); (case vV => k_is)
    (case el_Stopped => k_is); (case eb_Stopped => decide +kernel); (case es_Stopped => k_is); (case ex_Stopped => k_is); (case et_Stopped => k_is); (case ek_Stopped => k_is); (case ef_Stopped => k_is); (case ec_Stopped => k_is); (case ee_Stopped => k_is)
    (case ea_NothingWaits => k_is); (case ei_NothingWaits => k_is); (case eh_NothingWaits => exact rfl)
    (case el_NothingWaits => k_is); (case eb_NothingWaits => decide +kernel); (case es_NothingWaits => k_is); (case ex_NothingWaits => k_is); (case et_NothingWaits => k_is); (case ek_NothingWaits => k_is); (case ef_NothingWaits => k_is); (case ec_NothingWaits => k_is); (case ee_NothingWaits => k_is)
    (case ea_BadDisk => k_is); (case ei_BadDisk => k_is); (case eh_BadDisk => exact rfl)
    (case el_BadDisk => k_is); (case eb_BadDisk => decide +kernel); (case es_BadDisk => k_is); (case ex_BadDisk => k_is); (case et_BadDisk => k_is); (case ek_BadDisk => k_is); (case ef_BadDisk => k_is); (case ec_BadDisk => k_is); (case ee_BadDisk => k_is)
    (case ea_NoBlock => k_is); (case ei_NoBlock => k_is); (case eh_NoBlock => exact rfl)
    (case el_NoBlock => k_is); (case eb_NoBlock => decide +kernel); (case es_NoBlock => k_is); (case ex_NoBlock => k_is); (case et_NoBlock => k_is); (case ek_NoBlock => k_is); (case ef_NoBlock => k_is); (case ec_NoBlock => k_is); (case ee_NoBlock => k_is)
    (case ea_NoContent => k_is); (case ei_NoContent => k_is); (case eh_NoContent => exact rfl)
    (case el_NoContent => k_is); (case eb_NoContent => decide +kernel); (case es_NoContent => k_is); (case ex_NoContent => k_is); (case et_NoContent => k_is); (case ek_NoContent => k_is); (case ef_NoContent => k_is); (case ec_NoContent => k_is); (case ee_NoContent => k_is)
    (case ea_NoNumber => k_is); (case ei_NoNumber => k_is); (case eh_NoNumber => exact rfl)
    (case el_NoNumber => k_is); (case eb_NoNumber => decide +kernel); (case es_NoNumber => k_is); (case ex_NoNumber => k_is); (case et_NoNumber => k_is); (case ek_NoNumber => k_is); (case ef_NoNumber => k_is); (case ec_NoNumber => k_is); (case ee_NoNumber => k_is)
    (case gn_StoreError => k_is)
    (case a0 => k_is); (case l0 => k_is); (case c0 => k_is); (case k0 => k_is)
    (case a1 => k_is); (case l1 => k_is); (case c1 => k_is); (case k1 => k_is)
    (case a2 => k_is); (case l2 => k_is); (case c2 => k_is); (case k2 => k_is)
    (case a3 => k_is); (case l3 => k_is); (case c3 => k_is); (case k3 => k_is)
    (case a4 => k_is); (case l4 => k_is); (case c4 => k_is); (case k4 => k_is)
    (case a5 => k_is); (case l5 => k_is); (case c5 => k_is); (case k5 => k_is)
    (case a6 => k_is); (case l6 => k_is); (case c6 => k_is); (case k6 => k_is)
    (case a7 => k_is); (case l7 => k_is); (case c7 => k_is); (case k7 => k_is)
    (case a8 => k_is); (case l8 => k_is); (case c8 => k_is); (case k8 => k_is)
    (case a9 => k_is); (case l9 => k_is); (case c9 => k_is); (case k9 => k_is)
    (case a10 => k_is); (case l10 => k_is); (case c10 => k_is); (case k10 => k_is)
    (case a11 => k_is); (case l11 => k_is); (case c11 => k_is); (case k11 => k_is)
    (case a12 => k_is); (case l12 => k_is); (case c12 => k_is); (case k12 => k_is)
    (case a13 => k_is); (case l13 => k_is); (case c13 => k_is); (case k13 => k_is)
    (case a14 => k_is); (case l14 => k_is); (case c14 => k_is); (case k14 => k_is)
    (case a15 => k_is); (case l15 => k_is); (case c15 => k_is); (case k15 => k_is)
    (case a16 => k_is); (case l16 => k_is); (case c16 => k_is); (case k16 => k_is)
    (case a17 => k_is); (case l17 => k_is); (case c17 => k_is); (case k17 => k_is)
    (case a18 => k_is); (case l18 => k_is); (case c18 => k_is); (case k18 => k_is)
    (case a19 => k_is); (case l19 => k_is); (case c19 => k_is); (case k19 => k_is)
    (case a20 => k_is); (case l20 => k_is); (case c20 => k_is); (case k20 => k_is)
    (case a21 => k_is); (case l21 => k_is); (case c21 => k_is); (case k21 => k_is)
    (case a22 => k_is); (case l22 => k_is); (case c22 => k_is); (case k22 => k_is)
    (case a23 => k_is); (case l23 => k_is); (case c23 => k_is); (case k23 => k_is)
    (case a24 => k_is); (case l24 => k_is); (case c24 => k_is); (case k24 => k_is)
    (case a25 => k_is); (case l25 => k_is); (case c25 => k_is); (case k25 => k_is)
    (case a26 => k_is); (case l26 => k_is); (case c26 => k_is); (case k26 => k_is)
    (case a27 => k_is); (case l27 => k_is); (case c27 => k_is); (case k27 => k_is); (case lc27 => k_is); (case p27 => exact rfl); (case nP27 => first | exact rfl | kernel_rfl | decide +kernel)
    (case z_ValueError => k_is)
    (case z_abs => k_is)
    (case z_all => k_is)
    (case z_bool => k_is)
    (case z_dict => k_is)
    (case z_int => k_is)
    (case z_isinstance => k_is)
    (case z_len => k_is)
    (case z_list => k_is)
    (case z_range => k_is)
    (case z_sorted => k_is)
    (case z_str => k_is)
    (case z_tuple => k_is)
    (case z_zip => k_is)
    (case q_GREATEST_ITEM => k_is); (case r_GREATEST_ITEM => exact ⟨_, rfl⟩)
    (case q_LONGEST_WORD => k_is); (case r_LONGEST_WORD => exact ⟨_, rfl⟩)
    (case q_LEAST_BLOCKS => k_is); (case r_LEAST_BLOCKS => exact ⟨_, rfl⟩)
    (case q_MOST_BLOCKS => k_is); (case r_MOST_BLOCKS => exact ⟨_, rfl⟩)
    (case q_MOST_ITEMS => k_is); (case r_MOST_ITEMS => exact ⟨_, rfl⟩)
    (case q_MOST_POWER => k_is); (case r_MOST_POWER => exact ⟨_, rfl⟩)
    (case xa_BadDisk => (try dsimp only [Vw.excAt_mk, Vw.gRef_mk]); k_is); (case xb_BadDisk => (try dsimp only [Vw.excAt_mk, Vw.gRef_mk]); k_is); (case xc_BadDisk => (try dsimp only [Vw.excAt_mk, Vw.gRef_mk]); k_is); (case xd_BadDisk => (try dsimp only [Vw.excAt_mk, Vw.gRef_mk]); k_is); (case xe_BadDisk => (try dsimp only [Vw.excAt_mk, Vw.gRef_mk]); k_is); (case xf_BadDisk => (try dsimp only [Vw.excAt_mk, Vw.gRef_mk]); k_is); (case xg_BadDisk => (try dsimp only [Vw.excAt_mk, Vw.gRef_mk]); k_is); (case xh_BadDisk => (try dsimp only [Vw.excAt_mk, Vw.gRef_mk]); k_is); (case kv_BadDisk => (try dsimp only [Vw.excAt_mk, Vw.gRef_mk]); kit_is); (case m1_BadDisk => (try dsimp only [Vw.excAt_mk, Vw.gRef_mk]); k_is); (case m2_BadDisk => (try dsimp only [Vw.excAt_mk, Vw.gRef_mk]); k_is); (case m3_BadDisk => (try dsimp only [Vw.excAt_mk, Vw.gRef_mk]); k_is); (case m4_BadDisk => (try dsimp only [Vw.excAt_mk, Vw.gRef_mk]); k_is)
    (case k_BadDisk_BadDisk => (try dsimp only [Vw.excAt_mk, Vw.gRef_mk]); kit_is)
    (case k_BadDisk_NoBlock => (try dsimp only [Vw.excAt_mk, Vw.gRef_mk]); kit_is)
    (case k_BadDisk_NoContent => (try dsimp only [Vw.excAt_mk, Vw.gRef_mk]); kit_is)
    (case k_BadDisk_NothingWaits => (try dsimp only [Vw.excAt_mk, Vw.gRef_mk]); kit_is)
    (case k_BadDisk_NoNumber => (try dsimp only [Vw.excAt_mk, Vw.gRef_mk]); kit_is)
    (case xa_NoBlock => (try dsimp only [Vw.excAt_mk, Vw.gRef_mk]); k_is); (case xb_NoBlock => (try dsimp only [Vw.excAt_mk, Vw.gRef_mk]); k_is); (case xc_NoBlock => (try dsimp only [Vw.excAt_mk, Vw.gRef_mk]); k_is); (case xd_NoBlock => (try dsimp only [Vw.excAt_mk, Vw.gRef_mk]); k_is); (case xe_NoBlock => (try dsimp only [Vw.excAt_mk, Vw.gRef_mk]); k_is); (case xf_NoBlock => (try dsimp only [Vw.excAt_mk, Vw.gRef_mk]); k_is); (case xg_NoBlock => (try dsimp only [Vw.excAt_mk, Vw.gRef_mk]); k_is); (case xh_NoBlock => (try dsimp only [Vw.excAt_mk, Vw.gRef_mk]); k_is); (case kv_NoBlock => (try dsimp only [Vw.excAt_mk, Vw.gRef_mk]); kit_is); (case m1_NoBlock => (try dsimp only [Vw.excAt_mk, Vw.gRef_mk]); k_is); (case m2_NoBlock => (try dsimp only [Vw.excAt_mk, Vw.gRef_mk]); k_is); (case m3_NoBlock => (try dsimp only [Vw.excAt_mk, Vw.gRef_mk]); k_is); (case m4_NoBlock => (try dsimp only [Vw.excAt_mk, Vw.gRef_mk]); k_is)
    (case k_NoBlock_BadDisk => (try dsimp only [Vw.excAt_mk, Vw.gRef_mk]); kit_is)
    (case k_NoBlock_NoBlock => (try dsimp only [Vw.excAt_mk, Vw.gRef_mk]); kit_is)
    (case k_NoBlock_NoContent => (try dsimp only [Vw.excAt_mk, Vw.gRef_mk]); kit_is)
    (case k_NoBlock_NothingWaits => (try dsimp only [Vw.excAt_mk, Vw.gRef_mk]); kit_is)
    (case k_NoBlock_NoNumber => (try dsimp only [Vw.excAt_mk, Vw.gRef_mk]); kit_is)
    (case xa_NoContent => (try dsimp only [Vw.excAt_mk, Vw.gRef_mk]); k_is); (case xb_NoContent => (try dsimp only [Vw.excAt_mk, Vw.gRef_mk]); k_is); (case xc_NoContent => (try dsimp only [Vw.excAt_mk, Vw.gRef_mk]); k_is); (case xd_NoContent => (try dsimp only [Vw.excAt_mk, Vw.gRef_mk]); k_is); (case xe_NoContent => (try dsimp only [Vw.excAt_mk, Vw.gRef_mk]); k_is); (case xf_NoContent => (try dsimp only [Vw.excAt_mk, Vw.gRef_mk]); k_is); (case xg_NoContent => (try dsimp only [Vw.excAt_mk, Vw.gRef_mk]); k_is); (case xh_NoContent => (try dsimp only [Vw.excAt_mk, Vw.gRef_mk]); k_is); (case kv_NoContent => (try dsimp only [Vw.excAt_mk, Vw.gRef_mk]); kit_is); (case m1_NoContent => (try dsimp only [Vw.excAt_mk, Vw.gRef_mk]); k_is); (case m2_NoContent => (try dsimp only [Vw.excAt_mk, Vw.gRef_mk]); k_is); (case m3_NoContent => (try dsimp only [Vw.excAt_mk, Vw.gRef_mk]); k_is); (case m4_NoContent => (try dsimp only [Vw.excAt_mk, Vw.gRef_mk]); k_is)
    (case k_NoContent_BadDisk => (try dsimp only [Vw.excAt_mk, Vw.gRef_mk]); kit_is)
    (case k_NoContent_NoBlock => (try dsimp only [Vw.excAt_mk, Vw.gRef_mk]); kit_is)
    (case k_NoContent_NoContent => (try dsimp only [Vw.excAt_mk, Vw.gRef_mk]); kit_is)
    (case k_NoContent_NothingWaits => (try dsimp only [Vw.excAt_mk, Vw.gRef_mk]); kit_is)
    (case k_NoContent_NoNumber => (try dsimp only [Vw.excAt_mk, Vw.gRef_mk]); kit_is)
    (case xa_NothingWaits => (try dsimp only [Vw.excAt_mk, Vw.gRef_mk]); k_is); (case xb_NothingWaits => (try dsimp only [Vw.excAt_mk, Vw.gRef_mk]); k_is); (case xc_NothingWaits => (try dsimp only [Vw.excAt_mk, Vw.gRef_mk]); k_is); (case xd_NothingWaits => (try dsimp only [Vw.excAt_mk, Vw.gRef_mk]); k_is); (case xe_NothingWaits => (try dsimp only [Vw.excAt_mk, Vw.gRef_mk]); k_is); (case xf_NothingWaits => (try dsimp only [Vw.excAt_mk, Vw.gRef_mk]); k_is); (case xg_NothingWaits => (try dsimp only [Vw.excAt_mk, Vw.gRef_mk]); k_is); (case xh_NothingWaits => (try dsimp only [Vw.excAt_mk, Vw.gRef_mk]); k_is); (case kv_NothingWaits => (try dsimp only [Vw.excAt_mk, Vw.gRef_mk]); kit_is); (case m1_NothingWaits => (try dsimp only [Vw.excAt_mk, Vw.gRef_mk]); k_is); (case m2_NothingWaits => (try dsimp only [Vw.excAt_mk, Vw.gRef_mk]); k_is); (case m3_NothingWaits => (try dsimp only [Vw.excAt_mk, Vw.gRef_mk]); k_is); (case m4_NothingWaits => (try dsimp only [Vw.excAt_mk, Vw.gRef_mk]); k_is)
    (case k_NothingWaits_BadDisk => (try dsimp only [Vw.excAt_mk, Vw.gRef_mk]); kit_is)
    (case k_NothingWaits_NoBlock => (try dsimp only [Vw.excAt_mk, Vw.gRef_mk]); kit_is)
    (case k_NothingWaits_NoContent => (try dsimp only [Vw.excAt_mk, Vw.gRef_mk]); kit_is)
    (case k_NothingWaits_NothingWaits => (try dsimp only [Vw.excAt_mk, Vw.gRef_mk]); kit_is)
    (case k_NothingWaits_NoNumber => (try dsimp only [Vw.excAt_mk, Vw.gRef_mk]); kit_is)
    (case xa_NoNumber => (try dsimp only [Vw.excAt_mk, Vw.gRef_mk]); k_is); (case xb_NoNumber => (try dsimp only [Vw.excAt_mk, Vw.gRef_mk]); k_is); (case xc_NoNumber => (try dsimp only [Vw.excAt_mk, Vw.gRef_mk]); k_is); (case xd_NoNumber => (try dsimp only [Vw.excAt_mk, Vw.gRef_mk]); k_is); (case xe_NoNumber => (try dsimp only [Vw.excAt_mk, Vw.gRef_mk]); k_is); (case xf_NoNumber => (try dsimp only [Vw.excAt_mk, Vw.gRef_mk]); k_is); (case xg_NoNumber => (try dsimp only [Vw.excAt_mk, Vw.gRef_mk]); k_is); (case xh_NoNumber => (try dsimp only [Vw.excAt_mk, Vw.gRef_mk]); k_is); (case kv_NoNumber => (try dsimp only [Vw.excAt_mk, Vw.gRef_mk]); kit_is); (case m1_NoNumber => (try dsimp only [Vw.excAt_mk, Vw.gRef_mk]); k_is); (case m2_NoNumber => (try dsimp only [Vw.excAt_mk, Vw.gRef_mk]); k_is); (case m3_NoNumber => (try dsimp only [Vw.excAt_mk, Vw.gRef_mk]); k_is); (case m4_NoNumber => (try dsimp only [Vw.excAt_mk, Vw.gRef_mk]); k_is)
    (case k_NoNumber_BadDisk => (try dsimp only [Vw.excAt_mk, Vw.gRef_mk]); kit_is)
    (case k_NoNumber_NoBlock => (try dsimp only [Vw.excAt_mk, Vw.gRef_mk]); kit_is)
    (case k_NoNumber_NoContent => (try dsimp only [Vw.excAt_mk, Vw.gRef_mk]); kit_is)
    (case k_NoNumber_NothingWaits => (try dsimp only [Vw.excAt_mk, Vw.gRef_mk]); kit_is)
    (case k_NoNumber_NoNumber => (try dsimp only [Vw.excAt_mk, Vw.gRef_mk]); kit_is)
    (case dst => first | exact List.nodup_cons.mpr ⟨(fun h => nomatch h), List.nodup_nil⟩ | decide)
    (case dA => (try dsimp only); k_is); (case dB => k_is); (case dC => k_is); (case dD => (try dsimp only); k_is); (case dE => (try dsimp only); kit_is); (case dF => (try dsimp only); kit_is); (case dG => (try dsimp only); kit_is); (case dH => (try dsimp only); kit_is)

import PyProof.Rows.All
import Wide.All
import OpenK.AllK
import Wide.FinOn
import HandS.ForMost
import HandS.IsInst
import HandS.SortInts
import HandS.DictComp
import HandS.Rev
import HandS.Strs
import HandS.SetFor
import HandS.Wide
import HandS.TupAny
import HandS.Evl
import KE.GoesEnum
import HandS.Walk
import HandS.Style
import HandS.Zip
import HandS.Zip0
import HandS.WordsDict
import HandS.Dict
import HandS.StrMore
import HandS.SetKeys
import HandS.Text
import HandS.ExcInit
import HandS.ExcOwn
import HandS.WordsExc
import HandS.TryOnly
import HandS.Small
import HandS.Codes
import PyProof.AutoSeq1
import HandS.Lambda
import HandS.TryMany
import HandS.EndOwn
import KE.KNest
import HandS.More
import HandS.ExcIs
import HandS.TupMul
import PyProof.StrOps2
import HandS.ListEq
import HandS.DictEq
import HandS.DeepEq
import HandS.Comp
import PyProof.Rows.ListMulArg
import PyProof.ReprRoads
import HandS.ListItems
import PyProof.DictUpdate
import HandS.ExcField
import PyProof.Rows.ReprOcc
import HandS.Nested
import KE.KeyNested
import HandS.Conv
import PySem.Challenge.RW_wholeways_k29_whole_transactions_over_a
set_option Elab.async false
set_option linter.all false
set_option maxRecDepth 100000
set_option maxHeartbeats 4000000
namespace Vw
open PySem PySem.Spec PyProof.Rows L2 RT

/-! ### operators of more than one kind -/
section
variable {X : Cx}
def rOr (r r' : R2) : R2 := fun x y H Q => r x y H Q ∨ r' x y H Q
theorem oOr {f : Value → Value → Sem Value} {r r' : R2} (a : OpR X f r) (b : OpR X f r') : OpR X f (rOr r r') := by
  intro pins s σ H x y v u Q I rx ry q
  cases q with
  | inl q => exact a pins s σ H x y v u Q I rx ry q
  | inr q => exact b pins s σ H x y v u Q I rx ry q
def cOr (r r' : List V → Hp → VK → Prop) : List V → Hp → VK → Prop := fun x H Q => r x H Q ∨ r' x H Q
theorem kOr {f : Value} {r r' : List V → Hp → VK → Prop} (a : CallR X f r) (b : CallR X f r') : CallR X f (cOr r r') := by
  intro pins s σ H xs us Q I rx q
  cases q with
  | inl q => exact a pins s σ H xs us Q I rx q
  | inr q => exact b pins s σ H xs us Q I rx q
abbrev rIAdd : R2 := rI0 fun i j => .int (i + j)
abbrev rSAdd' : R2 := fun x y H Q => ∃ i j, x = .str i ∧ y = .str j ∧ i.length + j.length ≤ sizeLine ∧ Q (.str (i ++ j)) H
theorem oAdd : OpR X (binaryOp .Add) (rOr rIAdd (rOr rCat rSAdd')) := oOr op_add (oOr op_cat op_add_str)
abbrev rIMul : R2 := rI CMul fun i j => .int (i * j)
theorem oMul : OpR X (binaryOp .Mult) (rOr rIMul rRep) := oOr op_mul op_rep
theorem oLt : OpR X (compareOp .Lt) (rI0 fun i j => .bl (decide (i < j))) := op_lt
variable {K : PySem.W.Frag}
theorem oEq (hu : X.A.units + 64 < cLine) (e : X.K = K := by rfl) : OpR X (compareOp .Eq) (rOr rEq (rEqD K)) := by cases e; exact oOr op_eq (op_eqD hu)
theorem oNe (hu : X.A.units + 64 < cLine) (e : X.K = K := by rfl) : OpR X (compareOp .NotEq) (rOr rNe (rNeD K)) := by cases e; exact oOr op_ne (op_neD hu)
theorem oIn (e : X.K = K := by rfl) : OpR X (compareOp .In) (rIn K false) := by cases e; exact op_in_seq
theorem oNotIn (e : X.K = K := by rfl) : OpR X (compareOp .NotIn) (rIn K true) := by cases e; exact op_notIn_seq
abbrev rIxLT (K : PySem.W.Frag) : R2 := fun x y H Q => rIxL K x y H Q ∨ rIxT K x y H Q
theorem ixLT (e : X.K = K := by rfl) : IxR X (rIxLT K) := by cases e; exact IxR.or ix_list ix_tup
def rLen' (K : PySem.W.Frag) : List V → Hp → VK → Prop := fun xs H Q => ∃ x n, xs = [x] ∧ LenV K x H n ∧ Q (.int n) H
theorem cLen (e : X.K = K := by rfl) : CallR X (.builtin "len") (rLen' K) := by cases e; exact call_len
theorem cIsi (e : X.K = K := by rfl) : CallR X (.builtin "isinstance") (rIsi K) := by cases e; exact call_isi
theorem cIsiT (e : X.K = K := by rfl) : CallR X (.builtin "isinstance") (rIsiT K) := by cases e; exact call_isiT
def rIsN0 : R2 := fun x y H Q => y = .non ∧ Q (.bl (decide (x = .non))) H
def rNoN0 : R2 := fun x y H Q => y = .non ∧ Q (.bl (!decide (x = .non))) H
theorem oIsN : OpR X (compareOp .Is) rIsN0 := op_isN
theorem oNotN : OpR X (compareOp .IsNot) rNoN0 := op_notN
theorem cAll (hc : X.calm = true) (e : X.K = K := by rfl) : CallR X (.builtin "all") (rAll K) := by cases e; exact cr_all hc
theorem cAny (hc : X.calm = true) (e : X.K = K := by rfl) : CallR X (.builtin "any") (rAny K) := by cases e; exact cr_any hc
theorem cSortI (e : X.K = K := by rfl) : CallR X (.builtin "sorted") (rSortedI K) := by cases e; exact cr_sortedI
def rListOf (K : PySem.W.Frag) : List V → Hp → VK → Prop := fun xs H Q => ∃ p ys, xs = [.ref p] ∧ (SqL K H p ys ∨ SqT K H p ys) ∧ ∀ l, H l = none → Q (.ref l) (upd H l (.lst ys))
theorem cListOf (e : X.K = K := by rfl) : CallR X (.type "list") (rListOf K) := by cases e; exact call_list_of
def rTupOf (K : PySem.W.Frag) : List V → Hp → VK → Prop := fun xs H Q => ∃ p ys, xs = [.ref p] ∧ ((SqL K H p ys ∧ ∀ l, H l = none → Q (.ref l) (upd H l (.tup ys))) ∨ (SqT K H p ys ∧ Q (.ref p) H))
theorem cTupOf (e : X.K = K := by rfl) : CallR X (.type "tuple") (rTupOf K) := by cases e; exact call_tuple_of
def rInt1 : List V → Hp → VK → Prop := fun xs H Q => (∃ i, xs = [.int i] ∧ Q (.int i) H) ∨ ∃ k, xs = [.bl k] ∧ Q (.int (if k then 1 else 0)) H
theorem cInt : CallR X (.type "int") rInt1 := call_int1
def rAbs : List V → Hp → VK → Prop := fun xs H Q => ∃ i, xs = [.int i] ∧ Q (.int (if i < 0 then -i else i)) H
theorem cAbs : CallR X (.builtin "abs") rAbs := call_abs
def rMin2 : List V → Hp → VK → Prop := fun xs H Q => ∃ i j, xs = [.int i, .int j] ∧ Q (.int (if j < i then j else i)) H
theorem cMin2 (hc : X.calm = true) : CallR X (.builtin "min") rMin2 := call_min2 hc
def rMax2 : List V → Hp → VK → Prop := fun xs H Q => ∃ i j, xs = [.int i, .int j] ∧ Q (.int (if j > i then j else i)) H
theorem cMax2 (hc : X.calm = true) : CallR X (.builtin "max") rMax2 := call_max2 hc
theorem slL (e : X.K = K := by rfl) : SlR X (rSlL K) := by cases e; exact sl_list
theorem piL {tg l : Expr} {tl : TE} (hl : PE X l tl) (e : X.K = K := by rfl) : PI X tg l (iList K tl) := by cases e; exact pi_list hl
theorem piT {tg l : Expr} {tl : TE} (hl : PE X l tl) (e : X.K = K := by rfl) : PI X tg l (iTup K tl) := by cases e; exact pi_tup hl
theorem piEnum {ex : Expr} {ta : TA} {p pos tpos : Pos} {elts : List Expr} {kk : Nat} (hg : Gl X "enumerate") (hm : X.mg "enumerate" = none) (ha : PA X [ex] ta) (e : X.K = K := by rfl) (hs : starEach [ex] X.env = [(false, eval ex X.env)] := by rfl) :
    PI X (.Tuple elts kk tpos) (.Call (.Name "enumerate" p) [ex] [] pos) (iEnum K ta) := by cases e; exact pi_enum hg hm ha hs
theorem piRev {tg ex : Expr} {te : TE} {p pos : Pos} (hg : Gl X "reversed") (hm : X.mg "reversed" = none) (he : PE X ex te) (e : X.K = K := by rfl) (hs : starEach [ex] X.env = (false, eval ex X.env) :: starEach [] X.env := by rfl) :
    PI X tg (.Call (.Name "reversed" p) [ex] [] pos) (iRevA K te) := by cases e; exact pi_revA hg hm he hs
theorem pgTup {es : List Expr} {k : Nat} {t : TGs} {n : Nat} {p : Pos} (h : PG X (.Tuple es k p) (gTup X.K n t)) (e : X.K = K := by rfl) : PG X (.Tuple es k p) (gTup K n t) := by cases e; exact h
theorem peApp {o ex : Expr} {to te : TE} {apos cpos : Pos} (h : PE X (.Call (.Attribute o "append" apos) [ex] [] cpos) (tBM X.K "list" rAppend to (tCons te tNil))) (e : X.K = K := by rfl) :
    PE X (.Call (.Attribute o "append" apos) [ex] [] cpos) (tBM K "list" rAppend to (tCons te tNil)) := by cases e; exact h
def tTruE (K : PySem.W.Frag) (ta : TE) : TT := fun σ H Q => ta σ H fun x H' => ∃ k, TruV K x H' k ∧ Q k H'
theorem ptTruth {a : Expr} {ta : TE} (ha : PE X a ta) (he : ∀ whole, isTrue a X.env whole = (do let v ← whole; standAt a.pos; holding [v] (truthy v))) (e : X.K = K := by rfl) : PT X a (tTruE K ta) := by cases e; exact pt_truth ha he
end

/-! ### heaps -/
theorem Same.new {H : Hp} {p : Addr} {o : HO} (h : H p = none) : Same H (upd H p o) := fun b x e => by
  rw [upd_ne (ne_of_none e h)]; exact e
theorem at_ {H H' : Hp} {a : Addr} {o : HO} (s : Same H H') (h : H a = some o) : H' a = some o := s a o h
theorem rd_ {H H' : Hp} {a : Addr} {o : HO} (s : Same H H') (h : Rd H a o) : Rd H' a o := by
  cases h with
  | inl h => exact .inl (s _ _ h)
  | inr h => exact .inr (h.elim fun u q => ⟨u, s _ _ q⟩)
section
variable {K : PySem.W.Frag} {H H' : Hp} {a p : Addr} {xs : List V} {o : HO}
theorem sl_ (s : Same H H') (h : SqL K H a xs) : SqL K H' a xs := h.elim (fun q => .inl (rd_ s q)) .inr
theorem st_ (s : Same H H') (h : SqT K H a xs) : SqT K H' a xs := h.elim (fun q => .inl (rd_ s q)) .inr
theorem slO (h : H a = some (.lst xs)) : SqL K H a xs := .inl (.inl h)
theorem stO (h : H a = some (.tup xs)) : SqT K H a xs := .inl (.inl h)
theorem ne_new (h : H a = some o) (n : H p = none) : a ≠ p := ne_of_none h n
theorem free_ (s : Same H H') (n : H' p = none) : H p = none := s.free n
end
theorem lt_size {n : Nat} (h : n < 100000) : n < sizeLine := Nat.lt_of_lt_of_le h (by decide)
theorem le_size {n : Nat} (h : n < 100000) : n ≤ sizeLine := Nat.le_of_lt (lt_size h)
/-- a new object, wherever -/
def NewQ (o : HO) (H : Hp) (Q : VK) : Prop := ∀ p, H p = none → Q (.ref p) (upd H p o)
/-- all but one object is as it was -/
def Oth (hd : Addr) (H H' : Hp) : Prop := ∀ b o, b ≠ hd → H b = some o → H' b = some o
theorem oth_sl {K : PySem.W.Frag} {hd a : Addr} {H H' : Hp} {xs : List V} (o : Oth hd H H') (n : a ≠ hd) (s : SqL K H a xs) : SqL K H' a xs := by
  rcases s with (s | ⟨u, s⟩) | s
  · exact .inl (.inl (o _ _ n s))
  · exact .inl (.inr ⟨u, o _ _ n s⟩)
  · exact .inr s
theorem oth_st {K : PySem.W.Frag} {hd a : Addr} {H H' : Hp} {xs ys : List V} (o : Oth hd H H') (n : H hd = some (.lst ys)) (s : SqT K H a xs) : SqT K H' a xs := by
  rcases s with (s | ⟨u, s⟩) | s
  · exact .inl (.inl (o _ _ (fun z => by rw [z, n] at s; cases s) s))
  · exact .inl (.inr ⟨u, o _ _ (fun z => by rw [z, n] at s; cases s) s⟩)
  · exact .inr s
theorem Oth.trans {hd : Addr} {H H1 H2 : Hp} (a : Oth hd H H1) (b : Oth hd H1 H2) : Oth hd H H2 := fun c o n h => b c o n (a c o n h)
theorem Same.oth {hd : Addr} {H H' : Hp} (s : Same H H') : Oth hd H H' := fun c o _ h => s c o h

/-! ### one step of a reading -/
section
variable {K : PySem.W.Frag} {σ : L2.St} {H : Hp} {Q : VK} {QB : Bool → Hp → Prop} {QA : List V → Hp → Prop} {D : Ends} {ta tb te : TE} {t u : TS} {c d : TT} {i : Nat} {v : V} {b : Bool}
theorem s_seq (h : t { D with nx := u D } σ H) : tSeq t u D σ H := h
theorem s_cut (M : L2.St → Hp → Prop) (h : t { D with nx := M } σ H) (k : ∀ σ' H', M σ' H' → u D σ' H') : Evl.tCut t u D σ H := ⟨M, h, k⟩
theorem s_next (h : D.nx σ H) : tNext D σ H := h
theorem s_brk (h : D.bk σ H) : tBreak D σ H := h
theorem s_cont (h : D.ct σ H) : tCont D σ H := h
theorem s_set (h : te σ H fun x H1 => D.nx (σ.set i (some x)) H1) : tAsg te (gName i) D σ H := h
theorem s_asg {g : TG} (h : te σ H fun x H1 => g x σ H1 D.nx) : tAsg te g D σ H := h
theorem s_ret (h : te σ H D.rt) : tRet te D σ H := h
theorem s_retN (h : D.rt .non H) : tRetN D σ H := h
theorem s_drop (h : te σ H fun _ H1 => D.nx σ H1) : tDrop te D σ H := h
theorem s_if (h : c σ H fun b H1 => if b = true then t D σ H1 else u D σ H1) : tIfS c t u D σ H := h
theorem s_aug {ti : TIp} {x : V} (e : σ[i]? = some (some x)) (h : te σ H fun y H1 => ti x y H1 fun z H2 => D.nx (σ.set i (some z)) H2) : tAug i te ti D σ H := ⟨x, e, h⟩
theorem s_ipI {f : Int → Int → Int} {a b : Int} (h : Q (.int (f a b)) H) : ipI f (.int a) (.int b) H Q := ⟨a, b, rfl, rfl, h⟩
theorem e_var (h : σ[i]? = some (some v)) (q : Q v H) : tVar i σ H Q := ⟨v, h, q⟩
theorem e_c (q : Q v H) : tC v σ H Q := q
theorem e_op {r : R2} (h : ta σ H fun x H1 => tb σ H1 fun y H2 => r x y H2 Q) : tOp r ta tb σ H Q := h
theorem e_un {r : V → Hp → VK → Prop} (h : ta σ H fun x H1 => r x H1 Q) : tUn r ta σ H Q := h
theorem e_neg {a : Int} (h : Q (.int (-a)) H) : rU (fun i => V.int (-i)) (.int a) H Q := ⟨a, rfl, h⟩
theorem e_test (h : te σ H fun x H1 => ∃ k, x = .bl k ∧ QB k H1) : tTest te σ H QB := h
theorem e_tB (h : te σ H fun x H1 => ∃ k, x = .bl k ∧ QB k H1) : tB te σ H QB := h
theorem e_bl (q : QB b H) : ∃ k, V.bl b = .bl k ∧ QB k H := ⟨b, rfl, q⟩
theorem e_and (h : c σ H fun b H1 => if b = true then d σ H1 QB else QB false H1) : tAnd c d σ H QB := h
theorem e_or (h : c σ H fun b H1 => if b = true then QB true H1 else d σ H1 QB) : tOr c d σ H QB := h
theorem e_not (h : c σ H fun b H1 => QB (!b) H1) : tNot c σ H QB := h
theorem e_andV (h : ta σ H fun x H1 => ∃ k, x = .bl k ∧ if k = true then tb σ H1 Q else Q (.bl false) H1) : tAndV ta tb σ H Q := h
theorem e_orV (h : ta σ H fun x H1 => ∃ k, x = .bl k ∧ if k = true then Q (.bl true) H1 else tb σ H1 Q) : tOrV ta tb σ H Q := h
theorem e_notV (h : ta σ H fun x H1 => ∃ k, x = .bl k ∧ Q (.bl (!k)) H1) : tNotV ta σ H Q := h
theorem e_kV {P : Bool → Prop} (q : P b) : ∃ k, V.bl b = .bl k ∧ P k := ⟨b, rfl, q⟩
theorem e_ife (h : c σ H fun b H1 => if b = true then ta σ H1 Q else tb σ H1 Q) : tIf c ta tb σ H Q := h
theorem e_nil (q : QA [] H) : tNil σ H QA := q
theorem e_cons {tr : TA} (h : ta σ H fun x H1 => tr σ H1 fun xs H2 => QA (x :: xs) H2) : tCons ta tr σ H QA := h
theorem e_cb {r : List V → Hp → VK → Prop} {tt : TA} (h : tt σ H fun vs H1 => r vs H1 Q) : tCB r tt σ H Q := h
theorem e_call {sp : Sp} {dvs : List V} {E : XK} {tt : TA} (h : tt σ H fun vs H1 => sp (vs ++ dvs) H1 Q E) : tCall sp dvs E tt σ H Q := h
theorem e_chain {r r' : R2} {tc : TE} (h : ta σ H fun x H1 => tb σ H1 fun y H2 => r x y H2 fun z H3 => ∃ k, z = .bl k ∧ if k = true then tc σ H3 fun w H4 => r' y w H4 Q else Q (.bl false) H3) : tChain r r' ta tb tc σ H Q := h
theorem o_l {r r' : R2} {x y : V} (h : r x y H Q) : rOr r r' x y H Q := .inl h
theorem o_r {r r' : R2} {x y : V} (h : r' x y H Q) : rOr r r' x y H Q := .inr h
theorem o_I0 {g : Int → Int → V} {a b : Int} (h : Q (g a b) H) : rI0 g (.int a) (.int b) H Q := ⟨a, b, rfl, rfl, h⟩
theorem o_addI {r' : R2} {a b : Int} (h : Q (.int (a + b)) H) : rOr rIAdd r' (.int a) (.int b) H Q := .inl ⟨a, b, rfl, rfl, h⟩
theorem o_mod {a b : Int} (hb : 0 < b) (h : Q (.int (a % b)) H) : rI (fun _ j => 0 < j) (fun i j => V.int (i % j)) (.int a) (.int b) H Q := ⟨a, b, rfl, rfl, hb, h⟩
theorem o_modL {a b : Int} (hb : 0 < b) (h : ∀ r, 0 ≤ r → r < b → Q (.int r) H) : rI (fun _ j => 0 < j) (fun i j => V.int (i % j)) (.int a) (.int b) H Q := o_mod hb (h _ (Int.emod_nonneg _ (by omega)) (Int.emod_lt_of_pos _ hb))
theorem o_mulR {r' : R2} {a b : Int} (hb : -(2 ^ 64) < b ∧ b < 2 ^ 64) (h : Q (.int (a * b)) H) : rOr rIMul r' (.int a) (.int b) H Q := .inl ⟨a, b, rfl, rfl, .inr hb, h⟩
theorem o_mulL {r' : R2} {a b : Int} (ha : -(2 ^ 64) < a ∧ a < 2 ^ 64) (h : Q (.int (a * b)) H) : rOr rIMul r' (.int a) (.int b) H Q := .inl ⟨a, b, rfl, rfl, .inl ha, h⟩
theorem o_divW {a b : Int} (n : Nat) (hb : 0 < b) (h1 : b < 2 ^ n) (h2 : 0 < n) (h3 : n ≤ 9000) (h : Q (.int (a / b)) H) : rI CDivW (fun i j => V.int (i / j)) (.int a) (.int b) H Q := ⟨a, b, rfl, rfl, wide_div (b := n) hb (by
  have e : ((2 ^ n : Nat) : Int) = (2 : Int) ^ n := by rw [Int.natCast_pow]; rfl
  have : (b.natAbs : Int) = b := by omega
  have h4 : ((b.natAbs : Nat) : Int) < ((2 ^ n : Nat) : Int) := by rw [this, e]; exact h1
  exact Int.ofNat_lt.mp h4) h2 h3, h⟩
theorem o_div {a b : Int} (hb : 0 < b) (h1 : b < 2 ^ 100) (h : Q (.int (a / b)) H) : rI CDivW (fun i j => V.int (i / j)) (.int a) (.int b) H Q := o_divW 100 hb h1 (by decide) (by decide) h
theorem o_pow {a b : Int} (n : Nat) (e : b = (n : Nat)) (h0 : n ≤ 1000000) (h1 : a.natAbs < 2 ^ 64) (h : Q (.int (a ^ n)) H) : rI CPow (fun i j => V.int (i ^ j.toNat)) (.int a) (.int b) H Q := ⟨a, b, rfl, rfl, ⟨by omega, by omega, h1⟩, by
  have e2 : b.toNat = n := by omega
  show Q (.int (a ^ b.toNat)) H
  rw [e2]; exact h⟩
theorem o_pow1 (h : Q (.int 10) H) : rI CPow (fun i j => V.int (i ^ j.toNat)) (.int 10) (.int 1) H Q := o_pow 1 rfl (by decide) (by decide) (by rw [(by decide : (10 : Int) ^ 1 = 10)]; exact h)
theorem o_pow2 (h : Q (.int 100) H) : rI CPow (fun i j => V.int (i ^ j.toNat)) (.int 10) (.int 2) H Q := o_pow 2 rfl (by decide) (by decide) (by rw [(by decide : (10 : Int) ^ 2 = 100)]; exact h)
theorem o_pow3 (h : Q (.int 1000) H) : rI CPow (fun i j => V.int (i ^ j.toNat)) (.int 10) (.int 3) H Q := o_pow 3 rfl (by decide) (by decide) (by rw [(by decide : (10 : Int) ^ 3 = 1000)]; exact h)
theorem o_pow4 (h : Q (.int 10000) H) : rI CPow (fun i j => V.int (i ^ j.toNat)) (.int 10) (.int 4) H Q := o_pow 4 rfl (by decide) (by decide) (by rw [(by decide : (10 : Int) ^ 4 = 10000)]; exact h)
theorem o_pow5 (h : Q (.int 100000) H) : rI CPow (fun i j => V.int (i ^ j.toNat)) (.int 10) (.int 5) H Q := o_pow 5 rfl (by decide) (by decide) (by rw [(by decide : (10 : Int) ^ 5 = 100000)]; exact h)
theorem o_pow6 (h : Q (.int 1000000) H) : rI CPow (fun i j => V.int (i ^ j.toNat)) (.int 10) (.int 6) H Q := o_pow 6 rfl (by decide) (by decide) (by rw [(by decide : (10 : Int) ^ 6 = 1000000)]; exact h)
theorem o_pow9 (h : Q (.int 1000000000) H) : rI CPow (fun i j => V.int (i ^ j.toNat)) (.int 10) (.int 9) H Q := o_pow 9 rfl (by decide) (by decide) (by rw [(by decide : (10 : Int) ^ 9 = 1000000000)]; exact h)
theorem o_pow10 (h : Q (.int 10000000000) H) : rI CPow (fun i j => V.int (i ^ j.toNat)) (.int 10) (.int 10) H Q := o_pow 10 rfl (by decide) (by decide) (by rw [(by decide : (10 : Int) ^ 10 = 10000000000)]; exact h)
theorem o_pow12 (h : Q (.int 1000000000000) H) : rI CPow (fun i j => V.int (i ^ j.toNat)) (.int 10) (.int 12) H Q := o_pow 12 rfl (by decide) (by decide) (by rw [(by decide : (10 : Int) ^ 12 = 1000000000000)]; exact h)
theorem o_pow15 (h : Q (.int 1000000000000000) H) : rI CPow (fun i j => V.int (i ^ j.toNat)) (.int 10) (.int 15) H Q := o_pow 15 rfl (by decide) (by decide) (by rw [(by decide : (10 : Int) ^ 15 = 1000000000000000)]; exact h)
theorem o_pow16 (h : Q (.int 10000000000000000) H) : rI CPow (fun i j => V.int (i ^ j.toNat)) (.int 10) (.int 16) H Q := o_pow 16 rfl (by decide) (by decide) (by rw [(by decide : (10 : Int) ^ 16 = 10000000000000000)]; exact h)
theorem o_pow17 (h : Q (.int 100000000000000000) H) : rI CPow (fun i j => V.int (i ^ j.toNat)) (.int 10) (.int 17) H Q := o_pow 17 rfl (by decide) (by decide) (by rw [(by decide : (10 : Int) ^ 17 = 100000000000000000)]; exact h)
theorem o_pow18 (h : Q (.int 1000000000000000000) H) : rI CPow (fun i j => V.int (i ^ j.toNat)) (.int 10) (.int 18) H Q := o_pow 18 rfl (by decide) (by decide) (by rw [(by decide : (10 : Int) ^ 18 = 1000000000000000000)]; exact h)
theorem o_pow19 (h : Q (.int 10000000000000000000) H) : rI CPow (fun i j => V.int (i ^ j.toNat)) (.int 10) (.int 19) H Q := o_pow 19 rfl (by decide) (by decide) (by rw [(by decide : (10 : Int) ^ 19 = 10000000000000000000)]; exact h)
theorem o_pow20 (h : Q (.int 100000000000000000000) H) : rI CPow (fun i j => V.int (i ^ j.toNat)) (.int 10) (.int 20) H Q := o_pow 20 rfl (by decide) (by decide) (by rw [(by decide : (10 : Int) ^ 20 = 100000000000000000000)]; exact h)
theorem o_pow30 (h : Q (.int 1000000000000000000000000000000) H) : rI CPow (fun i j => V.int (i ^ j.toNat)) (.int 10) (.int 30) H Q := o_pow 30 rfl (by decide) (by decide) (by rw [(by decide : (10 : Int) ^ 30 = 1000000000000000000000000000000)]; exact h)
theorem o_pow31 (h : Q (.int 10000000000000000000000000000000) H) : rI CPow (fun i j => V.int (i ^ j.toNat)) (.int 10) (.int 31) H Q := o_pow 31 rfl (by decide) (by decide) (by rw [(by decide : (10 : Int) ^ 31 = 10000000000000000000000000000000)]; exact h)
theorem set_ {p : Addr} {xs : List V} {k : Int} {j : Nat} {R : Hp → Prop} (h : H p = some (.lst xs)) (e : ixN xs.length k = some j) (q : ∀ H2, Oth p H H2 → H2 p = some (.lst (xs.set j v)) → R H2) : rSetL (.ref p) (.int k) v H R :=
  ⟨p, xs, k, j, rfl, rfl, h, e, q _ (fun b o n z => by rw [upd_ne n]; exact z) upd_same⟩
theorem g_sub {to ti : TE} {tset : TSet} {R : L2.St → Hp → Prop} (h : to σ H fun o H1 => ti σ H1 fun i H2 => tset o i v H2 fun H3 => R σ H3) : gSub to ti tset v σ H R := h
theorem o_eqS {r' : R2} {x y : V} (s : scal x y = true) (h : Q (.bl (decide (x = y))) H) : rOr rEq r' x y H Q := .inl ⟨s, h⟩
theorem o_eqI {r' : R2} {a b : Int} (h : Q (.bl (decide (a = b))) H) : rOr rEq r' (.int a) (.int b) H Q := .inl ⟨rfl, by
  have e : decide (V.int a = V.int b) = decide (a = b) := by
    by_cases q : a = b
    · rw [decide_eq_true q, q]; exact decide_eq_true rfl
    · rw [decide_eq_false q]; exact decide_eq_false fun z => q (V.int.inj z)
  rw [e]; exact h⟩
theorem o_neI {r' : R2} {a b : Int} (h : Q (.bl (decide (a ≠ b))) H) : rOr rNe r' (.int a) (.int b) H Q := .inl ⟨rfl, by
  have e : (!decide (V.int a = V.int b)) = decide (a ≠ b) := by
    by_cases q : a = b
    · rw [decide_eq_false (show ¬ a ≠ b from fun z => z q), q, decide_eq_true rfl] <;> rfl
    · rw [decide_eq_true (show a ≠ b from q), decide_eq_false fun z => q (V.int.inj z)] <;> rfl
  rw [e]; exact h⟩
theorem o_ixL {p : Addr} {xs : List V} {a : Int} (s : SqL K H p xs) (e : atI xs a = some v) (q : Q v H) : rIxLT K (.ref p) (.int a) H Q := .inl ⟨p, xs, a, v, rfl, rfl, s, e, q⟩
theorem o_ixT {p : Addr} {xs : List V} {a : Int} (s : SqT K H p xs) (e : atI xs a = some v) (q : Q v H) : rIxLT K (.ref p) (.int a) H Q := .inr ⟨p, xs, a, v, rfl, rfl, s, e, q⟩
theorem o_ixA {p : Addr} {xs : List V} {a : Int} (s : H p = some (.lst xs)) (e : atI xs a = some v) (q : Q v H) : rIxLT K (.ref p) (.int a) H Q := o_ixL (slO s) e q
theorem o_ixU {p : Addr} {xs : List V} {a : Int} (s : H p = some (.tup xs)) (e : atI xs a = some v) (q : Q v H) : rIxLT K (.ref p) (.int a) H Q := o_ixT (stO s) e q
theorem ixN_in {n : Nat} {z : Int} {j : Nat} (e : z = (j : Nat)) (h : j < n) : ixN n z = some j := by
  unfold ixN
  rw [if_pos (by omega), if_pos (by omega)]
  congr 1; omega
theorem atI_in {α : Type} {xs : List α} {z : Int} {j : Nat} {x : α} (e : z = (j : Nat)) (h : xs[j]? = some x) : atI xs z = some x := by
  have hj : j < xs.length := (List.getElem?_eq_some_iff.mp h).1
  unfold atI
  rw [ixN_in e hj]
  exact h
theorem e_lenL {p : Addr} {xs : List V} (s : SqL K H p xs) (q : Q (.int (xs.length : Nat)) H) : rLen' K [.ref p] H Q := ⟨_, xs.length, rfl, .inl ⟨xs, s, rfl⟩, q⟩
theorem e_lenM {α : Type} {f : α → V} {p : Addr} {xs : List α} (s : SqL K H p (xs.map f)) (q : Q (.int (xs.length : Nat)) H) : rLen' K [.ref p] H Q := e_lenL s (by rw [List.length_map]; exact q)
theorem e_lenN {α : Type} {f : α → V} {p : Addr} {xs : List α} (s : SqT K H p (xs.map f)) (q : Q (.int (xs.length : Nat)) H) : rLen' K [.ref p] H Q := ⟨_, xs.length, rfl, .inr ⟨_, s, by rw [List.length_map]⟩, q⟩
theorem e_lenT {p : Addr} {xs : List V} (s : SqT K H p xs) (q : Q (.int (xs.length : Nat)) H) : rLen' K [.ref p] H Q := ⟨_, xs.length, rfl, .inr ⟨xs, s, rfl⟩, q⟩
theorem i_t {A B : Prop} (hb : b = true) (q : A) : if b = true then A else B := by rw [if_pos hb]; exact q
theorem i_f {A B : Prop} (hb : b = false) (q : B) : if b = true then A else B := by rw [hb]; exact iteF q
theorem i_nt {A B : Prop} (q : B) : if (!true) = true then A else B := q
theorem i_nf {A B : Prop} (q : A) : if (!false) = true then A else B := q
theorem i_dt {p A B : Prop} [Decidable p] (hp : p) (q : A) : if decide p = true then A else B := i_t (decide_eq_true hp) q
theorem i_df {p A B : Prop} [Decidable p] (hp : ¬ p) (q : B) : if decide p = true then A else B := i_f (decide_eq_false hp) q
theorem i_ndt {p A B : Prop} [Decidable p] (hp : ¬ p) (q : A) : if (!decide p) = true then A else B := i_t (by rw [decide_eq_false hp]; rfl) q
theorem i_ndf {p A B : Prop} [Decidable p] (hp : p) (q : B) : if (!decide p) = true then A else B := i_f (by rw [decide_eq_true hp]; rfl) q
theorem i_d {p A B : Prop} [Decidable p] (h1 : p → A) (h2 : ¬ p → B) : if decide p = true then A else B := by
  by_cases hp : p
  · exact i_dt hp (h1 hp)
  · exact i_df hp (h2 hp)
/-- a new list, a new tuple -/
theorem e_lst {tt : TA} (h : tt σ H fun xs H1 => xs.length ≤ sizeLine ∧ NewQ (.lst xs) H1 Q) : tLst tt σ H Q := h
theorem e_tup {tt : TA} (h : tt σ H fun xs H1 => xs.length ≤ sizeLine ∧ NewQ (.tup xs) H1 Q) : tTup tt σ H Q := h
theorem n_new {n : Nat} {o : HO} (hl : n ≤ sizeLine) (h : ∀ p H2, H p = none → Same H H2 → H2 p = some o → Q (.ref p) H2) : n ≤ sizeLine ∧ NewQ o H Q := ⟨hl, fun p hp => h p _ hp (Same.new hp) upd_same⟩
theorem n_new0 {o : HO} (h : ∀ p H2, H p = none → Same H H2 → H2 p = some o → Q (.ref p) H2) : NewQ o H Q := fun p hp => h p _ hp (Same.new hp) upd_same
theorem c_listL {p : Addr} {xs : List V} (s : SqL K H p xs) (q : NewQ (.lst xs) H Q) : rListOf K [.ref p] H Q := ⟨p, xs, rfl, .inl s, q⟩
theorem c_listT {p : Addr} {xs : List V} (s : SqT K H p xs) (q : NewQ (.lst xs) H Q) : rListOf K [.ref p] H Q := ⟨p, xs, rfl, .inr s, q⟩
theorem c_tupL {p : Addr} {xs : List V} (s : SqL K H p xs) (q : NewQ (.tup xs) H Q) : rTupOf K [.ref p] H Q := ⟨p, xs, rfl, .inl ⟨s, q⟩⟩
theorem c_tupT {p : Addr} {xs : List V} (s : SqT K H p xs) (q : Q (.ref p) H) : rTupOf K [.ref p] H Q := ⟨p, xs, rfl, .inr ⟨s, q⟩⟩
theorem isi_ {x : V} {t n : String} {b : Bool} (ty : TyX K H x (.type t)) (e : kitB t n = some b) (q : Q (.bl b) H) : rIsi K [x, .ty n] H Q := ⟨x, .ty n, .type t, .type n, b, rfl, .ty n, ty, kit_ty e, q⟩
theorem isi_int {a : Int} {n : String} (b : Bool) (e : kitB "int" n = some b) (q : Q (.bl b) H) : rIsi K [.int a, .ty n] H Q := isi_ (.base (.int a)) e q
theorem isi_non {n : String} (b : Bool) (e : kitB "NoneType" n = some b) (q : Q (.bl b) H) : rIsi K [.non, .ty n] H Q := isi_ (.base .non) e q
theorem isi_str {z : Str} {n : String} (b : Bool) (e : kitB "str" n = some b) (q : Q (.bl b) H) : rIsi K [.str z, .ty n] H Q := isi_ (.base (.str z)) e q
theorem isi_bl {z : Bool} {n : String} (b : Bool) (e : kitB "bool" n = some b) (q : Q (.bl b) H) : rIsi K [.bl z, .ty n] H Q := isi_ (.base (.bl z)) e q
theorem isi_tup {a : Addr} {xs : List V} {n : String} (b : Bool) (h : H a = some (.tup xs)) (e : kitB "tuple" n = some b) (q : Q (.bl b) H) : rIsi K [.ref a, .ty n] H Q := isi_ (.base (.tup h)) e q
theorem isi_lst {a : Addr} {xs : List V} {n : String} (b : Bool) (h : H a = some (.lst xs)) (e : kitB "list" n = some b) (q : Q (.bl b) H) : rIsi K [.ref a, .ty n] H Q := isi_ (.base (.lst h)) e q
theorem t_bl {PB : Bool → Prop} (q : PB b) : ∃ k, TruV K (.bl b) H k ∧ PB k := ⟨b, rfl, q⟩
theorem t_non {PB : Bool → Prop} (q : PB false) : ∃ k, TruV K .non H k ∧ PB k := ⟨false, rfl, q⟩
theorem t_int {PB : Bool → Prop} {a : Int} (q : PB (decide (a ≠ 0))) : ∃ k, TruV K (.int a) H k ∧ PB k := ⟨_, rfl, by
  have e : (a != 0) = decide (a ≠ 0) := by
    by_cases h : a = 0
    · subst h; rfl
    · rw [decide_eq_true h]; simpa using h
  rw [e]; exact q⟩
theorem t_lst {PB : Bool → Prop} {p : Addr} {xs : List V} (s : SqL K H p xs) (q : PB (!xs.isEmpty)) : ∃ k, TruV K (.ref p) H k ∧ PB k := ⟨_, .inl ⟨xs, s, rfl⟩, q⟩
theorem t_tup {PB : Bool → Prop} {p : Addr} {xs : List V} (s : SqT K H p xs) (q : PB (!xs.isEmpty)) : ∃ k, TruV K (.ref p) H k ∧ PB k := ⟨_, .inr (.inl ⟨xs, s, rfl⟩), q⟩
theorem isN_non (q : Q (.bl true) H) : rIsN0 .non .non H Q := ⟨rfl, q⟩
theorem isN_int {a : Int} (q : Q (.bl false) H) : rIsN0 (.int a) .non H Q := ⟨rfl, q⟩
theorem isN_ref {a : Addr} (q : Q (.bl false) H) : rIsN0 (.ref a) .non H Q := ⟨rfl, q⟩
theorem isN_str {a : Str} (q : Q (.bl false) H) : rIsN0 (.str a) .non H Q := ⟨rfl, q⟩
theorem isN_bl {a : Bool} (q : Q (.bl false) H) : rIsN0 (.bl a) .non H Q := ⟨rfl, q⟩
theorem noN_non (q : Q (.bl false) H) : rNoN0 .non .non H Q := ⟨rfl, q⟩
theorem noN_int {a : Int} (q : Q (.bl true) H) : rNoN0 (.int a) .non H Q := ⟨rfl, q⟩
theorem noN_ref {a : Addr} (q : Q (.bl true) H) : rNoN0 (.ref a) .non H Q := ⟨rfl, q⟩
theorem noN_str {a : Str} (q : Q (.bl true) H) : rNoN0 (.str a) .non H Q := ⟨rfl, q⟩
theorem noN_bl {a : Bool} (q : Q (.bl true) H) : rNoN0 (.bl a) .non H Q := ⟨rfl, q⟩
theorem tyx_st {a : Addr} {xs : List V} (s : SqT K H a xs) : TyX K H (.ref a) (.type "tuple") := by
  rcases s with (s | ⟨o, s⟩) | ⟨o, its, n, hk, hc, _⟩
  · exact .base (.tup s)
  · exact .fTuple s
  · exact .kTuple hk hc
theorem tyx_sl {a : Addr} {xs : List V} (s : SqL K H a xs) : TyX K H (.ref a) (.type "list") := by
  rcases s with (s | ⟨o, s⟩) | ⟨o, its, n, hk, hc, _⟩
  · exact .base (.lst s)
  · exact .base (.frz s)
  · exact .kList hk hc
theorem isi_t {a : Addr} {xs : List V} {n : String} (b : Bool) (s : SqT K H a xs) (e : kitB "tuple" n = some b) (q : Q (.bl b) H) : rIsi K [.ref a, .ty n] H Q := isi_ (tyx_st s) e q
theorem isi_l {a : Addr} {xs : List V} {n : String} (b : Bool) (s : SqL K H a xs) (e : kitB "list" n = some b) (q : Q (.bl b) H) : rIsi K [.ref a, .ty n] H Q := isi_ (tyx_sl s) e q
theorem e_allB {p : Addr} {bs : List Bool} (s : H p = some (.lst (bs.map V.bl))) (q : Q (.bl (bs.all id)) H) : rAll K [.ref p] H Q := ⟨p, bs, rfl, slO s, q⟩
theorem c_int {a : Int} (q : Q (.int a) H) : rInt1 [V.int a] H Q := .inl ⟨a, rfl, q⟩
theorem c_abs {a : Int} (q : Q (.int (if a < 0 then -a else a)) H) : rAbs [V.int a] H Q := ⟨a, rfl, q⟩
theorem c_min2 {a b : Int} (q : Q (.int (if b < a then b else a)) H) : rMin2 [V.int a, V.int b] H Q := ⟨a, b, rfl, q⟩
theorem c_max2 {a b : Int} (q : Q (.int (if b > a then b else a)) H) : rMax2 [V.int a, V.int b] H Q := ⟨a, b, rfl, q⟩
theorem e_tru (h : te σ H fun x H1 => ∃ k, TruV K x H1 k ∧ QB k H1) : tTruE K te σ H QB := h
theorem e_app {to : TE} (h : to σ H fun x H1 => ∃ l xs, x = .ref l ∧ SqL K H1 l xs ∧ te σ H1 fun y H2 => ∃ ys, H2 l = some (.lst ys) ∧ ys.length < sizeLine ∧ Q .non (upd H2 l (.lst (ys ++ [y])))) (mono : ∀ (H : Hp) (R R' : V → Hp → Prop), (∀ x H1, R x H1 → R' x H1) → to σ H R → to σ H R') (mono2 : ∀ (H : Hp) (R R' : V → Hp → Prop), (∀ x H1, R x H1 → R' x H1) → te σ H R → te σ H R') :
    tBM K "list" rAppend to (tCons te tNil) σ H Q := by
  refine mono H _ _ (fun x H1 q => ?_) h
  obtain ⟨l, xs, rfl, s, q⟩ := q
  refine ⟨.inl ⟨rfl, xs, s⟩, ?_⟩
  exact mono2 H1 _ _ (fun y H2 ⟨ys, h1, h2, h3⟩ => ⟨l, ys, y, rfl, rfl, h1, h2, h3⟩) q
end
/-- a def of the text as it stands, a constant of the text -/
structure DefAt (K : PySem.W.Frag) (mg : Str → Option Value) (x qual : Str) (st : Stmt) (ps : List Str) where
  f : Addr
  fd : FuncData
  F : Fun K x qual st f fd
  b : Binds K fd ps []
  g : mg x = some (.ref f)
structure CAt (mg : Str → Option Value) (x : Str) (v : V) where
  u : Value
  h : mg x = some u
  r : RelV v u
def defAt_mk {K : PySem.W.Frag} {mg : Str → Option Value} {h : Heap} {x qual : Str} {st : Stmt} {ps : List Str} {f : Addr} {od an : Option Addr} {sl : Array (Option Value)} {oc kV dc pm cd ct : Value} (X : K.In h) (G : h.Ns mainGlobals mg)
    (a : PySem.W.nsIn K mainGlobals x = some (some (.ref f))) (l : K.lookup f = some ⟨oc, od, .func (PySem.W.fnOf x qual (defArgs st) (defBody st) (defScope st) .none kV dc pm an cd ct), sl⟩) (c : PySem.W.codeIn K cd qual = true) (k : PySem.W.keepIn K (.ref f) = true)
    (b : ∀ (kV doc pm : Value) (an : Option Addr) (cdv ct : Value) (us : List Value), us.length = ps.length → bindArgs (PySem.W.fnOf x qual (defArgs st) (defBody st) (defScope st) .none kV doc pm an cdv ct) ⟨us, []⟩ = pure (ps.zip us)) : DefAt K mg x qual st ps :=
  ⟨f, _, fun_mk l c k, (fun_mk (st := st) l c k).binds b, PySem.W.mg_of X G a⟩
def cAt_mk {K : PySem.W.Frag} {mg : Str → Option Value} {h : Heap} {x : Str} {u : Value} {v : V} (X : K.In h) (G : h.Ns mainGlobals mg) (a : PySem.W.nsIn K mainGlobals x = some (some u)) (r : RelV v u) : CAt mg x v := ⟨u, PySem.W.mg_of X G a, r⟩
end Vw

set_option Elab.async false
set_option linter.all false
set_option maxRecDepth 100000
set_option maxHeartbeats 4000000
namespace Vw
open PySem PySem.Spec PyProof.Rows L2
/-! ### enumerate of a tuple -/
abbrev ti0 (t : Addr) : Obj := { cls := .type "tuple_iterator", data := .fields #[.ref t, .int 0 0] }
abbrev en0 (i : Addr) : Obj := { cls := .type "enumerate", data := .fields #[.none, .bool false, .ref i, rawInt 0, .none, .none] }
theorem new_enumT (t : Addr) (items : Array Value) :
    Meets (Builtin.«enumerate.__new__» ⟨[.type "enumerate", .ref t], []⟩) (fun _ R s => s.heap.IsTuple t items ∧
      R (.ok (.ret (.ref (s.heap.push (ti0 t)).objs.size))) { s with heap := (s.heap.push (ti0 t)).push (en0 s.heap.objs.size) }) :=
  .of_wp fun prog w A R s h => by
    obtain ⟨hp, g, d, tk, os⟩ := s
    obtain ⟨hL, h⟩ := h
    have hsub := sub_enumerate
    have hL2 := hL
    obtain ⟨⟨oc, od, odt, osl⟩, hl, hc, n, hd⟩ := hL2
    simp only at hc hd
    subst hc hd
    have hL : Heap.IsTuple (Shared.heap ⟨hp, g, d, tk, os⟩) t items := hL
    wp_walk using wpAny_loadPart' hl
    refine wpAny_stack_any fun st => wpAny_pure ?_
    split
    · rename_i c _ _ _ _ _
      cases (c == Value.type "enumerate")
      · wp_walk using wpAny_loadPart' hl, wpAny_pyIter_tuple hL
        exact ⟨_, rfl, h⟩
      · wp_walk using wpAny_loadPart' hl, wpAny_pyIter_tuple hL
        exact ⟨_, rfl, h⟩
    · wp_walk using wpAny_loadPart' hl, wpAny_pyIter_tuple hL
      exact ⟨_, rfl, h⟩
theorem call_enumT {prog : Program} {w : World} {A : Around} {E : Value → Shared → Prop} {s : Shared} {t : Addr} {items : Array Value} {Q : Value → Shared → Prop} (hL : s.heap.IsTuple t items)
    (h : ∀ h', IsEnum h' (s.heap.objs.size + 1) s.heap.objs.size 0 .none → h'.IsTupleIter s.heap.objs.size t 0 →
      (∀ b o, s.heap.get? b = some o → h'.get? b = some o) → Q (.ref (s.heap.objs.size + 1)) { s with heap := h' }) :
    wpAny (model prog w) A (call (.type "enumerate") [.ref t]) Q E s := by
  refine callType_new F.called_enumerate (by decide) (F.typeCall_enumerate_1 _) (F.newCall_enumerate_1 _) (fun obj => F.args_object_init_2 obj _) F.entry_enumerate_new (new_enumT t items) ⟨hL, ?_⟩
  have hz : (s.heap.push (ti0 t)).objs.size = s.heap.objs.size + 1 := Heap.size_push ..
  show _ ∧ _
  rw [hz]
  have he : IsEnum ((s.heap.push (ti0 t)).push (en0 s.heap.objs.size)) (s.heap.objs.size + 1) s.heap.objs.size 0 .none := by
    have q := Heap.get?_push_size (s.heap.push (ti0 t)) (o := en0 s.heap.objs.size) rfl
    rw [hz] at q; exact q
  exact ⟨⟨_, he, rfl⟩, h _ he ⟨_, Heap.get?_push_of_some _ (Heap.get?_push_size _ rfl), rfl, rfl⟩ fun b o x => Heap.get?_push_of_some _ (Heap.get?_push_of_some _ x)⟩
/-- the tuple at a, each item in a new pair -/
def ItEt (K : PySem.W.Frag) (a : Addr) : It :=
  ⟨fun i H => ∃ (xs : List V) (x : V), SqT K H a xs ∧ xs[i]? = some x, fun i H v H' => ∃ T x, v = .ref T ∧ H T = none ∧ H' = upd H T (.tup [.int (i : Nat), x]) ∧ ∀ xs, SqT K H a xs → xs[i]? = some x, fun i H => ∃ xs : List V, SqT K H a xs ∧ xs.length ≤ i⟩
theorem turn_enumT {P : Program} {w : World} {K : PySem.W.Frag} {elts : List Expr} {kk : Nat} {tpos : Pos} (a e it : Addr) :
    Turn P w K (.Tuple elts kk tpos) (ItEt K a) [e, it] e (fun i h => (∃ old, IsEnum h e it ((i : Nat) : Int) old) ∧ h.IsTupleIter it a i ∧ e ≠ it) where
  mem := List.mem_cons_self
  obj := fun i h st b hb => by
    obtain ⟨⟨old, he⟩, ⟨o, ho, hc, hd⟩, _⟩ := st
    rcases List.mem_cons.mp hb with z | z
    · rw [z]; exact ⟨_, he, fun v q => nomatch q⟩
    · rw [List.mem_singleton.mp z]; exact ⟨o, ho, fun v q => by rw [hd] at q; cases q⟩
  keep := fun i h h' ⟨⟨old, he⟩, hi, hne⟩ k => ⟨⟨old, k e List.mem_cons_self _ he⟩, hi.at fun o q => k it (List.mem_cons_of_mem _ List.mem_cons_self) o q, hne⟩
  item := by
    intro X hP hw hK hc i pins s σ H E I hf st hg
    subst hP hw hK
    obtain ⟨⟨old, he⟩, hit, hne⟩ := st
    obtain ⟨xs, x, hq, hx⟩ := hg
    obtain ⟨its, rv, p, hz⟩ := I.tuple hq
    obtain ⟨u, hu, ru⟩ := rv.get hx
    have pt : s.heap.IsTuple a its.toArray := p
    have hel : e < s.heap.objs.size := Heap.lt_size he
    have hil : it < s.heap.objs.size := by obtain ⟨_, q, _⟩ := hit; exact Heap.lt_size q
    have hai : a ≠ it := fun z => by
      obtain ⟨o1, g1, c1, _⟩ := pt
      obtain ⟨o2, g2, c2, _⟩ := hit
      rw [z, g2] at g1
      cases g1
      rw [c2] at c1
      exact absurd c1 (by decide)
    have hae : a ≠ e := fun z => by
      obtain ⟨o1, g1, c1, _⟩ := pt
      rw [z, show s.heap.get? e = _ from he] at g1
      cases g1
      have c2 : Value.type "enumerate" = Value.type "tuple" := c1
      exact absurd c2 (by decide)
    have hlt : i < its.toArray.size := by
      have := (List.getElem?_eq_some_iff.mp hu).1
      simpa using this
    refine wpAny_pyNext_enum_itemD (Draws.tuple (by rw [Around.in1_handled]; exact I.ok.hd hc) it a hai its.toArray) he ⟨hit, pt⟩ hlt hne (by simp [hne, Ne.symm hae]) fun y h' tk hy ho hst' hT hsz hk => ?_
    have ey : y = u := by
      have q : its.toArray[i]? = some u := by simpa using hu
      rw [q] at hy
      exact (Option.some.inj hy).symm
    subst ey
    refine ⟨_, rfl, wpAny_letOwnedTupleGo_enum (s := { s with heap := h', toks := tk + 1 }) ho fun h'' he' sb => ?_⟩
    have hT2 := (sb.2 _ (Nat.ne_of_gt hel)).trans hT
    have new : ObjOk X.prog X.w (upd H s.heap.objs.size (.tup [.int (i : Nat), x])) h'' s.heap.objs.size (.tup [.int (i : Nat), x]) := ⟨by show 2 ≤ sizeLine; decide, [.int i tk, y], .cons ⟨_, rfl⟩ (.cons ru .nil), ⟨_, hT2, rfl, _, rfl⟩⟩
    have I1 : Inv X pins σ (upd H s.heap.objs.size (.tup [.int (i : Nat), x])) { s with heap := h'', toks := tk + 1 } :=
      I.turnedNew (ch := [e, it]) (fun b ob hb q => (sb.2 b (fun z => hb (by simp [z]))).trans (hk b ob (fun z => hb (by simp [z])) (fun z => hb (by simp [z])) q)) hf (Nat.le_refl _) new
    refine ⟨.ref s.heap.objs.size, _, I1, rfl, ⟨_, x, rfl, I.hok.fresh (Nat.le_refl _), rfl, fun ys hy => ?_⟩, ⟨⟨y, ?_⟩, hst'.1.at fun o q => (sb.2 it (Ne.symm hne)).trans q, hne⟩, fun b hb => ?_⟩
    · rw [I.tuple_inj hy hq]; exact hx
    · rw [show ((i + 1 : Nat) : Int) = (i : Int) + 1 by omega]; exact he'
    · have hb' : b < s.heap.objs.size := by
        rcases List.mem_cons.mp hb with z | z
        · rw [z]; exact hel
        · rw [List.mem_singleton.mp z]; exact hil
      rw [upd_ne (Nat.ne_of_lt hb')]; exact (hf b hb).1
  done := by
    intro X hP hw hK hc i pins s σ H E I hf st hg
    subst hP hw hK
    obtain ⟨⟨old, he⟩, hit, hne⟩ := st
    obtain ⟨xs, hq, hx⟩ := hg
    obtain ⟨its, rv, p, hz⟩ := I.tuple hq
    obtain ⟨f0, f1, f2, f3, f4, f5⟩ := hf it (List.mem_cons_of_mem _ List.mem_cons_self)
    have pt : s.heap.IsTuple a its.toArray := p
    have hai : a ≠ it := fun z => by
      obtain ⟨o1, g1, c1, _⟩ := pt
      obtain ⟨o2, g2, c2, _⟩ := hit
      rw [z, g2] at g1
      cases g1
      rw [c2] at c1
      exact absurd c1 (by decide)
    have hl := rv.length
    have D : Draws X.prog X.w X.A.in1 it [it, a] i (fun _ _ => False) (fun j h => j = i ∧ h.IsTupleIter it a i ∧ h.IsTuple a its.toArray) := by
      refine ⟨fun j h st => let ⟨o, ho, _⟩ := st.2.1; ⟨o, ho⟩, fun j h h' st k => ⟨st.1, st.2.1.at fun o q => k it (by simp) o q, st.2.2.at fun o q => k a (by simp) o q⟩, fun j s Q E hj st _ => absurd st.1 (Nat.ne_of_lt hj), fun s Q E st hE => ?_⟩
      exact wpAny_nextOf_tuple_end (by rw [Around.in1_handled]; exact I.ok.hd hc) st.2.1 st.2.2 (by simp; omega) hE
    exact wpAny_pyNext_enum_endD D he ⟨rfl, hit, pt⟩ fun h' eb => ⟨rfl, I.turned (t' := s.toks) (fun b o hb q => eb b o hb q) f0 f1 f3 f4 f5⟩
  self := fun A i s Q E ⟨⟨_, he⟩, _⟩ h => wpAny_pyIter_enum he h
def iEnumT (K : PySem.W.Frag) (ta : TA) : TI := fun σ H R => ta σ H fun vs H1 => ∃ a xs, vs = [.ref a] ∧ ((SqL K H1 a xs ∧ R (Ite K a) H1) ∨ (SqT K H1 a xs ∧ R (ItEt K a) H1))
theorem piEnumT {K : PySem.W.Frag} {X : Cx} {e : Expr} {ta : TA} {p pos tpos : Pos} {elts : List Expr} {kk : Nat} (hg : Gl X "enumerate") (hm : X.mg "enumerate" = none) (ha : PA X [e] ta) (eK : X.K = K := by rfl) (hs : starEach [e] X.env = [(false, eval e X.env)] := by rfl) :
    PI X (.Tuple elts kk tpos) (.Call (.Name "enumerate" p) [e] [] pos) (iEnumT K ta) := by
  cases eK
  refine ⟨fun pins s σ H R I h => Call_ (ld_blt I hg hm boot_enumerate (PyProof.Rows.callWith_type1 (thn (ha.run pos pins s σ H _ I h) fun us s1 ⟨vs, H1, I1, r1, q1⟩ => ?_) hs rfl))⟩
  obtain ⟨a, xs, rfl, q⟩ := q1
  rw [Vals.ref1 r1]
  have up : ∀ b ∈ [s1.heap.objs.size + 1, s1.heap.objs.size], s1.heap.objs.size ≤ b := fun b hb => by
    rcases List.mem_cons.mp hb with z | z
    · rw [z]; exact Nat.le_add_right _ _
    · rw [List.mem_singleton.mp z]; exact Nat.le_refl _
  rcases q with ⟨hq, q⟩ | ⟨hq, q⟩
  · obtain ⟨its, rv, p', hz⟩ := I1.list hq
    refine call_enumerate_list p'.isList fun h' he hit hsz hk => wpAny_pyIter_enum he ?_
    exact ⟨s1.heap.objs.size + 1, [s1.heap.objs.size + 1, s1.heap.objs.size], _, _, H1, rfl, I1.kept (t' := s1.toks) hk, turn_enum a (s1.heap.objs.size + 1) s1.heap.objs.size, ⟨⟨.none, he⟩, hit, Nat.succ_ne_self _⟩, fun b hb => I1.fpOk (up b hb) (I1.hok.fresh (up b hb)), q⟩
  · obtain ⟨its, rv, p', hz⟩ := I1.tuple hq
    refine call_enumT (show s1.heap.IsTuple a its.toArray from p') fun h' he hit hk => wpAny_pyIter_enum he ?_
    exact ⟨s1.heap.objs.size + 1, [s1.heap.objs.size + 1, s1.heap.objs.size], _, _, H1, rfl, I1.kept (t' := s1.toks) hk, turn_enumT a (s1.heap.objs.size + 1) s1.heap.objs.size, ⟨⟨.none, he⟩, hit, Nat.succ_ne_self _⟩, fun b hb => I1.fpOk (up b hb) (I1.hok.fresh (up b hb)), q⟩
end Vw

set_option Elab.async false
set_option linter.all false
set_option maxRecDepth 100000
set_option maxHeartbeats 4000000
namespace Vw
open PySem PySem.Spec PyProof.Rows L2 RT
/-! ### loops -/
def FQ (J : It) (g : TG) (tb : TS) (D : Ends) (σ : L2.St) (H : Hp) : Prop := ∃ W : Nat → Nat → L2.St → Hp → Prop, (∃ m, W 0 m σ H) ∧ ∀ i m σ H, W i m σ H →
  (J.stop i H ∧ D.nx σ H) ∨ (J.go i H ∧ ∃ N : L2.St → Hp → Prop, (∀ σ' H', N σ' H' → ∃ m', m' < m ∧ W (i + 1) m' σ' H') ∧ ∀ x H', J.yld i H x H' → g x σ H' fun σ2 H2 => tb { D with nx := N, ct := N, bk := D.nx } σ2 H2)
def LQ (J : It) (g : TG) (tt : TT) (te : TE) (vs : List Nat) (σ : L2.St) (H1 : Hp) (Q : VK) : Prop := ∀ D, H1 D = none → ∃ W : Nat → Nat → Hp → Prop, (∃ m, W 0 m (upd H1 D (.lst []))) ∧ ∀ i m H, W i m H →
  (J.stop i H ∧ Q (.ref D) H) ∨ (J.go i H ∧ ∃ Nx : Hp → Prop, (∀ H', Nx H' → ∃ m', m' < m ∧ W (i + 1) m' H') ∧ ∀ x H', J.yld i H x H' → g x (wipe σ vs) H' fun σ2 H2 => wipe σ2 vs = wipe σ vs ∧ tt σ2 H2 fun b H3 =>
    if b = true then te σ2 H3 fun y H4 => ∃ acc, H4 D = some (.lst acc) ∧ acc.length < sizeLine ∧ Nx (upd H4 D (.lst (acc ++ [y]))) else Nx H3)
section
variable {K : PySem.W.Frag} {σ : L2.St} {H H1 : Hp} {Q : VK} {D : Ends} {ta tb te : TE} {t u : TS} {wi : TI} {g : TG} {tt : TT} {vs : List Nat} {R : It → Hp → Prop} {j : Nat} {xs : List V} {a : Addr}
theorem s_for (h : wi σ H fun J H1 => FQ J g t D σ H1) : tFor wi g t D σ H := h
theorem e_lc (h : wi σ H fun J H1 => LQ J g tt te vs σ H1 Q) : tLc wi g tt te vs σ H Q := h
def RgQ (R : It → Hp → Prop) (vs : List V) (H1 : Hp) : Prop := ∃ j : Int, vs = [.int j] ∧ -(2 ^ 62) ≤ j ∧ j < 2 ^ 62 ∧ R (Itr 0 j.toNat) H1
theorem i_rng1 {ta : TA} (h : ta σ H fun vs H1 => RgQ R vs H1) : iRng1 ta σ H R := h
theorem i_rng {i : Int} (n : Nat) (e : i.toNat = n) (h1 : -100000 ≤ i) (h2 : i ≤ 100000) (h : R (Itr 0 n) H) : RgQ R [.int i] H := ⟨i, rfl, by omega, by omega, by rw [e]; exact h⟩
def LsQ (K : PySem.W.Frag) (R : It → Hp → Prop) (x : V) (H1 : Hp) : Prop := ∃ a, x = .ref a ∧ (∃ xs, SqL K H1 a xs) ∧ R (Itl K a) H1
theorem i_lst0 {tl : TE} (h : tl σ H fun x H1 => LsQ K R x H1) : iList K tl σ H R := h
theorem i_lst (s : SqL K H a xs) (h : R (Itl K a) H) : LsQ K R (.ref a) H := ⟨a, rfl, ⟨xs, s⟩, h⟩
def TpQ (K : PySem.W.Frag) (R : It → Hp → Prop) (x : V) (H1 : Hp) : Prop := ∃ a, x = .ref a ∧ (∃ xs, SqT K H1 a xs) ∧ R (Itt K a) H1
theorem i_tup0 {tl : TE} (h : tl σ H fun x H1 => TpQ K R x H1) : iTup K tl σ H R := h
theorem i_tup (s : SqT K H a xs) (h : R (Itt K a) H) : TpQ K R (.ref a) H := ⟨a, rfl, ⟨xs, s⟩, h⟩
/-- a loop over anything that is walked -/
theorem l_it {J : It} {n : Nat} {G : Hp → Prop} {Y : Nat → Hp → V → Hp → Prop} (W : Walk J n G Y) (Pv : Nat → L2.St → Hp → Prop) (h0 : Pv 0 σ H) (hG : ∀ i σ H, i ≤ n → Pv i σ H → G H) (hd : ∀ σ H, Pv n σ H → D.nx σ H)
    (hs : ∀ i x σ H H', i < n → Pv i σ H → Y i H x H' → g x σ H' fun σ2 H2 => t { D with nx := Pv (i + 1), ct := Pv (i + 1), bk := D.nx } σ2 H2) : FQ J g t D σ H := for_it W Pv h0 hG hs hd
theorem l_rng {n : Nat} (Pv : Nat → L2.St → Hp → Prop) (h0 : Pv 0 σ H) (hd : ∀ σ H, Pv n σ H → D.nx σ H)
    (hs : ∀ (i : Nat) σ H, i < n → Pv i σ H → t { D with nx := Pv (i + 1), ct := Pv (i + 1), bk := D.nx } (σ.set j (some (.int (i : Int)))) H) : FQ (Itr 0 n) (gName j) t D σ H :=
  l_it walk_range Pv h0 (fun _ _ _ _ _ => trivial) hd fun i x σ H H' hi p y => by
    obtain ⟨rfl, rfl⟩ := y
    have e : (0 : Int) + (i : Int) = (i : Int) := Int.zero_add _
    show t _ (σ.set j (some (.int ((0 : Int) + (i : Int))))) _
    rw [e]; exact hs i σ _ hi p
theorem l_lst (Pv : Nat → L2.St → Hp → Prop) (h0 : Pv 0 σ H) (hl : ∀ i σ H, i ≤ xs.length → Pv i σ H → SqL K H a xs) (hd : ∀ σ H, Pv xs.length σ H → D.nx σ H)
    (hs : ∀ i x σ H, xs[i]? = some x → Pv i σ H → t { D with nx := Pv (i + 1), ct := Pv (i + 1), bk := D.nx } (σ.set j (some x)) H) : FQ (Itl K a) (gName j) t D σ H :=
  l_it walk_list Pv h0 hl hd fun i x σ H H' hi p y => by
    obtain ⟨rfl, e⟩ := y
    exact hs i x σ _ e p
theorem l_tup (Pv : Nat → L2.St → Hp → Prop) (h0 : Pv 0 σ H) (hl : ∀ i σ H, i ≤ xs.length → Pv i σ H → SqT K H a xs) (hd : ∀ σ H, Pv xs.length σ H → D.nx σ H)
    (hs : ∀ i x σ H, xs[i]? = some x → Pv i σ H → t { D with nx := Pv (i + 1), ct := Pv (i + 1), bk := D.nx } (σ.set j (some x)) H) : FQ (Itt K a) (gName j) t D σ H :=
  l_it walk_tup Pv h0 hl hd fun i x σ H H' hi p y => by
    obtain ⟨rfl, e⟩ := y
    exact hs i x σ _ e p
/-- the target (x, y) at a new pair -/
theorem g_pair {i1 i2 : Nat} {T : Addr} {x y : V} {R : L2.St → Hp → Prop} (h : H T = some (.tup [x, y])) (q : R ((σ.set i1 (some x)).set i2 (some y)) H) : gTup K 2 (gCons (gName i1) (gCons (gName i2) gNil)) (.ref T) σ H R :=
  ⟨T, [x, y], rfl, stO h, rfl, x, [y], rfl, y, [], rfl, rfl, q⟩
theorem g_pairS {i1 i2 : Nat} {T : Addr} {x y : V} {R : L2.St → Hp → Prop} (h : SqT K H T [x, y]) (q : R ((σ.set i1 (some x)).set i2 (some y)) H) : gTup K 2 (gCons (gName i1) (gCons (gName i2) gNil)) (.ref T) σ H R :=
  ⟨T, [x, y], rfl, h, rfl, x, [y], rfl, y, [], rfl, rfl, q⟩
theorem putK_le {c : List (Key × V)} {k : Key} {x : V} : (putK c k x).length ≤ c.length + 1 := by
  unfold putK
  split <;> simp
theorem walk_enumT : Walk (ItEt K a) xs.length (fun H => SqT K H a xs) (YPair (fun i => some (.int (i : Nat))) (fun i => xs[i]?)) := by
  refine ⟨fun i _ hi q => ⟨xs, xs[i], q, by simp [hi]⟩, fun _ q => ⟨xs, q, Nat.le_refl _⟩, fun i H v H' _ q y => ?_⟩
  obtain ⟨T, x, h1, h2, h3, h4⟩ := y
  exact ⟨T, .int (i : Nat), x, h1, h2, h3, rfl, h4 xs q⟩
def SqX (K : PySem.W.Frag) (H : Hp) (a : Addr) (xs : List V) : Prop := SqL K H a xs ∨ SqT K H a xs
theorem sx_ {H H' : Hp} {a : Addr} {xs : List V} (s : Same H H') (h : SqX K H a xs) : SqX K H' a xs := h.elim (fun h => .inl (sl_ s h)) fun h => .inr (st_ s h)
def EnQ (K : PySem.W.Frag) (R : It → Hp → Prop) (vs : List V) (H1 : Hp) : Prop := ∃ a xs, vs = [.ref a] ∧ ((SqL K H1 a xs ∧ R (Ite K a) H1) ∨ (SqT K H1 a xs ∧ R (ItEt K a) H1))
theorem i_enum0 {ta : TA} (h : ta σ H fun vs H1 => EnQ K R vs H1) : iEnumT K ta σ H R := h
theorem i_enumX {H0 : Hp} (s : SqX K H0 a xs) (ss : Same H0 H) (h : ∀ J G, (∀ H', Same H0 H' → G H') → Walk J xs.length G (YPair (fun i => some (.int (i : Nat))) (fun i => xs[i]?)) → R J H) : EnQ K R [.ref a] H :=
  ⟨a, xs, rfl, s.elim (fun s => .inl ⟨sl_ ss s, h _ _ (fun H' q => sl_ q s) walk_enum⟩) fun s => .inr ⟨st_ ss s, h _ _ (fun H' q => st_ q s) walk_enumT⟩⟩
def RvQ (K : PySem.W.Frag) (R : It → Hp → Prop) (v : V) (H1 : Hp) : Prop := ∃ (a : Addr) (xs : List V), v = .ref a ∧ ((SqL K H1 a xs ∧ R (Itv K a xs.length) H1) ∨ (SqT K H1 a xs ∧ R (ItvT K a xs.length) H1))
theorem walk_revT : Walk (ItvT K a xs.length) xs.length (fun H => SqT K H a xs) (fun i H x H' => H' = H ∧ xs[xs.length - 1 - i]? = some x) :=
  ⟨fun i _ hi q => ⟨hi, xs, xs[xs.length - 1 - i]'(by omega), q, by simp [show xs.length - 1 - i < xs.length by omega]⟩, fun _ _ => Nat.le_refl _, fun _ _ _ _ _ q y => ⟨y.1, y.2 xs q⟩⟩
theorem i_revX {H0 : Hp} (s : SqX K H0 a xs) (ss : Same H0 H) (h : ∀ J G, (∀ H', Same H0 H' → G H') → Walk J xs.length G (fun i H x H' => H' = H ∧ xs[xs.length - 1 - i]? = some x) → R J H) : RvQ K R (.ref a) H :=
  ⟨a, xs, rfl, s.elim (fun s => .inl ⟨sl_ ss s, h _ _ (fun H' q => sl_ q s) walk_rev⟩) fun s => .inr ⟨st_ ss s, h _ _ (fun H' q => st_ q s) walk_revT⟩⟩
theorem i_rev0 {te : TE} (h : te σ H fun v H1 => RvQ K R v H1) : iRevA K te σ H R := h
/-- a comprehension: Pv tells of the turn, of what is made so far, of the heap, in which the list itself stands at D -/
theorem c_it {J : It} {n : Nat} {G : Hp → Prop} {Y : Nat → Hp → V → Hp → Prop} (W : Walk J n G Y) (Pv : Nat → List V → Hp → Prop) (h0 : ∀ D, H1 D = none → Pv 0 [] (upd H1 D (.lst []))) (hG : ∀ i acc H, i ≤ n → Pv i acc H → G H)
    (hd : ∀ acc D H, H1 D = none → H D = some (.lst acc) → Pv n acc H → Q (.ref D) H)
    (hs : ∀ (i : Nat) x acc H H' D, i < n → H1 D = none → H D = some (.lst acc) → Pv i acc H → Y i H x H' → g x (wipe σ vs) H' fun σ2 H2 => wipe σ2 vs = wipe σ vs ∧ tt σ2 H2 fun b H3 =>
      if b = true then te σ2 H3 fun y H4 => ∃ acc, H4 D = some (.lst acc) ∧ acc.length < sizeLine ∧ ∃ acc2, (upd H4 D (.lst (acc ++ [y]))) D = some (.lst acc2) ∧ Pv (i + 1) acc2 (upd H4 D (.lst (acc ++ [y]))) else ∃ acc2, H3 D = some (.lst acc2) ∧ Pv (i + 1) acc2 H3) : LQ J g tt te vs σ H1 Q := fun D hD =>
  lc_it W (fun i H => ∃ acc, H D = some (.lst acc) ∧ Pv i acc H) ⟨[], upd_same, h0 D hD⟩ (fun i H hi p => hG i _ H hi p.choose_spec.2) (fun i x H H' hi p y => by
    obtain ⟨acc, hp, p⟩ := p
    exact hs i x acc H H' D hi hD hp p y) (fun H p => by
    obtain ⟨acc, hp, p⟩ := p
    exact hd acc D H hD hp p)
theorem got_ {Dl : Addr} {acc : List V} {y : V} {P : List V → Hp → Prop} (h : H Dl = some (.lst acc)) (hl : acc.length < 100000) (p : P (acc ++ [y]) (upd H Dl (.lst (acc ++ [y])))) :
    ∃ acc, H Dl = some (.lst acc) ∧ acc.length < sizeLine ∧ ∃ acc2, (upd H Dl (.lst (acc ++ [y]))) Dl = some (.lst acc2) ∧ P acc2 (upd H Dl (.lst (acc ++ [y]))) :=
  ⟨acc, h, Nat.lt_of_lt_of_le hl (by decide), _, upd_same, p⟩
theorem upd_free {H0 : Hp} {Dl : Addr} {o : HO} (s : Same H0 H) (n : H0 Dl = none) : Same H0 (upd H Dl o) := fun b u e => by rw [upd_ne (ne_of_none e n)]; exact s b u e
theorem c_rng {n : Nat} (Pv : Nat → List V → Hp → Prop) (h0 : ∀ D, H1 D = none → Pv 0 [] (upd H1 D (.lst []))) (hd : ∀ acc D H, H1 D = none → H D = some (.lst acc) → Pv n acc H → Q (.ref D) H) (hw : ∀ x, wipe ((wipe σ vs).set j x) vs = wipe σ vs)
    (hs : ∀ (i : Nat) acc H D, i < n → H1 D = none → H D = some (.lst acc) → Pv i acc H → tt ((wipe σ vs).set j (some (.int (i : Int)))) H fun b H3 =>
      if b = true then te ((wipe σ vs).set j (some (.int (i : Int)))) H3 fun y H4 => ∃ acc, H4 D = some (.lst acc) ∧ acc.length < sizeLine ∧ ∃ acc2, (upd H4 D (.lst (acc ++ [y]))) D = some (.lst acc2) ∧ Pv (i + 1) acc2 (upd H4 D (.lst (acc ++ [y]))) else ∃ acc2, H3 D = some (.lst acc2) ∧ Pv (i + 1) acc2 H3) :
    LQ (Itr 0 n) (gName j) tt te vs σ H1 Q := c_it walk_range Pv h0 (fun _ _ _ _ _ => trivial) hd fun i x acc H H' D hi hD hp p y => by
  obtain ⟨rfl, rfl⟩ := y
  have e : (0 : Int) + (i : Int) = (i : Int) := Int.zero_add _
  refine ⟨hw _, ?_⟩
  dsimp only
  rw [e]; exact hs i acc _ D hi hD hp p
theorem c_lst (Pv : Nat → List V → Hp → Prop) (h0 : ∀ D, H1 D = none → Pv 0 [] (upd H1 D (.lst []))) (hl : ∀ i acc H, i ≤ xs.length → Pv i acc H → SqL K H a xs) (hd : ∀ acc D H, H1 D = none → H D = some (.lst acc) → Pv xs.length acc H → Q (.ref D) H) (hw : ∀ x, wipe ((wipe σ vs).set j x) vs = wipe σ vs)
    (hs : ∀ (i : Nat) x acc H D, xs[i]? = some x → H1 D = none → H D = some (.lst acc) → Pv i acc H → tt ((wipe σ vs).set j (some x)) H fun b H3 =>
      if b = true then te ((wipe σ vs).set j (some x)) H3 fun y H4 => ∃ acc, H4 D = some (.lst acc) ∧ acc.length < sizeLine ∧ ∃ acc2, (upd H4 D (.lst (acc ++ [y]))) D = some (.lst acc2) ∧ Pv (i + 1) acc2 (upd H4 D (.lst (acc ++ [y]))) else ∃ acc2, H3 D = some (.lst acc2) ∧ Pv (i + 1) acc2 H3) :
    LQ (Itl K a) (gName j) tt te vs σ H1 Q := c_it walk_list Pv h0 hl hd fun i x acc H H' D hi hD hp p y => by
  obtain ⟨rfl, e⟩ := y
  exact ⟨hw _, hs i x acc _ D e hD hp p⟩
theorem c_tup (Pv : Nat → List V → Hp → Prop) (h0 : ∀ D, H1 D = none → Pv 0 [] (upd H1 D (.lst []))) (hl : ∀ i acc H, i ≤ xs.length → Pv i acc H → SqT K H a xs) (hd : ∀ acc D H, H1 D = none → H D = some (.lst acc) → Pv xs.length acc H → Q (.ref D) H) (hw : ∀ x, wipe ((wipe σ vs).set j x) vs = wipe σ vs)
    (hs : ∀ (i : Nat) x acc H D, xs[i]? = some x → H1 D = none → H D = some (.lst acc) → Pv i acc H → tt ((wipe σ vs).set j (some x)) H fun b H3 =>
      if b = true then te ((wipe σ vs).set j (some x)) H3 fun y H4 => ∃ acc, H4 D = some (.lst acc) ∧ acc.length < sizeLine ∧ ∃ acc2, (upd H4 D (.lst (acc ++ [y]))) D = some (.lst acc2) ∧ Pv (i + 1) acc2 (upd H4 D (.lst (acc ++ [y]))) else ∃ acc2, H3 D = some (.lst acc2) ∧ Pv (i + 1) acc2 H3) :
    LQ (Itt K a) (gName j) tt te vs σ H1 Q := c_it walk_tup Pv h0 hl hd fun i x acc H H' D hi hD hp p y => by
  obtain ⟨rfl, e⟩ := y
  exact ⟨hw _, hs i x acc _ D e hD hp p⟩
theorem e_yes {R : Bool → Hp → Prop} (q : R true H) : tYes σ H R := q
/-- a dict comprehension over a list -/
def DQ (J : It) (g : TG) (tt : TT) (tk tv : TE) (vs : List Nat) (σ : L2.St) (H1 : Hp) (Q : VK) : Prop := ∀ D, H1 D = none → ∃ W : Nat → Nat → Hp → Prop, (∃ m, W 0 m (upd H1 D (.dK []))) ∧ ∀ i m H, W i m H →
  (J.stop i H ∧ Q (.ref D) H) ∨ (J.go i H ∧ ∃ Nx : Hp → Prop, (∀ H', Nx H' → ∃ m', m' < m ∧ W (i + 1) m' H') ∧ ∀ x H', J.yld i H x H' → g x (wipe σ vs) H' fun σ2 H2 => wipe σ2 vs = wipe σ vs ∧ tt σ2 H2 fun b H3 =>
    if b = true then tk σ2 H3 fun y H4 => tv σ2 H4 fun z H5 => ∃ kvs k, y = kV k ∧ H5 D = some (.dK kvs) ∧ kvs.length < sizeLine ∧ Nx (upd H5 D (.dK (putK kvs k z))) else Nx H3)
theorem e_dc {tk tv : TE} (h : wi σ H fun J H1 => DQ J g tt tk tv vs σ H1 Q) : tDc wi g tt tk tv vs σ H Q := h
theorem d_it {J : It} {n : Nat} {G : Hp → Prop} {Y : Nat → Hp → V → Hp → Prop} {tk tv : TE} (W : Walk J n G Y) (Pv : Nat → List (Key × V) → Hp → Prop) (h0 : ∀ D, H1 D = none → Pv 0 [] (upd H1 D (.dK []))) (hG : ∀ i acc H, i ≤ n → Pv i acc H → G H)
    (hd : ∀ acc D H, H1 D = none → H D = some (.dK acc) → Pv n acc H → Q (.ref D) H)
    (hs : ∀ (i : Nat) x acc H H' D, i < n → H1 D = none → H D = some (.dK acc) → Pv i acc H → Y i H x H' → g x (wipe σ vs) H' fun σ2 H2 => wipe σ2 vs = wipe σ vs ∧ tt σ2 H2 fun b H3 =>
      if b = true then tk σ2 H3 fun y H4 => tv σ2 H4 fun z H5 => ∃ kvs k, y = kV k ∧ H5 D = some (.dK kvs) ∧ kvs.length < sizeLine ∧ ∃ acc2, (upd H5 D (.dK (putK kvs k z))) D = some (.dK acc2) ∧ Pv (i + 1) acc2 (upd H5 D (.dK (putK kvs k z))) else ∃ acc2, H3 D = some (.dK acc2) ∧ Pv (i + 1) acc2 H3) : DQ J g tt tk tv vs σ H1 Q := fun D hD => by
  refine ⟨fun i m H => m = n - i ∧ i ≤ n ∧ ∃ acc, H D = some (.dK acc) ∧ Pv i acc H, ⟨n, rfl, Nat.zero_le _, [], upd_same, h0 D hD⟩, ?_⟩
  rintro i m H ⟨rfl, hi, acc, hp, p⟩
  have q := hG i acc H hi p
  by_cases hlt : i < n
  · exact .inr ⟨W.goes i H hlt q, fun H => ∃ acc, H D = some (.dK acc) ∧ Pv (i + 1) acc H, fun H' p' => ⟨n - (i + 1), by omega, rfl, hlt, p'⟩, fun x H' y => hs i x acc H H' D hlt hD hp p (W.yields i H x H' hlt q y)⟩
  · have e : i = n := by omega
    subst e
    exact .inl ⟨W.stops H q, hd acc D H hD hp p⟩
theorem dgot_ {Dl : Addr} {acc : List (Key × V)} {z : V} {k : Key} {P : List (Key × V) → Hp → Prop} (h : H Dl = some (.dK acc)) (hl : acc.length < 100000) (p : P (putK acc k z) (upd H Dl (.dK (putK acc k z)))) :
    ∃ kvs k', kV k = kV k' ∧ H Dl = some (.dK kvs) ∧ kvs.length < sizeLine ∧ ∃ acc2, (upd H Dl (.dK (putK kvs k' z))) Dl = some (.dK acc2) ∧ P acc2 (upd H Dl (.dK (putK kvs k' z))) :=
  ⟨acc, k, rfl, h, Nat.lt_of_lt_of_le hl (by decide), _, upd_same, p⟩
theorem atI_map {ns : List Int} {z : Int} (i : Nat) (e : z = (i : Nat)) (h : i < ns.length) : atI (ns.map V.int) z = some (.int (ns.getD i 0)) := atI_in e (by
  rw [List.getElem?_map, List.getElem?_eq_getElem h, List.getD_eq_getElem?_getD, List.getElem?_eq_getElem h]; rfl)
theorem atI_neg {α : Type} {xs : List α} {x : α} (h0 : 0 < xs.length) (h : xs[xs.length - 1]? = some x) : atI xs (-1) = some x := by
  have e : ixN xs.length (-1) = some (xs.length - 1) := by
    unfold ixN
    rw [if_neg (by omega), if_pos (by omega)]
    congr 1; omega
  unfold atI
  rw [e]; exact h
theorem atI_negI {ns : List Int} (h0 : 0 < ns.length) : atI (ns.map V.int) (-1) = some (.int (ns.getD (ns.length - 1) 0)) := atI_neg (by simpa using h0) (by
  rw [List.length_map, List.getElem?_map, List.getD_eq_getElem?_getD, List.getElem?_eq_getElem (by omega)]; rfl)
theorem getD_mem {ns : List Int} {i : Nat} (h : i < ns.length) : ns.getD i 0 ∈ ns := by
  rw [List.getD_eq_getElem?_getD, List.getElem?_eq_getElem h]; exact List.getElem_mem h
theorem while_ {c : TT} {μ : L2.St → Hp → Nat} (Pv : L2.St → Hp → Prop) (h0 : Pv σ H)
    (hs : ∀ σ H, Pv σ H → c σ H fun b H1 => if b = true then t { D with nx := fun σ' H' => Pv σ' H' ∧ μ σ' H' < μ σ H, ct := fun σ' H' => Pv σ' H' ∧ μ σ' H' < μ σ H, bk := D.nx } σ H1 else D.nx σ H1)
    (mono : ∀ σ H Q Q', (∀ b H1, Q b H1 → Q' b H1) → c σ H Q → c σ H Q') : tWhile c t D σ H := while_by Pv μ h0 hs mono
theorem same_oth {f : Addr} {H0 H2 : Hp} (n : H0 f = none) (s : Same H0 H) (o : Oth f H H2) : Same H0 H2 := fun b u e => o b u (ne_of_none e n) (s b u e)
theorem e_bm {T : String} {r : V → List V → Hp → VK → Prop} {to : TE} {ts : TA} (h : to σ H fun x H1 => tyV K T x H1 ∧ ts σ H1 fun xs H2 => r x xs H2 Q) : tBM K T r to ts σ H Q := h
theorem ty_lst {f : Addr} {R : Prop} (h : H f = some (.lst xs)) (q : R) : tyV K "list" (.ref f) H ∧ R := ⟨.inl ⟨rfl, xs, slO h⟩, q⟩
theorem r_app {f : Addr} {y : V} (h : H f = some (.lst xs)) (hl : xs.length < 100000) (q : ∀ H2, Oth f H H2 → H2 f = some (.lst (xs ++ [y])) → Q .non H2) : rAppend (.ref f) [y] H Q :=
  ⟨f, xs, y, rfl, rfl, h, lt_size hl, q _ (fun b o n z => by rw [upd_ne n]; exact z) upd_same⟩
theorem o_cat {r' : R2} {l b : Addr} {ys : List V} (h1 : H l = some (.lst xs)) (h2 : H b = some (.lst ys)) (hl : xs.length + ys.length < 100000) (q : NewQ (.lst (xs ++ ys)) H Q) : rOr rIAdd (rOr rCat r') (.ref l) (.ref b) H Q := .inr (.inl ⟨l, b, xs, ys, rfl, rfl, h1, h2, le_size hl, q⟩)
theorem e_din {ty td : TE} (h : ty σ H fun y H1 => td σ H1 fun x H2 => ∃ a o, x = .ref a ∧ DGet H2 a y o ∧ Q (.bl o.isSome) H2) : tDIn ty td σ H Q := h
theorem g_din {PO : Option V → Prop} {d : Addr} {kvs : List (Key × V)} {k : Key} (h : H d = some (.dK kvs)) (q : PO (valV kvs k)) : ∃ a o, V.ref d = .ref a ∧ DGet H a (kV k) o ∧ PO o := ⟨d, _, rfl, DGet.k h, q⟩
theorem e_sl {r : V → Option Int → Option Int → Hp → VK → Prop} {tl th : TO} (h : te σ H fun x H1 => tl σ H1 fun l H2 => th σ H2 fun u H3 => r x l u H3 Q) : tSl r te tl th σ H Q := h
theorem e_np {R : Option Int → Hp → Prop} (h : R none H) : tNoPart σ H R := h
theorem e_pt {R : Option Int → Hp → Prop} (h : te σ H fun x H1 => ∃ i, x = .int i ∧ R (some i) H1) : tPart te σ H R := h
theorem e_ptI {PI : Int → Prop} {i : Int} (h : PI i) : ∃ j, V.int i = .int j ∧ PI j := ⟨i, rfl, h⟩
theorem r_sl {lo hi : Option Int} (s : SqL K H a xs) (q : NewQ (.lst (cutV xs lo hi)) H Q) : rSlL K (.ref a) lo hi H Q := ⟨a, xs, rfl, s, q⟩
theorem cut_map {f : Int → V} (ns : List Int) (lo hi : Option Int) : ∃ ms : List Int, cutV (ns.map f) lo hi = ms.map f ∧ ms.length ≤ ns.length ∧ ∀ z ∈ ms, z ∈ ns := by
  have key : ∀ a b : Nat, ∃ ms : List Int, ((ns.map f).drop a).take b = ms.map f ∧ ms.length ≤ ns.length ∧ ∀ z ∈ ms, z ∈ ns := fun a b =>
    ⟨(ns.drop a).take b, by rw [List.map_take, List.map_drop], by rw [List.length_take, List.length_drop]; omega, fun z hz => List.mem_of_mem_drop (List.mem_of_mem_take hz)⟩
  exact key _ _
theorem eqV_int {a b : Int} : eqV (.int a) (.int b) = decide (a = b) := by
  show (a == b) = _
  by_cases h : a = b
  · rw [h]; simp
  · simp [h]
theorem inV_int {z : Int} {ns : List Int} : inV (.int z) (ns.map V.int) = decide (z ∈ ns) := by
  unfold inV
  rw [List.any_map, Bool.eq_iff_iff, List.any_eq_true, decide_eq_true_eq]
  constructor
  · rintro ⟨y, hy, e⟩
    have := eqV_int (a := y) (b := z)
    have e : eqV (.int y) (.int z) = true := e
    rw [this, decide_eq_true_eq] at e
    rw [← e]; exact hy
  · intro h
    refine ⟨z, h, ?_⟩
    show eqV (.int z) (.int z) = true
    rw [eqV_int]; simp
theorem flat_ints {ns : List Int} : (ns.map V.int).all flatV = true := by
  rw [List.all_map, List.all_eq_true]; exact fun _ _ => rfl
theorem o_inL {p : Addr} {z : Int} {ns : List Int} (s : SqL K H p (ns.map V.int)) (q : Q (.bl (decide (z ∈ ns))) H) : rIn K false (.int z) (.ref p) H Q := ⟨p, _, rfl, .inl s, rfl, flat_ints, by rw [inV_int]; exact q⟩
theorem o_inT {p : Addr} {z : Int} {ns : List Int} (s : SqT K H p (ns.map V.int)) (q : Q (.bl (decide (z ∈ ns))) H) : rIn K false (.int z) (.ref p) H Q := ⟨p, _, rfl, .inr s, rfl, flat_ints, by rw [inV_int]; exact q⟩
theorem o_niL {p : Addr} {z : Int} {ns : List Int} (s : SqL K H p (ns.map V.int)) (q : Q (.bl (decide (z ∉ ns))) H) : rIn K true (.int z) (.ref p) H Q := ⟨p, _, rfl, .inl s, rfl, flat_ints, by
  have e : (!decide (z ∈ ns)) = decide (z ∉ ns) := by simp
  rw [inV_int]; show Q (.bl (!decide (z ∈ ns))) H; rw [e]; exact q⟩
theorem o_niT {p : Addr} {z : Int} {ns : List Int} (s : SqT K H p (ns.map V.int)) (q : Q (.bl (decide (z ∉ ns))) H) : rIn K true (.int z) (.ref p) H Q := ⟨p, _, rfl, .inr s, rfl, flat_ints, by
  have e : (!decide (z ∈ ns)) = decide (z ∉ ns) := by simp
  rw [inV_int]; show Q (.bl (!decide (z ∈ ns))) H; rw [e]; exact q⟩
def SortQ (ns : List Int) (H : Hp) (Q : VK) : Prop := ∀ (ns' : List Int) p H2, ns'.Perm ns → ns'.Pairwise (· ≤ ·) → H p = none → Same H H2 → H2 p = some (.lst (ns'.map V.int)) → Q (.ref p) H2
theorem c_sortI {p : Addr} {ns : List Int} (s : SqL K H p (ns.map V.int)) (q : SortQ ns H Q) : rSortedI K [.ref p] H Q := ⟨p, ns, rfl, s, fun ns' r h1 h2 n => q ns' r _ h1 h2 n (Same.new n) upd_same⟩
theorem s_while (h : tWhile tt t D σ H) : tWhile tt t D σ H := h
end
/-! ### what a reading asks is monotone (for the parts of a comprehension): by the shape -/
section
variable {ta tb te : TE} {c d : TT}
abbrev MoE (te : TE) : Prop := ∀ σ H (R R' : VK), (∀ v H1, R v H1 → R' v H1) → te σ H R → te σ H R'
abbrev MoT (c : TT) : Prop := ∀ σ H (R R' : Bool → Hp → Prop), (∀ b H1, R b H1 → R' b H1) → c σ H R → c σ H R'
abbrev MoA (t : TA) : Prop := ∀ σ H (R R' : List V → Hp → Prop), (∀ v H1, R v H1 → R' v H1) → t σ H R → t σ H R'
abbrev Mo2 (r : R2) : Prop := ∀ x y H (R R' : VK), (∀ v H1, R v H1 → R' v H1) → r x y H R → r x y H R'
abbrev MoC (r : List V → Hp → VK → Prop) : Prop := ∀ x H (R R' : VK), (∀ v H1, R v H1 → R' v H1) → r x H R → r x H R'
abbrev MoSp (r : Sp) : Prop := ∀ x H (R R' : VK) E, (∀ v H1, R v H1 → R' v H1) → r x H R E → r x H R' E
theorem m_yes : MoT tYes := fun _ H _ _ h q => h _ _ q
theorem m_var {i : Nat} : MoE (tVar i) := fun _ H _ _ h q => q.elim fun v q => ⟨v, q.1, h _ _ q.2⟩
theorem m_c {v : V} : MoE (tC v) := fun _ H _ _ h q => h _ _ q
theorem m_op {r : R2} (hr : Mo2 r) (ha : MoE ta) (hb : MoE tb) : MoE (tOp r ta tb) := fun σ H _ _ h q => ha σ H _ _ (fun x H1 => hb σ H1 _ _ fun y H2 => hr x y H2 _ _ h) q
theorem m_test (h : MoE te) : MoT (tTest te) := fun σ H _ _ k q => h σ H _ _ (fun x H1 ⟨b, e, z⟩ => ⟨b, e, k b H1 z⟩) q
theorem m_tB (h : MoE te) : MoT (tB te) := fun σ H _ _ k q => h σ H _ _ (fun x H1 ⟨b, e, z⟩ => ⟨b, e, k b H1 z⟩) q
theorem m_nil : MoA tNil := fun _ H _ _ h q => h _ _ q
theorem m_cons {tr : TA} (ha : MoE ta) (hr : MoA tr) : MoA (tCons ta tr) := fun σ H _ _ h q => ha σ H _ _ (fun x H1 => hr σ H1 _ _ fun xs H2 => h (x :: xs) H2) q
theorem m_cb {r : List V → Hp → VK → Prop} {tt : TA} (hr : MoC r) (ht : MoA tt) : MoE (tCB r tt) := fun σ H _ _ h q => ht σ H _ _ (fun x H1 => hr x H1 _ _ h) q
theorem m_call {sp : Sp} {dvs : List V} {E : XK} {tt : TA} (hr : MoSp sp) (ht : MoA tt) : MoE (tCall sp dvs E tt) := fun σ H _ _ h q => ht σ H _ _ (fun x H1 => hr _ H1 _ _ E h) q
theorem m_or {r r' : R2} (a : Mo2 r) (b : Mo2 r') : Mo2 (rOr r r') := fun x y H _ _ h q => q.elim (fun q => .inl (a x y H _ _ h q)) fun q => .inr (b x y H _ _ h q)
theorem m_I0 {f : Int → Int → V} : Mo2 (rI0 f) := fun x y H _ _ h ⟨i, j, e1, e2, q⟩ => ⟨i, j, e1, e2, h _ _ q⟩
theorem m_I {C : Int → Int → Prop} {f : Int → Int → V} : Mo2 (rI C f) := fun x y H _ _ h ⟨i, j, e1, e2, c, q⟩ => ⟨i, j, e1, e2, c, h _ _ q⟩
theorem m_ix {K : PySem.W.Frag} : Mo2 (rIxLT K) := fun x y H _ _ h q => q.elim (fun ⟨p, xs, i, v, e1, e2, s, e, q⟩ => .inl ⟨p, xs, i, v, e1, e2, s, e, h _ _ q⟩) fun ⟨p, xs, i, v, e1, e2, s, e, q⟩ => .inr ⟨p, xs, i, v, e1, e2, s, e, h _ _ q⟩
theorem m_in {K : PySem.W.Frag} {n : Bool} : Mo2 (rIn K n) := fun x y H _ _ h ⟨p, xs, e1, s, f1, f2, q⟩ => ⟨p, xs, e1, s, f1, f2, h _ _ q⟩
theorem m_cat : Mo2 rCat := fun x y H _ _ h ⟨l, b, xs, zs, e1, e2, h1, h2, h3, q⟩ => ⟨l, b, xs, zs, e1, e2, h1, h2, h3, fun p hp => h _ _ (q p hp)⟩
theorem m_sadd : Mo2 rSAdd' := fun x y H _ _ h ⟨i, j, e1, e2, h1, q⟩ => ⟨i, j, e1, e2, h1, h _ _ q⟩
theorem m_add : Mo2 (rOr rIAdd (rOr rCat rSAdd')) := m_or m_I0 (m_or m_cat m_sadd)
theorem m_and (h1 : MoT c) (h2 : MoT d) : MoT (tAnd c d) := fun σ H _ _ k q => h1 σ H _ _ (fun b H1 z => by cases b with
  | true => rw [if_pos rfl] at z ⊢; exact h2 σ H1 _ _ k z
  | false => rw [if_neg Bool.false_ne_true] at z ⊢; exact k _ _ z) q
theorem m_int1 : MoC rInt1 := fun x H _ _ h q => q.elim (fun ⟨i, e, q⟩ => .inl ⟨i, e, h _ _ q⟩) fun ⟨i, e, q⟩ => .inr ⟨i, e, h _ _ q⟩
theorem m_abs : MoC rAbs := fun x H _ _ h ⟨i, e, q⟩ => ⟨i, e, h _ _ q⟩
end
end Vw

set_option Elab.async false
set_option linter.all false
set_option maxRecDepth 100000
set_option maxHeartbeats 4000000
namespace Vw
open PySem PySem.Spec PyProof.Rows L2
/-- a set as it is made -/
abbrev so0 (w : World) : Obj := { cls := .type "set", dict := none, data := .set #[] 0 (.fresh 0 0 (!w.params.followText "set-order")) }
abbrev li0 (l : Addr) : Obj := { cls := .type "list_iterator", data := .fields #[.ref l, .int 0 0] }
section
variable {P : Program} {w : World} {A : Around} {E : Value → Shared → Prop} {s : Shared}
/-- what the filling of a new set by a list of ints leaves -/
def Filled (w : World) (s : Shared) (ns : List Int) (s2 : Shared) : Prop := ∃ h' tk c, s2 = { s with heap := h', toks := tk } ∧ SetR w h' s.heap.objs.size (fun j => decide (j ∈ ns)) c ∧ c ≤ ns.length ∧ ∀ b o, s.heap.get? b = some o → h'.get? b = some o
abbrev fillQ (P : Program) (w : World) (A0 : Around) (E : Value → Shared → Prop) (s : Shared) (ns : List Int) : Result → Shared → Prop := wants (fun r s2 => r = Value.none ∧ Filled w s ns s2) E
theorem fill_list {A0 : Around} {l : Addr} {items : Array Value} (ns : List Int) (hh : A.handled = none) (hl : s.heap.IsList l items) (hit : IntsAre items.toList ns) (hb : ns.length + 1 < scanBound) :
    wpAny (model P w) A (Builtin.«set.__init__» ⟨[.ref s.heap.objs.size, .ref l], []⟩) (fun fin s' => match fin with | .done f => fillQ P w A0 E s ns (.ok f) s' | .again c' => c'.quiet = true ∧ codeAny (model P w) A0 c' (fillQ P w A0 E s ns) s') (fun e s' => fillQ P w A0 E s ns (.error e) s') { s with heap := s.heap.push (so0 w) } := by
  have hz : items.size = ns.length := by have q := IntsAre.length hit; rw [Array.length_toList] at q; exact q
  have hS : (s.heap.push (so0 w)).get? s.heap.objs.size = some (so0 w) := Heap.get?_push_size _ rfl
  obtain ⟨ol, hol, hcl, nl, hdl⟩ := hl
  obtain ⟨ocls, odict, odata, oslots⟩ := ol
  simp only at hcl hdl
  subst hcl hdl
  have hol' : (s.heap.push (so0 w)).get? l = some { cls := .type "list", dict := odict, data := .seq items nl, slots := oslots } := Heap.get?_push_of_some _ hol
  have ha := F.sub_list_set; have hf := F.sub_list_frozenset
  have hd : (Value.type "list" == Value.type "dict") = false := by decide
  have hl1 : (s.heap.push (so0 w)).IsList l items := ⟨_, hol', rfl, nl, rfl⟩
  unfold Builtin.«set.__init__» noKeywords Builtin.Frozenset.updateFrom
  generalize hPI : pyIter = PI
  wp_walk
  subst hPI
  refine wpAny_pyIter_list hl1 ?_
  refine (wpAny_bind (wpAny_runValue ?_))
  have hls : l < s.heap.objs.size := Heap.lt_size hol
  have hi0 : A.in1.in1.handled = none := by simp [hh]
  have hsz : (s.heap.push (so0 w)).objs.size = s.heap.objs.size + 1 := Heap.size_push ..
  have hI : l ≠ (s.heap.push (so0 w)).objs.size := by rw [hsz]; exact Nat.ne_of_lt (Nat.lt_succ_of_lt hls)
  have hSf : s.heap.objs.size ∉ [(s.heap.push (so0 w)).objs.size, l] := by
    rw [hsz]; simp only [List.mem_cons, List.not_mem_nil, or_false, not_or]
    exact ⟨Nat.ne_of_lt (Nat.lt_succ_self _), Nat.ne_of_gt hls⟩
  have hval : ∀ (i : Nat) (v : Value), items[i]? = some v → ∃ k t, ns[i]? = some k ∧ v = .int k t := fun i v hv => by
    have hi : i < ns.length := by rw [← hz]; exact (Array.getElem?_eq_some_iff.mp hv).1
    obtain ⟨t, e⟩ := PyProof.Rows.IntsAre.int_at hit i v (by rw [Array.getElem?_toList]; exact hv)
    exact ⟨ns[i], t, List.getElem?_eq_getElem hi, by rw [e, List.getD_eq_getElem?_getD, List.getElem?_eq_getElem hi] <;> rfl⟩
  refine set_update_ints ((Walks.list (by simp [hh]) _ l hI items).toS) s.heap.objs.size hSf ns hz hb hval (items.size - 0) 0 _ (by omega) (Nat.zero_le _) ⟨⟨_, Heap.get?_push_size _ rfl, rfl, rfl⟩, (hl1.push _)⟩ ?h0 ?h1
  case h0 =>
    have hg : ((s.heap.push (so0 w)).push (li0 l)).get? s.heap.objs.size = some (so0 w) := Heap.get?_push_of_some _ hS
    exact ⟨0, Nat.le_refl 0, setR_new_at hg⟩
  case h1 =>
    intro s' c' hm hc' hS'
    obtain ⟨h', g2, d', tk', os'⟩ := s'
    have eg : g2 = s.gens := hm.gens
    have ed : d' = s.drawn := hm.drawn
    have eo : os' = s.os := hm.os
    subst eg ed eo
    show wpAny _ _ _ _ _ _
    refine wpAny_pure ?_
    show wpAny _ _ (ret Value.none) _ _ _
    refine wpAny_pure ⟨rfl, h', tk', c', rfl, hS', by omega, fun b o e => ?_⟩
    have hb0 : b < s.heap.objs.size := Heap.lt_size e
    refine hm.heap b o ?_ (Heap.get?_push_of_some _ (Heap.get?_push_of_some _ e))
    simp only [List.mem_cons, List.not_mem_nil, or_false, not_or]
    exact ⟨Nat.ne_of_lt hb0, by rw [hsz]; exact Nat.ne_of_lt (Nat.lt_succ_of_lt hb0)⟩
theorem set_of_list {l : Addr} {items : Array Value} (ns : List Int) {Q : Value → Shared → Prop} (hh : A.handled = none) (hl : s.heap.IsList l items) (hit : IntsAre items.toList ns) (hb : ns.length + 1 < scanBound)
    (h : ∀ s2, Filled w s ns s2 → Q (.ref s.heap.objs.size) s2) : wpAny (model P w) A (call (.type "set") [.ref l]) Q E s := by
  obtain ⟨c, tl, hmro⟩ := F.called_set.mro
  have hmade := F.called_set.made; have hsub := F.called_set.sub
  refine wpAny_call (codeAny_of_tree (show wpAny _ _ (callAny (.type "set") _) _ _ _ from wpAny_pure ⟨Code.quiet_builtin _ (by decide +kernel), codeAny_builtin F.entry_type_call ?_⟩))
  rw [Around.under_plain (weight_type_call_type "set" [.ref l] []) rfl]
  have h1 := F.called_set.notType; have h2 := F.called_set.canCreate; have h3 := F.typeCall_set_1 (.ref l)
  repeat (any_goals (first | assumption | wp_step))
  refine codeAny_mono (code_set_led1 (.ref l) (E := E) (Q₁ := fun obj s₁ => obj = .ref s.heap.objs.size ∧ s₁ = { s with heap := s.heap.push (so0 w) }) ⟨rfl, rfl⟩) fun r s₁ hr => ?_
  rcases r with e | fl
  · exact hr
  cases fl with
  | ret obj =>
    obtain ⟨rfl, rfl⟩ := hr
    have hS : (s.heap.push (so0 w)).get? s.heap.objs.size = some (so0 w) := Heap.get?_push_size _ rfl
    have hT : Shared.TypeIs { s with heap := s.heap.push (so0 w) } (.ref s.heap.objs.size) "set" := ⟨_, hS, rfl⟩
    have hi1 := F.called_set.init.lookup; have hi2 := F.called_set.init.bind (.ref s.heap.objs.size)
    repeat (any_goals (first | assumption | wp_step))
    refine codeAny_mono (codeAny_call_builtin (R := wants (fun r s2 => r = Value.none ∧ Filled w s ns s2) E) F.called_set.init.plain F.entry_set_init (check_set_init_1 hT (fill_list ns (by first | exact hh | simp [hh]) hl hit hb))) fun r₂ s₂ hr₂ => ?_
    rcases r₂ with e | fl₂
    · exact hr₂
    cases fl₂ with
    | ret r =>
      obtain ⟨rfl, hF⟩ := hr₂
      have hF' := hF
      obtain ⟨h', tk, c, rfl, _⟩ := hF'
      repeat (any_goals (first | assumption | wp_step))
      exact h _ hF
    | _ => exact hr₂.elim
  | _ => exact hr.elim
end
/-- set(xs) of a list of ints -/
def rSetL1 (K : PySem.W.Frag) (w : World) : List V → Hp → VK → Prop := fun xs H Q => ∃ (a : Addr) (ns : List Int), xs = [.ref a] ∧ SqL K H a (ns.map V.int) ∧ ns.length < 4000 ∧
  ∀ (p : Addr) (c : Nat), c ≤ ns.length → H p = none → Q (.ref p) (upd H p (SetO w p (fun j => decide (j ∈ ns)) c))
theorem cSetL {X : Cx} {K : PySem.W.Frag} {w : World} (hc : X.calm = true) (e : X.K = K := by rfl) (ew : X.w = w := by rfl) : CallR X (.type "set") (rSetL1 K w) := by
  cases e; cases ew
  intro pins s σ H xs us Q I r h
  obtain ⟨a, ns, rfl, hq, hl, q⟩ := h
  rw [Vals.ref1 r]
  obtain ⟨its, rv, p, hz⟩ := I.list hq
  refine set_of_list ns (I.ok.hd hc) p.isList (ints_of_vals rv) (by unfold scanBound; omega) fun s2 hF => ?_
  obtain ⟨h', tk, c, rfl, R, hcn, kp⟩ := hF
  exact ⟨.ref _, upd H s.heap.objs.size (SetO X.w s.heap.objs.size (fun j => decide (j ∈ ns)) c), I.laid (t' := tk) kp (Nat.le_refl _) (setO_new R), rfl, q _ c hcn (I.hok.fresh (Nat.le_refl _))⟩
def rSortSet (w : World) : List V → Hp → VK → Prop := fun vs H Q => ∃ (a : Addr) (S : Int → Bool) (n : Nat), vs = [V.ref a] ∧ H a = some (SetO w a S n) ∧ n < 64 ∧
  ∀ (ns : List Int) (p : Addr), ns.Pairwise (· < ·) → (∀ k : Int, k ∈ ns ↔ S k = true) → ns.length = n → H p = none → Q (.ref p) (upd H p (.lst (ns.map V.int)))
theorem cSortSet {X : Cx} {w : World} (hc : X.calm = true) (ew : X.w = w := by rfl) : CallR X (.builtin "sorted") (rSortSet w) := by cases ew; exact cr_sortedSet hc
theorem c_setL {K : PySem.W.Frag} {w : World} {H : Hp} {Q : VK} {a : Addr} {ns : List Int} (s : SqL K H a (ns.map V.int)) (hl : ns.length < 4000) (q : ∀ p c H2, c ≤ ns.length → H p = none → Same H H2 → H2 p = some (SetO w p (fun j => decide (j ∈ ns)) c) → Q (.ref p) H2) : rSetL1 K w [.ref a] H Q :=
  ⟨a, ns, rfl, s, hl, fun p c hc hp => q p c _ hc hp (Same.new hp) upd_same⟩
theorem c_sortS {w : World} {H : Hp} {Q : VK} {a : Addr} {S : Int → Bool} {n : Nat} (h : H a = some (SetO w a S n)) (hn : n < 64) (q : ∀ (ns : List Int) p H2, ns.Pairwise (· < ·) → (∀ k : Int, k ∈ ns ↔ S k = true) → ns.length = n → H p = none → Same H H2 → H2 p = some (.lst (ns.map V.int)) → Q (.ref p) H2) : rSortSet w [.ref a] H Q :=
  ⟨a, S, n, rfl, h, hn, fun ns p h1 h2 h3 hp => q ns p _ h1 h2 h3 hp (Same.new hp) upd_same⟩
end Vw

set_option Elab.async false
set_option linter.all false
set_option maxRecDepth 100000
set_option maxHeartbeats 4000000
namespace Vw
open PySem PySem.Spec PyProof.Rows L2
/-! ### a name gets a dict comprehension -/
section
variable {X : Cx}
abbrev BlkAll (X : Cx) (scope : Scope) (F : Cx → Prop) : Prop := ∀ (s : Shared) (H : Hp) (C : Addr) (cl : List (Str × Addr)) (fp : List Addr), F (X.blk s H scope (compEnvC scope cl C X.env) fp)
theorem swD_true {kx vx : Expr} {gs : List Comprehension} {scope : Scope} {pos py : Pos} {y : Str} {l : Nat} {env : Env} (h1 : env.scope.kind = .function) (h2 : env.scope.names.lookup y = some .local) (h3 : (py.line == pos.line) = true)
    (h4 : (scope.names.any fun (n, k) => n == y && (k == .local || k == .cell)) = false) : swapsWith (.DictComp kx vx gs scope pos) (some (.Name y py)) l env = pure true := by
  have e1 : env.kindOf y = some .local := h2
  have e2 : env.blockKind = .function := by unfold Env.blockKind; rw [h1]; rfl
  unfold swapsWith
  simp only [e2, e1, h4, Expr.pos, h3]; rfl
theorem ps_setDc {i : Nat} {y : Str} {py : Pos} {kx vx tg iter : Expr} {ifs : List Expr} {scope : Scope} {own : List (Str × Nat)} {pos spos : Pos} {wi : TI} {g : TG} {tt : TT} {tk tv : TE} (hc : X.calm = true) (hN : X.N.Nodup) (hy : X.N[i]? = some y) (hyl : X.env.scope.names.lookup y = some .local)
    (hsw : swapsWith (.DictComp kx vx [⟨tg, iter, ifs, 0⟩] scope pos) (some (.Name y py)) spos.line X.env = pure true) (hi : PI X tg iter wi) (ok : BlkOk X.N X.env.scope scope own) (hg : BlkAll X scope fun Y => PG Y tg g) (ht : BlkAll X scope fun Y => PTs Y ifs tt)
    (hk : BlkAll X scope fun Y => PE Y kx tk) (he : BlkAll X scope fun Y => PE Y vx tv) (hs : ∀ x, foldedSetIterable iter X.env x = pure x := by intro _; rfl) : PS X (.Assign [.Name y py] (.DictComp kx vx [⟨tg, iter, ifs, 0⟩] scope pos) spos) (tAsg (tDc wi g tt tk tv (own.map (·.2))) (gName i)) := by
  refine ⟨fun pins s σ H D I h => ?_⟩
  rw [exec_Assign_Name_used _ _ _ _ hsw]
  refine wpAny_bind (wpAny_standAt (wpAny_bind ?_))
  show wpAny _ X.A (do let _ ← comprehension (.DictComp kx vx [⟨tg, iter, ifs, 0⟩] scope pos) scope X.env (firstIterPos [⟨tg, iter, ifs, 0⟩] pos) newDict false (eval iter X.env) (some (assign (.Name y py) X.env))) _ _ s
  have h2 : tDc wi g tt tk tv (own.map (·.2)) σ H (fun x H1 => gName i x σ H1 D.nx) := h
  refine wpAny_bind (thn (dc_core (Qf := fun _ s' => SP X pins D .next s') hc hN I hi ok hg ht hk he hs h2 fun L C s' m H' I' q hn f => ?_) fun _ s' hq => wpAny_pure (wpAny_pure hq))
  show wpAny _ _ (assign (.Name y py) X.env (.ref L)) _ _ _
  refine wpAny_assign_Name (store_ok2 (v := V.ref L) I' hN hy (.inl hyl) rfl (fun s2 I2 ⟨a, sb, ha⟩ => ?_) (.inr hyl))
  obtain ⟨f0, f1, f2, f3, f4, f5⟩ := f
  have hne : C ≠ a := ha.elim (fun z => z ▸ f1) fun z e => f4 y a z e.symm
  exact ⟨m, hn.sameBut sb hne, fun h3 sb3 => ⟨_, H', I2.turned (t' := s2.toks) (fun b o hb e => (sb3.2 b hb).trans e) f0 f1 f3 f4 f5, q⟩⟩
end
end Vw

set_option Elab.async false
set_option linter.all false
set_option maxRecDepth 100000
set_option maxHeartbeats 4000000
namespace Vw
open PySem PySem.Spec PyProof.Rows L2 HT
/-! ### t[::-1] of a tuple -/
section
variable {prog : Program} {w : World} {A : Around} {E : Value → Shared → Prop} {s : Shared}
theorem backAdjust (n : Nat) : Builtin.Slice.sliceAdjust none none (-1) (n : Int) = ((n : Int) - 1, -1) := by
  unfold Builtin.Slice.sliceAdjust
  rfl
theorem backPlaces (n : Nat) : Builtin.Slice.slicePlaces ((n : Int) - 1) (-1) (-1) = n := by
  unfold Builtin.Slice.slicePlaces
  have h1 : ¬ ((-1 : Int) > 0) := by decide
  simp only [h1, if_false]
  have e : ((n : Int) - 1 - -1 - 1) / (- -1) = (n : Int) - 1 := by
    rw [show (- -1 : Int) = 1 by decide, Int.ediv_one]
    omega
  split
  · rw [e]; omega
  · omega
theorem sliceApplied_back {sl : Addr} {vs : Value} {n : Nat} {Q : Int × Int × Nat → Shared → Prop} (hs : s.heap.IsSliceOf sl .none .none vs) (ps : IsPart vs (some (-1)))
    (h : Q (((n : Int) - 1), -1, n) s) : wpAny (model prog w) A (Builtin.Slice.sliceApplied (.ref sl) (pure (n : Int))) Q E s := by
  obtain ⟨os, hos, hcs, hds⟩ := id hs
  unfold Builtin.Slice.sliceApplied Builtin.Slice.sliceFields
  refine wpAny_bind (wpAny_bind (wpAny_field hos hds (x := .none) rfl (wpAny_bind (wpAny_field hos hds (x := .none) rfl (wpAny_bind (wpAny_field hos hds (x := vs) rfl (wpAny_pure ?_)))))))
  refine wpAny_bind (slicePart_ ps ?_)
  show wpAny _ _ (if ((-1 : Int) == 0) = true then _ else _) _ _ s
  rw [if_neg (by decide)]
  refine wpAny_bind (slicePart_none (wpAny_bind (slicePart_none (wpAny_bind (wpAny_pure ?_)))))
  show wpAny _ _ (match Builtin.Slice.sliceAdjust none none (-1) (n : Int) with | (lo, hi) => pure (lo, (-1 : Int), Builtin.Slice.slicePlaces lo hi (-1))) _ _ s
  rw [backAdjust n]
  show wpAny _ _ (pure (((n : Int) - 1), (-1 : Int), Builtin.Slice.slicePlaces ((n : Int) - 1) (-1) (-1))) _ _ s
  rw [backPlaces]
  exact wpAny_pure h
theorem pick_back (xs : Array Value) : ((List.range xs.size).filterMap fun (m : Nat) => xs[((xs.size : Int) - 1 + (m : Int) * (-1)).toNat]?).toArray = xs.toList.reverse.toArray := by
  have e : (List.range xs.size).filterMap (fun (m : Nat) => xs[((xs.size : Int) - 1 + (m : Int) * (-1)).toNat]?) = ((List.range xs.size).map fun k => xs.size - 1 - k).filterMap (xs[·]?) := by
    have e2 : (List.range xs.size).map (fun k => xs.size - 1 - k) = (List.range xs.size).map fun (m : Nat) => ((xs.size : Int) - 1 + (m : Int) * (-1)).toNat := by
      apply List.map_congr_left
      intro m hm
      have := List.mem_range.mp hm
      omega
    rw [e2, List.filterMap_map]
    rfl
  rw [e, PySem.W.krv_range, List.filterMap_reverse, PySem.W.krv_all]
theorem getItem_tuple_back {t sl : Addr} {items : Array Value} {vs : Value} {Q : Value → Shared → Prop} (ht : IsTup s.heap t items) (hs : s.heap.IsSliceOf sl .none .none vs) (ps : IsPart vs (some (-1)))
    (h : Q (.ref s.heap.objs.size) { s with heap := s.heap.push { cls := .type "tuple", data := .seq items.toList.reverse.toArray } })
    (hsz : items.size ≤ sizeLine) : wpAny (model prog w) A (getItem (.ref t) (.ref sl)) Q E s := by
  have htake : sizeOk (.seq items.toList.reverse.toArray) := by
    show items.toList.reverse.toArray.size ≤ sizeLine
    rw [List.size_toArray, List.length_reverse, Array.length_toList]
    exact hsz
  obtain ⟨os, hos, hcs, hds⟩ := id hs
  have hTs : s.TypeIs (.ref sl) "slice" := ⟨os, hos, hcs⟩
  unfold getItem
  try with_reducible refine wpAny_holding ?_
  first | refine wpAny_bind (wpAny_pure ?_) | skip
  refine wpAny_bind (wpAny_sequenceKey ht.typeIs (by decide) ?_)
  refine wpAny_bind (wpAny_callSpecial?_slot (name := Str.ofString "__getitem__") ht.typeIs PyProof.Rows.slot_tuple_getitem
    (wpAny_call_entry PyProof.Rows.slot_tuple_getitem ht.typeIs entry_tuple_getitem ?_ (args_tuple_getitem _ _)))
  show wpAny _ _ (Builtin.Tuple.tupleItemsOf (.ref t) >>= _) _ _ s
  refine wpAny_bind (tupleItemsOf_ ht ?_)
  refine wpAny_bind (wpAny_typeOf hTs ?_)
  rw [if_pos (by decide)]
  refine wpAny_bind (sliceApplied_back hs ps ?_)
  have hno : ¬ ((((items.size : Int) - 1) == 0 && (-1 : Int) == 1 && items.size == items.size) = true) := by
    intro q
    rw [Bool.and_eq_true, Bool.and_eq_true] at q
    exact absurd q.1.2 (by decide)
  show wpAny _ _ (if (((items.size : Int) - 1) == 0 && (-1 : Int) == 1 && items.size == items.size) = true then _ else _) _ _ s
  rw [if_neg hno, pick_back]
  first
    | exact wpAny_bind (m := Builtin.Tuple.tupleExact _) (wpAny_newObj_type (wpAny_pure ⟨_, rfl, wpAny_pure h⟩) htake)
    | exact wpAny_bind (m := Builtin.Tuple.tupleExact _) (wpAny_newObj_type (wpAny_bind (wpAny_pure (wpAny_pure ⟨_, rfl, wpAny_pure h⟩))) htake)
    | exact wpAny_bind (wpAny_bind (m := Builtin.Tuple.tupleExact _) (wpAny_newObj_type (wpAny_pure (wpAny_pure ⟨_, rfl, wpAny_pure h⟩)) htake))
    | exact wpAny_bind (wpAny_bind (m := Builtin.Tuple.tupleExact _) (wpAny_newObj_type (wpAny_pure ⟨_, rfl, wpAny_pure h⟩) htake))
end
section
variable {X : Cx}
def tRevT (K : PySem.W.Frag) (te : TE) : TE := fun σ H Q => te σ H fun x H1 => ∃ a xs, x = .ref a ∧ SqT K H1 a xs ∧ ∀ p, H1 p = none → Q (.ref p) (upd H1 p (.tup xs.reverse))
theorem pe_revT {K : PySem.W.Frag} {e : Expr} {te : TE} {k : Nat} {p1 p2 p3 pos : Pos} (he : PE X e te) (eK : X.K = K := by rfl) : PE X (.Subscript e (.Slice none none (some (.UnaryOp .USub (.Constant (.int 1) k p1) p2)) p3) pos) (tRevT K te) := by
  cases eK
  refine ⟨fun pins s σ H Q I h => ?_⟩
  refine Subscript_ (thn (he.run pins s σ H _ I h) fun v s1 ⟨x, H1, I1, r1, q1⟩ => ?_)
  obtain ⟨a, xs, ex, hx, q⟩ := q1
  subst ex
  cases r1
  have hst : PO X (some (.UnaryOp .USub (.Constant (.int 1) k p1) p2)) (tPart (tUn (rU fun i => .int (-i)) (tC (.int 1)))) := po_some (pe_un un_neg pe_int)
  refine wpAny_Slice (thn (po_none.run pins s1 σ H1 (fun o H2 => o = none ∧ H2 = H1) I1 ⟨rfl, rfl⟩) fun vl s2 ⟨l, H2, I2, pl, el, e2⟩ => ?_)
  subst el e2
  cases pl
  refine thn (po_none.run pins s2 σ H2 (fun o H3 => o = none ∧ H3 = H2) I2 ⟨rfl, rfl⟩) fun vu s3 ⟨u, H3, I3, pu, eu, e3⟩ => ?_
  subst eu e3
  cases pu
  refine thn (hst.run pins s3 σ H3 (fun o H4 => o = some (-1) ∧ H4 = H3) I3 ⟨1, rfl, -1, rfl, rfl, rfl⟩) fun vs s4 ⟨o, H4, I4, ps, eo, e4⟩ => ?_
  subst eo e4
  have I5 : Inv X pins σ H4 { s4 with heap := s4.heap.push { cls := .type "slice", data := .fields #[.none, .none, vs] } } := I4.kept (t' := s4.toks) fun b ob q => Heap.get?_push_of_some _ q
  obtain ⟨its, r, ht, hz⟩ := I5.tuple hx
  have hlen := r.length
  show wpAny (model X.prog X.w) X.A (subscriptTail e (.Slice none none (some (.UnaryOp .USub (.Constant (.int 1) k p1) p2)) p3) (.ref a) (.ref s4.heap.objs.size)) (EP X pins σ Q) X.xe { s4 with heap := s4.heap.push { cls := .type "slice", data := .fields #[.none, .none, vs] } }
  refine tail_any (ops := [.ref a, .ref s4.heap.objs.size]) ht.typeIs (PyProof.Rows.slot_tuple_getitem.lookup) ?_ (by with_unfolding_all rfl)
  refine getItem_tuple_back ht (Heap.IsSliceOf.new _ .none .none vs) ps ?_ (by rw [List.size_toArray]; omega)
  refine ⟨.ref _, _, I5.laid (t' := s4.toks) (o := .tup xs.reverse) (fun b ob q => Heap.get?_push_of_some _ q) (Nat.le_refl _) ?_, rfl, q _ (I5.hok.fresh (Nat.le_refl _))⟩
  exact ⟨by rw [List.length_reverse]; exact hz, _, r.reverse, IsTup.new _ _⟩
end
end Vw

set_option Elab.async false
set_option linter.all false
set_option maxRecDepth 100000
set_option maxHeartbeats 4000000
namespace Vw
open PySem PySem.Spec PyProof.Rows L2 RT
/-! ### more rules under one name -/
section
variable {X : Cx} {K : PySem.W.Frag}
theorem oAddT (e : X.K = K := by rfl) : OpR X (binaryOp .Add) (rOr rIAdd (rOr rCat (rCatA K))) := by cases e; exact oOr op_add (oOr op_cat op_catA)
theorem slA (e : X.K = K := by rfl) : SlR X (rSlA K) := by cases e; exact sl_tupA
def rLenD : List V → Hp → VK → Prop := fun xs H Q => ∃ a kvs, xs = [V.ref a] ∧ H a = some (.dK kvs) ∧ Q (.int kvs.length) H
theorem cLenD : CallR X (.builtin "len") rLenD := call_lenD
theorem piZip {e e2 : Expr} {ta : TA} {p pos tpos : Pos} {elts : List Expr} {kk : Nat} (hg : Gl X "zip") (hm : X.mg "zip" = none) (ha : PA X [e, e2] ta) (eK : X.K = K := by rfl)
    (hs : starEach [e, e2] X.env = (false, eval e X.env) :: starEach [e2] X.env := by rfl) (hb : ((backTo pos (starEach [e2] X.env)).any fun x => x.fst) = false := by rfl) :
    PI X (.Tuple elts kk tpos) (.Call (.Name "zip" p) [e, e2] [] pos) (iZip K ta) := by cases eK; exact pi_zip hg hm ha hs hb
/-- over a list or a tuple -/
def iOr (w1 w2 : TI) : TI := fun σ H R => w1 σ H R ∨ w2 σ H R
theorem piOr {tg l : Expr} {w1 w2 : TI} (h1 : PI X tg l w1) (h2 : PI X tg l w2) : PI X tg l (iOr w1 w2) := ⟨fun pins s σ H R I h => h.elim (h1.run pins s σ H R I) (h2.run pins s σ H R I)⟩
theorem piX {tg l : Expr} {tl : TE} (hl : PE X l tl) (e : X.K = K := by rfl) : PI X tg l (iOr (iList K tl) (iTup K tl)) := piOr (piL (K := K) hl e) (piT (K := K) hl e)
end
section
variable {K : PySem.W.Frag} {σ : L2.St} {H H1 : Hp} {Q : VK} {R : It → Hp → Prop} {i : Nat} {a : Addr} {xs : List V}
theorem i_orX {H0 : Hp} (hv : σ[i]? = some (some (.ref a))) (s : SqX K H0 a xs) (ss : Same H0 H) (h : ∀ J G, (∀ H', Same H0 H' → G H') → Walk J xs.length G (fun i H x H' => H' = H ∧ xs[i]? = some x) → R J H) : iOr (iList K (tVar i)) (iTup K (tVar i)) σ H R :=
  s.elim (fun s => .inl ⟨.ref a, hv, a, rfl, ⟨xs, sl_ ss s⟩, h _ _ (fun H' q => sl_ q s) walk_list⟩) fun s => .inr ⟨.ref a, hv, a, rfl, ⟨xs, st_ ss s⟩, h _ _ (fun H' q => st_ q s) walk_tup⟩
def ZpQ (K : PySem.W.Frag) (R : It → Hp → Prop) (vs : List V) (H1 : Hp) : Prop := ∃ a b xs ys, vs = [V.ref a, V.ref b] ∧ SqL K H1 a xs ∧ SqL K H1 b ys ∧ R (Itz K a b) H1
theorem i_zip0 {ta : TA} (h : ta σ H fun vs H1 => ZpQ K R vs H1) : iZip K ta σ H R := h
theorem i_zip {b : Addr} {ys : List V} (h1 : SqL K H a xs) (h2 : SqL K H b ys) (q : R (Itz K a b) H) : ZpQ K R [.ref a, .ref b] H := ⟨a, b, xs, ys, rfl, h1, h2, q⟩
theorem e_lenD {kvs : List (Key × V)} (h : H a = some (.dK kvs)) (q : Q (.int (kvs.length : Nat)) H) : rLenD [.ref a] H Q := ⟨a, kvs, rfl, h, q⟩
theorem o_catA {r r' : R2} {b : Addr} {ys : List V} (h1 : SqT K H a xs) (h2 : SqT K H b ys) (hl : xs.length + ys.length ≤ 100000) (q : ∀ p H2, Same H H2 → SqT K H2 p (xs ++ ys) → Q (.ref p) H2) : rOr r (rOr r' (rCatA K)) (.ref a) (.ref b) H Q := by
  refine .inr (.inr ⟨a, b, xs, ys, rfl, rfl, h1, h2, Nat.le_trans hl (by decide), fun e => ?_, fun _ e => ?_, fun _ _ p n => ?_⟩)
  · subst e; exact q b H (Same.refl _) h2
  · subst e; exact q a H (Same.refl _) (by rw [List.append_nil]; exact h1)
  · exact q p _ (Same.new n) (stO upd_same)
theorem r_slA {lo hi : Option Int} (h1 : SqT K H a xs) (q : ∀ p H2 ys, Same H H2 → SqT K H2 p ys → ys.length ≤ xs.length → (∀ y ∈ ys, y ∈ xs) → Q (.ref p) H2) : rSlA K (.ref a) lo hi H Q := by
  refine ⟨a, xs, rfl, h1, fun _ => q a H xs (Same.refl _) h1 (Nat.le_refl _) fun _ h => h, fun _ p n => q p _ _ (Same.new n) (stO upd_same) ?_ ?_⟩
  · exact cutV_length xs lo hi
  · have key : ∀ a b : Nat, ∀ y ∈ (xs.drop a).take b, y ∈ xs := fun a b y hy => List.mem_of_mem_drop (List.mem_of_mem_take hy)
    exact key _ _
theorem e_revT {te : TE} (h : te σ H fun x H1 => ∃ a xs, x = .ref a ∧ SqT K H1 a xs ∧ NewQ (.tup xs.reverse) H1 Q) : tRevT K te σ H Q := h
theorem r_revT {Q : VK} (s : SqT K H a xs) (q : NewQ (.tup xs.reverse) H Q) : ∃ a' xs, V.ref a = .ref a' ∧ SqT K H a' xs ∧ NewQ (.tup xs.reverse) H Q := ⟨a, xs, rfl, s, q⟩
theorem isB_bl {x y : Bool} (q : Q (.bl (decide (x = y))) H) : rIsB (.bl x) (.bl y) H Q := ⟨x, y, rfl, rfl, q⟩
theorem notB_bl {x y : Bool} (q : Q (.bl (!decide (x = y))) H) : rNotB (.bl x) (.bl y) H Q := ⟨x, y, rfl, rfl, q⟩
theorem o_neB {r' : R2} {x y : Bool} (q : Q (.bl (!decide (x = y))) H) : rOr rNe r' (.bl x) (.bl y) H Q := .inl ⟨rfl, by
  have e : (!decide (V.bl x = V.bl y)) = !decide (x = y) := by
    cases x <;> cases y <;> rfl
  rw [e]; exact q⟩
theorem isi_dk {kvs : List (Key × V)} {n : String} (b : Bool) (h : H a = some (.dK kvs)) (e : kitB "dict" n = some b) (q : Q (.bl b) H) : rIsi K [.ref a, .ty n] H Q := isi_ (.base (.dK h)) e q
theorem e_dnew (q : ∀ p H2, H p = none → Same H H2 → H2 p = some (.dK []) → Q (.ref p) H2) : tDNewK σ H Q := fun p n => q p _ n (Same.new n) upd_same
theorem e_disp1 {i j : Int} (q : ∀ p H2, H p = none → Same H H2 → H2 p = some (.dK [(Sum.inl i, .int j)]) → Q (.ref p) H2) : tDisp [(tC (.int i), tC (.int j))] σ H Q := fun p n =>
  ⟨upd_same, [(Sum.inl i, .int j)], rfl, by show 1 ≤ 15; decide, q p _ n (upd_free (Same.new n) n) upd_same⟩
theorem i_nrr {r : Bool} {A B : Prop} (q : B) : if (!decide (r = r)) = true then A else B := by
  rw [show (!decide (r = r)) = false by simp]
  exact iteF q
end
end Vw

set_option Elab.async false
set_option linter.all false
set_option maxRecDepth 100000
set_option maxHeartbeats 4000000
namespace Vw
open PySem PySem.Spec PyProof.Rows L2 RT
/-! ### own classes and their methods -/
structure ClsAt (K : PySem.W.Frag) (mg : Str → Option Value) (x : Str) (C : Addr) : Prop where
  cl : Cls K C
  mks : PySem.W.makesIn K C = true
  kc : PySem.W.keepIn K (.ref C) = true
  g : mg x = some (.ref C)
theorem clsAt_mk {K : PySem.W.Frag} {mg : Str → Option Value} {h : Heap} {x : Str} {C : Addr} (X : K.In h) (G : h.Ns mainGlobals mg) (a : PySem.W.nsIn K mainGlobals x = some (some (.ref C)))
    (pg : PySem.W.plainGet K C Str.empty = true) (hd : PySem.W.hasDictIn K C = true) (po : PySem.W.plainOver K C = true) (sa : PySem.W.findIn K (.ref C) "__setattr__" = some (some (.builtin "object.__setattr__")))
    (mk : PySem.W.makesIn K C = true) (kc : PySem.W.keepIn K (.ref C) = true) : ClsAt K mg x C := ⟨⟨pg, hd, po, sa⟩, mk, kc, PySem.W.mg_of X G a⟩
structure MethAt (K : PySem.W.Frag) (C : Addr) (m qual : Str) (st : Stmt) (ps : List Str) where
  f : Addr
  fd : FuncData
  F : Fun K m qual st f fd
  b : Binds K fd ps []
  i : Meth K C m f
def methAt_mk {K : PySem.W.Frag} {C : Addr} {m qual : Str} {st : Stmt} {ps : List Str} {f : Addr} {od an : Option Addr} {sl : Array (Option Value)} {oc kV dc pm cd ct : Value}
    (a : PySem.W.findIn K (.ref C) m = some (some (.ref f))) (i : PySem.W.isFn K (.ref f) = true) (l : K.lookup f = some ⟨oc, od, .func (PySem.W.fnOf m qual (defArgs st) (defBody st) (defScope st) .none kV dc pm an cd ct), sl⟩) (c : PySem.W.codeIn K cd qual = true) (k : PySem.W.keepIn K (.ref f) = true)
    (b : ∀ (kV doc pm : Value) (an : Option Addr) (cdv ct : Value) (us : List Value), us.length = ps.length → bindArgs (PySem.W.fnOf m qual (defArgs st) (defBody st) (defScope st) .none kV doc pm an cdv ct) ⟨us, []⟩ = pure (ps.zip us)) : MethAt K C m qual st ps :=
  ⟨f, _, fun_mk l c k, (fun_mk (st := st) l c k).binds b, ⟨a, i, k⟩⟩
theorem MethAt.made {K : PySem.W.Frag} {mg : Str → Option Value} {x qual : Str} {C : Addr} {st : Stmt} {ps : List Str} (A : ClsAt K mg x C) (M : MethAt K C "__init__" qual st ps) : Mk K C M.f := ⟨A.mks, M.i.at_, M.i.fn, A.kc⟩
/-- an own instance at p, its fields -/
def InsAt (C : Addr) (H : Hp) (p : Addr) (fs : List (Str × V)) : Prop := ∃ dx, H p = some (.ins C dx fs)
section
variable {K : PySem.W.Frag} {σ : L2.St} {H : Hp} {Q : VK} {ta : TE} {C p : Addr} {fs : List (Str × V)} {f : Str} {v : V}
def FldQ (K : PySem.W.Frag) (f : Str) (x : V) (H1 : Hp) (Q : VK) : Prop := ∃ p C dx fs v, x = .ref p ∧ H1 p = some (.ins C dx fs) ∧ Cls K C ∧ NoAttr K C f ∧ fs.lookup f = some v ∧ Q v H1
theorem e_fld (h : ta σ H fun x H1 => FldQ K f x H1 Q) : tFld K ta f σ H Q := h
theorem o_fld (h : InsAt C H p fs) (cl : Cls K C) (na : NoAttr K C f) (e : fs.lookup f = some v) (q : Q v H) : FldQ K f (.ref p) H Q := h.elim fun dx h => ⟨p, C, dx, fs, v, rfl, h, cl, na, e, q⟩
end
section
variable {K : PySem.W.Frag} {σ : L2.St} {H : Hp} {Q : VK} {ta tv : TE} {C p : Addr} {fs : List (Str × V)} {m f : Str} {v y : V} {D : Ends}
def MethQ (C : Addr) (m : Str) (sp : Sp) (dvs : List V) (E : XK) (t : TA) (σ : L2.St) (x : V) (H1 : Hp) (Q : VK) : Prop := ∃ a dx fs, x = .ref a ∧ H1 a = some (.ins C dx fs) ∧ fs.lookup m = none ∧ t σ H1 fun vs H2 => sp (x :: (vs ++ dvs)) H2 Q E
theorem e_meth {sp : Sp} {dvs : List V} {E : XK} {t : TA} (h : ta σ H fun x H1 => MethQ C m sp dvs E t σ x H1 Q) : tMeth C m sp dvs E ta t σ H Q := h
theorem m_call0 {sp : Sp} {dvs : List V} {E : XK} {t : TA} (h : InsAt C H p fs) (e : fs.lookup m = none) (q : t σ H fun vs H2 => sp (.ref p :: (vs ++ dvs)) H2 Q E) : MethQ C m sp dvs E t σ (.ref p) H Q := h.elim fun dx h => ⟨p, dx, fs, rfl, h, e, q⟩
def SetQ (K : PySem.W.Frag) (f : Str) (y x : V) (H2 : Hp) (R : Hp → Prop) : Prop := ∃ a C dx fs, x = .ref a ∧ H2 a = some (.ins C dx fs) ∧ Cls K C ∧ NoAttr K C f ∧ fs.length < 1000 ∧ R (upd H2 a (.ins C dx (putF f y fs)))
theorem s_setf (h : tv σ H fun y H1 => ta σ H1 fun x H2 => SetQ K f y x H2 fun H3 => D.nx σ H3) : sFld K ta tv f D σ H := h
theorem s_fld {dx : Addr} {R : Hp → Prop} {x : V} (ex : x = .ref p) (h : H p = some (.ins C dx fs)) (cl : Cls K C) (na : NoAttr K C f) (l : fs.length < 1000) (q : R (upd H p (.ins C dx (putF f y fs)))) : SetQ K f y x H R := ⟨p, C, dx, fs, ex, h, cl, na, l, q⟩
end
section
variable {K : PySem.W.Frag} {σ : L2.St} {H : Hp} {Q : VK} {td ty : TE} {d : Addr} {kvs : List (Key × V)} {k : Key} {v : V}
def DgQ (x y : V) (H2 : Hp) (Q : VK) : Prop := ∃ a v, x = .ref a ∧ DGet H2 a y (some v) ∧ Q v H2
theorem e_dget (h : td σ H fun x H1 => ty σ H1 fun y H2 => DgQ x y H2 Q) : tDGet td ty σ H Q := h
theorem o_dget (h : H d = some (.dK kvs)) (e : valV kvs k = some v) (q : Q v H) : DgQ (.ref d) (kV k) H Q := ⟨d, v, rfl, e ▸ DGet.k h, q⟩
end
section
variable {X : Cx} {K : PySem.W.Frag} {e o value : Expr} {f : Str} {pos pos' : Pos} {ta tv : TE}
theorem peFld (h : PE X e ta) (hb : attributeBase e f X.env (eval e X.env) = eval e X.env) (eK : X.K = K := by rfl) : PE X (.Attribute e f pos) (tFld K ta f) := by cases eK; exact pe_fld h hb
theorem psFld (ho : PE X o ta) (hv : PE X value tv) (hs : swapsWith value (some (.Attribute o f pos')) pos.line X.env = pure false) (eK : X.K = K := by rfl) : PS X (.Assign [.Attribute o f pos'] value pos) (sFld K ta tv f) := by cases eK; exact ps_fld ho hv hs
end
theorem oth_stI {K : PySem.W.Frag} {p a C dx : Addr} {H H' : Hp} {fs : List (Str × V)} {xs : List V} (o : Oth p H H') (n : H p = some (.ins C dx fs)) (s : SqT K H a xs) : SqT K H' a xs := by
  rcases s with (s | ⟨u, s⟩) | s
  · exact .inl (.inl (o _ _ (fun z => by rw [z, n] at s; cases s) s))
  · exact .inl (.inr ⟨u, o _ _ (fun z => by rw [z, n] at s; cases s) s⟩)
  · exact .inr s
section
variable {K : PySem.W.Frag} {σ : L2.St} {H : Hp} {Q : VK} {td ty tx : TE} {d : Addr} {kvs : List (Key × V)} {k : Key} {v z : V}
def SdQ (x : V) (H1 : Hp) (R : Addr → Prop) : Prop := ∃ a, x = .ref a ∧ IsD H1 a ∧ R a
def SeQ (a : Addr) (y z : V) (H3 : Hp) (Q : VK) : Prop := ∃ (kvs : List (Key × V)) (k : Key), H3 a = some (.dK kvs) ∧ y = kV k ∧ kvs.length < sizeLine ∧ (∀ v, valV kvs k = some v → Q v H3) ∧ (valV kvs k = none → Q z (upd H3 a (.dK (putK kvs k z))))
theorem e_dsetd (h : td σ H fun x H1 => SdQ x H1 fun a => ty σ H1 fun y H2 => tx σ H2 fun z H3 => SeQ a y z H3 Q) : tDSetd td ty tx σ H Q := h
theorem o_dsetd {R : Addr → Prop} (h : H d = some (.dK kvs)) (q : R d) : SdQ (.ref d) H R := ⟨d, rfl, .inl ⟨kvs, .inl h⟩, q⟩
theorem o_dset (h : H d = some (.dK kvs)) (l : kvs.length < 100000) (q1 : ∀ v, valV kvs k = some v → Q v H) (q2 : valV kvs k = none → Q z (upd H d (.dK (putK kvs k z)))) : SeQ d (kV k) z H Q := ⟨kvs, k, h, rfl, lt_size l, q1, q2⟩
end
/-! ### texts -/
def rTx (g : Str → Bool) : V → List V → Hp → VK → Prop := fun x xs H Q => ∃ a, x = .str a ∧ xs = [] ∧ True ∧ Q (.bl (g a)) H
section
variable {X : Cx} {K : PySem.W.Frag} {o : Expr} {to : TE} {apos cpos : Pos}
theorem peIsascii (ho : PE X o to) (hbase : attributeBase o "isascii" X.env (eval o X.env) = eval o X.env := by rfl) (hline : (apos.endLine == cpos.line) = true := by rfl) (eK : X.K = K := by rfl) : PE X (.Call (.Attribute o "isascii" apos) [] [] cpos) (tBM0 K "str" (rTx Txt.isascii) to) := by
  cases eK; exact pe_bm0 PySem.F.plainAttrs_str PySem.F.slot_str_isascii PySem.F.type_str_isascii mt_isascii ho hbase hline
theorem peIsalpha (ho : PE X o to) (hbase : attributeBase o "isalpha" X.env (eval o X.env) = eval o X.env := by rfl) (hline : (apos.endLine == cpos.line) = true := by rfl) (eK : X.K = K := by rfl) : PE X (.Call (.Attribute o "isalpha" apos) [] [] cpos) (tBM0 K "str" (rTx Txt.isalpha) to) := by
  cases eK; exact pe_bm0 PySem.F.plainAttrs_str PySem.F.slot_str_isalpha PySem.F.type_str_isalpha mt_isalpha ho hbase hline
theorem peIslower (ho : PE X o to) (hbase : attributeBase o "islower" X.env (eval o X.env) = eval o X.env := by rfl) (hline : (apos.endLine == cpos.line) = true := by rfl) (eK : X.K = K := by rfl) : PE X (.Call (.Attribute o "islower" apos) [] [] cpos) (tBM0 K "str" (rTx Txt.islower) to) := by
  cases eK; exact pe_bm0 PySem.F.plainAttrs_str PySem.F.slot_str_islower PySem.F.type_str_islower mt_islower ho hbase hline
end
section
variable {K : PySem.W.Frag} {σ : L2.St} {H : Hp} {Q : VK} {to : TE} {z y : Str} {r' : R2}
theorem e_bm0 {T : String} {r : V → List V → Hp → VK → Prop} (h : to σ H fun x H1 => tyV K T x H1 ∧ r x [] H1 Q) : tBM0 K T r to σ H Q := h
theorem r_tx {g : Str → Bool} (q : Q (.bl (g z)) H) : tyV K "str" (.str z) H ∧ rTx g (.str z) [] H Q := ⟨rfl, z, rfl, rfl, trivial, q⟩
theorem e_lenS (h : z.length ≤ 100000) (q : Q (.int (z.length : Nat)) H) : rLen' K [.str z] H Q := ⟨.str z, z.length, rfl, ⟨Nat.le_trans h (by decide), rfl⟩, q⟩
theorem o_eqStr (q : Q (.bl (decide (z = y))) H) : rOr rEq r' (.str z) (.str y) H Q := .inl ⟨rfl, by
  have e : decide (V.str z = V.str y) = decide (z = y) := by
    by_cases h : z = y
    · rw [decide_eq_true h, h]; exact decide_eq_true rfl
    · rw [decide_eq_false h]; exact decide_eq_false fun q => h (V.str.inj q)
  rw [e]; exact q⟩
theorem o_neStr (q : Q (.bl (decide (z ≠ y))) H) : rOr rNe r' (.str z) (.str y) H Q := .inl ⟨rfl, by
  have e : (!decide (V.str z = V.str y)) = decide (z ≠ y) := by
    by_cases h : z = y
    · rw [decide_eq_false (show ¬ z ≠ y from fun q => q h), h, decide_eq_true rfl]; rfl
    · rw [decide_eq_true (show z ≠ y from h), decide_eq_false fun q => h (V.str.inj q)]; rfl
  rw [e]; exact q⟩
end
theorem e_dnin {σ : L2.St} {H : Hp} {Q : VK} {ty td : TE} (h : ty σ H fun y H1 => td σ H1 fun x H2 => ∃ a o, x = .ref a ∧ DGet H2 a y o ∧ Q (.bl (!o.isSome)) H2) : tDNotIn ty td σ H Q := h
theorem while_m {c : TT} {t : TS} {D : Ends} {σ : L2.St} {H : Hp} (W : Nat → L2.St → Hp → Prop) (m0 : Nat) (h0 : W m0 σ H) (hs : ∀ m σ H, W m σ H → c σ H fun b H1 => if b = true then ∃ N : L2.St → Hp → Prop, (∀ σ' H', N σ' H' → ∃ m', m' < m ∧ W m' σ' H') ∧ t { D with nx := N, ct := N, bk := D.nx } σ H1 else D.nx σ H1) : tWhile c t D σ H := ⟨W, ⟨m0, h0⟩, hs⟩
end Vw

set_option Elab.async false
set_option linter.all false
set_option maxRecDepth 100000
set_option maxHeartbeats 4000000
namespace Vw
open PySem PySem.Spec PyProof.Rows L2 RT
/-! ### an own exception without fields, made by C(), its __init__ inherited and walked as a def -/
theorem mk_endN {X : Cx} {pins : List (Addr × Obj)} {σ : L2.St} {H1 : Hp} {Q : XK} {hp hp2 h2 : Heap} {g1 g2 : Array GenState} {d1 d2 : Drawn} {t1 t2 : Nat} {os1 os2 : OsState} {a C : Addr} (T : Raises X (.ref C)) (I1 : Inv X pins σ H1 ⟨hp, g1, d1, t1, os1⟩)
    (ha : hp.objs.size ≤ a) (k : ∀ b o, hp.get? b = some o → hp2.get? b = some o) (un : Un (frs X.stack) [] (upd H1 a (exo a C none)) (upd H1 a (exo a C none)) hp2 h2) (hok : HOk X.prog X.w (upd H1 a (exo a C none)) h2) (ho : os2 = os1) (hb : AllBare g2)
    (q : Q (.ref C) none H1) : MkP X pins σ Q (.ref a) ⟨h2, g2, d2, t2, os2⟩ := by
  obtain ⟨t0, hoe⟩ := exo_at hok (upd_same : upd H1 a (exo a C none) a = some (exo a C none))
  have hn : H1 a = none := I1.hok.fresh ha
  obtain ⟨G, g1', g2'⟩ := restrict h2 fun b => decide (b ≠ a)
  have gk : ∀ b, b ≠ a → G.get? b = h2.get? b := fun b hb => g1' b (decide_eq_true hb)
  have ge : G.get? a = none := g2' a (by simp)
  have nha : ∀ {b : Addr} {o : Obj}, hp.get? b = some o → b ≠ a := fun {b o} z => Nat.ne_of_lt (Nat.lt_of_lt_of_le (Heap.lt_size z) ha)
  have up : ∀ {b : Addr}, b ≠ a → H1 b = none → upd H1 a (exo a C none) b = none := fun {b} hb n => by rw [upd_ne hb]; exact n
  have U : Un (frs X.stack) [] H1 H1 hp G := {
    keep := fun b o z n hf hx => by
      rw [gk b (nha z)]
      exact un.keep b o (k b o z) (up (nha z) n) hf hx
    slot := fun b o z n hf hx => by
      rw [gk b (nha z)]
      exact un.slot b o (k b o z) (up (nha z) n) hf hx
    free := fun b o z n hx => n
    there := fun b o z hx => by
      rw [gk b (nha z)]
      exact un.there b o (k b o z) hx
    tups := fun b xs z => z
    frzs := fun b o v z => z
    tbls := fun b ps z => ⟨#[], by rw [Array.append_empty]; exact z⟩ }
  have ea : upd H1 a (exo a C none) a = some (exo a C none) := upd_same
  have hok3 : HOk X.prog X.w H1 G := fun b o z => by
    have hba : b ≠ a := fun e => by
      rw [e, hn] at z
      cases z
    have noa : ∀ {c : Addr}, upd H1 a (exo a C none) c = some (.own b) → c ≠ a := fun {c} hc => at_ne ea hc exo_own
    exact (hok b o (by rw [upd_ne hba]; exact z)).stay (fun c v hc y => by
        have hca : c ≠ a := by
          rcases hc with hc | hc
          · rw [hc]
            exact hba
          · exact noa hc
        rw [gk c hca]
        exact y)
      (fun c hc => by rw [upd_ne (noa hc)] at hc; exact hc) (fun c xs hc => by rw [upd_ne (at_ne ea hc exo_tup)] at hc; exact hc)
  have J : Inv X pins σ H1 ⟨G, g2, d2, t2, os2⟩ := I1.call' (ch := []) ho U hok3 hb (fun b z => absurd z (by simp))
  refine ⟨a, _, _, ⟨G, g2, d2, t2, os2⟩, _, .ref C, none, rfl, J, fun b o z => ?_, ge, hoe, ⟨rfl, rfl⟩, rfl, rfl, hn, rfl, hb, T, q⟩
  by_cases hba : b = a
  · rw [hba, ge] at z
    cases z
  · exact (gk b hba).symm.trans z
/-- C(), its __init__ keeping sp, which leaves the exception as it is -/
def tMkN (C : Addr) (sp : Sp) : L2.St → Hp → XK → Prop := fun σ H Q => ∀ a, H a = none → sp [.ref a] (upd H a (exo a C none))
  (fun v H2 => v = .non ∧ H2 = upd H a (exo a C none) ∧ Q (.ref C) none H) (fun _ _ _ => False)
section
variable {X : Cx}
theorem pmk_oexN {CX : CXT} {x : Str} {C fI : Addr} {k : Nat} {fd : FuncData} {ps : List Str} {sp : Sp} {p pos : Pos} (T : OexC X.K C) (iC : PySem.W.findIn X.K (.ref C) "__init__" = some (some (.ref fI))) (tI : PySem.W.typeIn X.K (.ref fI) = some (.type "function"))
    (F1 : FnOk X.prog X.w X.K X.mg X.base CX k fI fd ps sp) (hr : Room (k + 1) X.A) (hb : Binds X.K fd ps []) (hx : Passes CX X (fun _ _ _ => False)) (hg : Gl X x) (hm : X.mg x = some (.ref C))
    (hdb : (x == ("__debug__" : Str)) = false := by decide) :
    PMk X (.Call (.Name x p) [] [] pos) (tMkN C sp) := by
  intro pins s σ H Q I h
  obtain ⟨nm, q, N, bs, bm, sn, sub, ab, col, dd, k0, k1, k2, k3, k5, hC, hbm⟩ := T.cls
  refine wpAny_Call_Name_kw (ld_glob I hg hm ?_ hdb)
  refine PySem.W.callWith_K0 I.kIn T.kC ?_
  show wpAny _ _ (call (.ref C) []) _ _ _
  obtain ⟨hp, g, dr, tk, os⟩ := s
  have hsz : hp.objs.size ≤ hp.objs.size + 1 := Nat.le_succ _
  have hn : H (hp.objs.size + 1) = none := I.hok.fresh hsz
  have hq := h (hp.objs.size + 1) hn
  have kk : ∀ b o, hp.get? b = some o → ((hp.push (PySem.W.kdv_tup [])).push (PySem.HandSPX.excO C hp.objs.size)).get? b = some o := fun b o e => Heap.get?_push_of_some _ (Heap.get?_push_of_some _ e)
  have hget : ((hp.push (PySem.W.kdv_tup [])).push (PySem.HandSPX.excO C hp.objs.size)).get? (hp.objs.size + 1) = some (PySem.HandSPX.excO C hp.objs.size) := by heap_get
  have I2 : Inv X pins σ (upd H (hp.objs.size + 1) (exo (hp.objs.size + 1) C none)) ⟨(hp.push (PySem.W.kdv_tup [])).push (PySem.HandSPX.excO C hp.objs.size), g, dr, tk, os⟩ :=
    I.laid (t' := tk) (a := hp.objs.size + 1) (o := exo (hp.objs.size + 1) C none) (h' := (hp.push (PySem.W.kdv_tup [])).push (PySem.HandSPX.excO C hp.objs.size)) kk hsz (exo_ok hget)
  have r2 : Vals [V.ref (hp.objs.size + 1)] [Value.ref (hp.objs.size + 1)] := .cons rfl .nil
  have hl : ([Value.ref (hp.objs.size + 1)] : List Value).length = ps.length := by
    have e := r2.length
    rw [F1.len _ _ _ _ hq] at e
    exact e.symm
  have bd := hb _ [Value.ref (hp.objs.size + 1)] I2.kIn (by rw [List.append_nil]; exact hl)
  rw [List.append_nil] at bd
  refine wpAny_call (PySem.HandSPX.call_own F.excBase_ValueError (fun Y => PySem.HandSPX.refsVE_contains Y bm hbm) (I.kIn _ _ hC) (PySem.W.looks_findIn I.kIn iC) (fun self => PySem.W.bind_fn I.kIn self tI) (Nat.zero_le _)
    (codeAny_mono (F1.run _ X.stack _ _ ⟨[Value.ref (hp.objs.size + 1)], []⟩ [Value.ref (hp.objs.size + 1)] _ _ (fun _ _ _ => False) (hr.make C [] []) (I2.env0.make C [] []) bd r2 hq) fun r s' hq' => ?_))
  cases r with
  | error er => exact hx pins σ _ _ er s' I2 hq'
  | ok fl =>
    cases fl with
    | ret u =>
      obtain ⟨v, H2, os2, bare2, un2, hok2, rv, ev, eH, q2⟩ := hq'
      subst ev
      subst eH
      obtain ⟨h2, g2, d2, t2, os'⟩ := s'
      exact ⟨rv, mk_endN (raises_own T.exC T.tyC) I hsz kk un2 hok2 os2 bare2 q2⟩
    | next => exact False.elim hq'
    | brk => exact False.elim hq'
    | cont => exact False.elim hq'
end
/-! ### methods of own instances called where a try is around -/
section
variable {X : Cx} {CX : CXT} {k : Nat} {C f : Addr} {fd : FuncData} {ps : List Str} {sp : Sp} {E : L2.St → XK} {m : Str} {p apos pos : Pos} {e o : Expr} {es : List Expr} {ta : TE} {t : TA}
def tMethE (C : Addr) (m : Str) (sp : Sp) (E : L2.St → XK) (to : TE) (t : TA) : TE := fun σ H Q => to σ H fun x H1 => ∃ a dx fs, x = .ref a ∧ H1 a = some (.ins C dx fs) ∧ fs.lookup m = none ∧ t σ H1 fun vs H2 => sp (x :: vs) H2 Q (E σ)
theorem pe_methE {pl : Sem Bool} (he : PE X o ta) (c : Cls X.K C) (hm : Meth X.K C m f) (F : FnOk X.prog X.w X.K X.mg X.base CX k f fd ps sp) (hr : Room k X.A) (hb : Binds X.K fd ps []) (hx : ∀ σ, PassesAt CX X σ (E σ)) (ha : PA X (e :: es) t)
    (hst : starEach (e :: es) X.env = (false, eval e X.env) :: starEach es X.env := by rfl) (hpl : (backTo pos (starEach es X.env)).any (·.1) = false := by rfl)
    (ht : eval (.Call (.Attribute o m apos) (e :: es) [] pos) X.env = (do
      let ov ← eval o X.env
      standAt apos.atName
      let (f, first) ← holding [ov] (getMethod ov m pl)
      callWith pos f first (backTo pos (starEach (e :: es) X.env)) (backToKw pos (keywordEach [] X.env))) := by rfl) :
    PE X (.Call (.Attribute o m apos) (e :: es) [] pos) (tMethE C m sp E ta t) := by
  refine ⟨fun pins s σ H Q I h => ?_⟩
  refine PySem.W.methodCall_KW (pl := pl) (thn (he.run pins s σ H _ I h) fun u s1 ⟨x, H1, I1, rx, a, dx, fs, ex, ea, l, q⟩ => ?_) ht
  subst ex
  obtain rfl : u = Value.ref a := rx
  refine getmeth_ok I1 ea c hm l ?_
  refine PySem.W.callWith_K (first := [.ref a]) (h₀ := X.base) I.ok.mod.kin hm.kp (thn (ha.run pos pins s1 σ H1 _ I1 q) fun us s2 ⟨vs, H2, I2, r, q2⟩ => ⟨I2.kIn, ?_⟩) hst hpl
  exact run_fnS (us := .ref a :: us) (vs := .ref a :: vs) F hr hb (hx σ) I2 (.cons rfl r) q2
theorem pe_methE0 {pl : Sem Bool} (he : PE X o ta) (c : Cls X.K C) (hm : Meth X.K C m f) (F : FnOk X.prog X.w X.K X.mg X.base CX k f fd ps sp) (hr : Room k X.A) (hb : Binds X.K fd ps []) (hx : ∀ σ, PassesAt CX X σ (E σ))
    (ht : eval (.Call (.Attribute o m apos) [] [] pos) X.env = (do
      let ov ← eval o X.env
      standAt apos.atName
      let (f, first) ← holding [ov] (getMethod ov m pl)
      callWith pos f first (backTo pos (starEach [] X.env)) (backToKw pos (keywordEach [] X.env))) := by rfl) :
    PE X (.Call (.Attribute o m apos) [] [] pos) (tMethE C m sp E ta tNil) := by
  refine ⟨fun pins s σ H Q I h => ?_⟩
  refine PySem.W.methodCall_KW (pl := pl) (thn (he.run pins s σ H _ I h) fun u s1 ⟨x, H1, I1, rx, a, dx, fs, ex, ea, l, q⟩ => ?_) ht
  subst ex
  obtain rfl : u = Value.ref a := rx
  refine getmeth_ok I1 ea c hm l ?_
  exact PySem.W.callWith_K0 (first := [.ref a]) I1.kIn hm.kp (run_fnS (us := [.ref a]) (vs := [.ref a]) F hr hb (hx σ) I1 (.cons rfl .nil) q)
end

/-! ### the facts of an own error class of the text -/
structure InitAt (K : PySem.W.Frag) (m qual : Str) (st : Stmt) (ps : List Str) where
  f : Addr
  fd : FuncData
  F : Fun K m qual st f fd
  b : Binds K fd ps []
structure ExcAt (K : PySem.W.Frag) (mg : Str → Option Value) (x : Str) (fI : Addr) where
  C : Addr
  g : mg x = some (.ref C)
  o : OexC K C
  i : PySem.W.findIn K (.ref C) "__init__" = some (some (.ref fI))
  t : PySem.W.typeIn K (.ref fI) = some (.type "function")
  te : PySem.W.exmOne K (.ref C) (.ref C) = some true
def initAt_mk {K : PySem.W.Frag} {m qual : Str} {st : Stmt} {ps : List Str} {f : Addr} {od an : Option Addr} {sl : Array (Option Value)} {oc kV dc pm cd ct : Value}
    (l : K.lookup f = some ⟨oc, od, .func (PySem.W.fnOf m qual (defArgs st) (defBody st) (defScope st) .none kV dc pm an cd ct), sl⟩) (c : PySem.W.codeIn K cd qual = true) (k : PySem.W.keepIn K (.ref f) = true)
    (b : ∀ (kV doc pm : Value) (an : Option Addr) (cdv ct : Value) (us : List Value), us.length = ps.length → bindArgs (PySem.W.fnOf m qual (defArgs st) (defBody st) (defScope st) .none kV doc pm an cdv ct) ⟨us, []⟩ = pure (ps.zip us)) : InitAt K m qual st ps :=
  ⟨f, _, fun_mk l c k, (fun_mk (st := st) l c k).binds b⟩
theorem exm_self {K : PySem.W.Frag} {S : Addr} (b : PySem.W.subIn K (.ref S) (.type "BaseException") = some true) (i : PySem.W.isClsIn K S = true) (t : PySem.W.typeIn K (.ref S) = some (.type "type")) (s : PySem.W.subIn K (.ref S) (.ref S) = some true) : PySem.W.exmOne K (.ref S) (.ref S) = some true := by
  unfold PySem.W.isClsIn at i
  unfold PySem.W.exmOne PySem.W.kitCls
  simp [b, i, t, s]
def excAt_mk {K : PySem.W.Frag} {mg : Str → Option Value} {h : Heap} {x : Str} {C fI f1 : Addr} {nm q : Str} {N : Addr} {bs bm : List Value} {sn : List Str} {sub : List Value} {ab : Bool} {col : Option Bool} {dd : Option Addr} {k0 k1 k2 k3 k5 : Option Value} (X : K.In h) (G : h.Ns mainGlobals mg) (a : PySem.W.nsIn K mainGlobals x = some (some (.ref C)))
    (l : K.lookup C = some (excClassObj nm q C N bs bm true sn sub ab col dd k0 k1 k2 k3 k5 "ValueError.__new__")) (hb : PySem.HandSPX.refsVE bm = true)
    (sa : PySem.W.findIn K (.ref C) "__setattr__" = some (some (.builtin "object.__setattr__"))) (exC : PySem.W.subIn K (.ref C) (.type "BaseException") = some true) (tyC : PySem.W.typeIn K (.ref C) = some (.type "type")) (kC : PySem.W.keepIn K (.ref C) = true)
    (i : PySem.W.findIn K (.ref C) "__init__" = some (some (.ref f1))) (t : PySem.W.typeIn K (.ref f1) = some (.type "function")) (hf : f1 = fI) (ic : PySem.W.isClsIn K C = true) (sc : PySem.W.subIn K (.ref C) (.ref C) = some true) : ExcAt K mg x fI :=
  ⟨C, PySem.W.mg_of X G a, ⟨⟨nm, q, N, bs, bm, sn, sub, ab, col, dd, k0, k1, k2, k3, k5, l, hb⟩, sa, exC, tyC, kC⟩, hf ▸ i, hf ▸ t, exm_self exC ic tyC sc⟩
def sp_exc_init (K : PySem.W.Frag) : Sp := fun vs H Q _ => ∃ a C, vs = [.ref a] ∧ OexC K C ∧ H a = some (exo a C none) ∧ Q .non H
theorem e_raise {C : Addr} {K : PySem.W.Frag} {σ : L2.St} {H : Hp} {Q : XK} (o : OexC K C) (q : Q (.ref C) none H) : tMkN C (sp_exc_init K) σ H Q := fun a na => ⟨a, C, rfl, o, upd_same, rfl, rfl, q⟩
theorem noAttr_mk {K : PySem.W.Frag} {C : Addr} {f : Str} (h : PySem.W.findIn K (.ref C) f = some none) : NoAttr K C f := h
end Vw

set_option Elab.async false
set_option linter.all false
set_option maxRecDepth 100000
set_option maxHeartbeats 4000000
namespace Vw
open PySem PySem.Spec PyProof.Rows L2 RT
section
variable {K : PySem.W.Frag} {σ : L2.St} {H : Hp} {Q : VK} {D : Ends} {td ty tx tv : TE} {d : Addr} {kvs : List (Key × V)} {k : Key} {v z : V} {R : Hp → Prop}
def DpQ (x y v : V) (H3 : Hp) (R : Hp → Prop) : Prop := ∃ a H4, x = .ref a ∧ DPut H3 a y v H4 ∧ R H4
theorem s_dput (h : tv σ H fun v H1 => td σ H1 fun x H2 => ty σ H2 fun y H3 => DpQ x y v H3 fun H4 => D.nx σ H4) : sDPut td ty tv D σ H := h
theorem o_dput (h : H d = some (.dK kvs)) (l : kvs.length < 100000) (q : R (upd H d (.dK (putK kvs k v)))) : DpQ (.ref d) (kV k) v H R := ⟨d, _, rfl, DPut.k h (lt_size l), q⟩
def Dg2Q (a : Addr) (y z : V) (H3 : Hp) (Q : VK) : Prop := ∃ o, DGet H3 a y o ∧ Q (o.getD z) H3
theorem e_dget2 (h : td σ H fun x H1 => SdQ x H1 fun a => ty σ H1 fun y H2 => tx σ H2 fun z H3 => Dg2Q a y z H3 Q) : tDGet2 td ty tx σ H Q := h
theorem o_dget2 (h : H d = some (.dK kvs)) (q : Q ((valV kvs k).getD z) H) : Dg2Q d (kV k) z H Q := ⟨_, DGet.k h, q⟩
def Dp1Q (a : Addr) (y : V) (H2 : Hp) (Q : VK) : Prop := ∃ kvs k v, H2 a = some (.dK kvs) ∧ y = kV k ∧ valV kvs k = some v ∧ Q v (upd H2 a (.dK (dropK kvs k)))
theorem e_dpop1 (h : td σ H fun x H1 => SdQ x H1 fun a => ty σ H1 fun y H2 => Dp1Q a y H2 Q) : tDPop1 td ty σ H Q := h
theorem o_dpop1 (h : H d = some (.dK kvs)) (e : valV kvs k = some v) (q : Q v (upd H d (.dK (dropK kvs k)))) : Dp1Q d (kV k) H Q := ⟨kvs, k, v, h, rfl, e, q⟩
theorem o_rep {r : R2} {l : Addr} {n : Nat} {xs : List V} (h : H l = some (.lst xs)) (hn : n ≤ 100000) (hl : xs.length * n ≤ 100000) (q : NewQ (.lst (List.replicate n xs).flatten) H Q) : rOr r rRep (.ref l) (.int n) H Q :=
  .inr ⟨l, n, xs, rfl, rfl, h, by omega, by omega, le_trans_size hl, q⟩
where le_trans_size {m : Nat} (h : m ≤ 100000) : m ≤ sizeLine := Nat.le_trans h (by decide)
theorem p_cons {tk tw : TE} {r : List (TE × TE)} {QP : List (V × V) → Hp → Prop} (h : tk σ H fun x H1 => tw σ H1 fun y H2 => tPairs r σ H2 fun ps H3 => QP ((x, y) :: ps) H3) : tPairs ((tk, tw) :: r) σ H QP := h
theorem p_nil {QP : List (V × V) → Hp → Prop} (h : QP [] H) : tPairs [] σ H QP := h
end
section
variable {K : PySem.W.Frag} {σ : L2.St} {H : Hp} {Q : VK} {to : TE} {C p : Addr} {fs : List (Str × V)} {m : Str} {D : Ends}
def MethEQ (C : Addr) (m : Str) (sp : Sp) (E : L2.St → XK) (t : TA) (σ : L2.St) (x : V) (H1 : Hp) (Q : VK) : Prop := ∃ a dx fs, x = .ref a ∧ H1 a = some (.ins C dx fs) ∧ fs.lookup m = none ∧ t σ H1 fun vs H2 => sp (x :: vs) H2 Q (E σ)
theorem e_methE {sp : Sp} {E : L2.St → XK} {t : TA} (h : to σ H fun x H1 => MethEQ C m sp E t σ x H1 Q) : tMethE C m sp E to t σ H Q := h
theorem m_callE {sp : Sp} {E : L2.St → XK} {t : TA} (h : InsAt C H p fs) (e : fs.lookup m = none) (q : t σ H fun vs H2 => sp (.ref p :: vs) H2 Q (E σ)) : MethEQ C m sp E t σ (.ref p) H Q := h.elim fun dx h => ⟨p, dx, fs, rfl, h, e, q⟩
theorem s_try {tb : WX → TS} {c : Value} {ts : Addr → Value → Option Addr → TS} {Wout : WX} (h : tb (wOnly K c ts Wout D) D σ H) : (fun (D : Ends) (σ : L2.St) (H : Hp) => tb (wOnly K c ts Wout D) D σ H) D σ H := h
theorem w_only {c cls : Value} {d : Option Addr} {ts : Addr → Value → Option Addr → TS} {Wout : WX} (e : PySem.W.exmOne K cls c = some true) (h : ∀ a, H a = none → ts a cls d D σ H) : wOnly K c ts Wout D cls d σ H := ⟨true, e, fun _ => h, fun z => nomatch z⟩
end
end Vw

set_option Elab.async false
set_option linter.all false
set_option maxRecDepth 100000
set_option maxHeartbeats 4000000
namespace Vw
open PySem PySem.Spec PyProof.Rows L2 RT
/-! ### list.extend of a tuple, whatever its dict and slots are -/
theorem list_extend_tup (l : Addr) (items : Array Value) (n : Nat) (b : Addr) (dd : Option Addr) (sl : Array (Option Value)) (items2 : Array Value) (n2 : Nat) (hs0 : ¬(!items.isEmpty && Builtin.List.listTooLong (items.size + items2.size)) = true) (hs1 : items.size ≤ sizeLine) (hs2 : items.size + items2.size ≤ sizeLine + 1) :
    Meets (Builtin.«list.extend» ⟨[.ref l, .ref b], []⟩) (fun _ R s => s.heap.get? l = some { cls := .type "list", dict := none, data := .seq items n, slots := #[] } ∧ s.heap.get? b = some { cls := .type "tuple", dict := dd, data := .seq items2 n2, slots := sl } ∧ R (.ok (.ret Value.none)) { s with heap := s.heap.update l (Obj.mapSeq fun x => x ++ items2), toks := s.toks }) :=
  .of_wp fun prog w A R s h => by
    obtain ⟨hp, g, d, tk, os⟩ := s; obtain ⟨hl, hb, h⟩ := h; have f1 := PySem.AutoSeq1.idx_int; have f2 := PySem.AutoSeq1.sub_tuple_tuple; have f3 := PySem.AutoSeq1.sub_list_list; have f4 := PySem.AutoSeq1.sub_tuple_list; have f5 := PySem.AutoSeq1.sub_list_tuple;
    have hz' : (items ++ items2).size ≤ sizeLine + 1 := by rw [Array.size_append]; exact hs2
    wp_walk using (wpAny_updateSeq hl rfl (hz := hs1) (_hz' := hz')), PySem.AutoSeq1.wpAny_loadPart' hl, PySem.AutoSeq1.wpAny_loadPart' hb; exact ⟨_, rfl, h⟩
def rExtT (K : PySem.W.Frag) : V → List V → Hp → VK → Prop := fun x vs H Q => ∃ l b xs zs, x = .ref l ∧ vs = [.ref b] ∧ H l = some (.lst xs) ∧ SqT K H b zs ∧ xs.length + zs.length ≤ sizeLine ∧ Q .non (upd H l (.lst (xs ++ zs)))
section
variable {X : Cx}
theorem mt_extT : MtM X "list.extend" (rExtT X.K) := by
  intro pins s σ H x vs v us Q I rx rv h
  obtain ⟨l, b, xs, zs, rfl, rfl, hH, hB, hz, q⟩ := h
  cases rx
  obtain ⟨u, rfl, ru⟩ := rv.one
  cases ru
  obtain ⟨z, its, n, r, hl, e⟩ := I.lstM hH
  obtain ⟨its2, r2, ⟨⟨cl, dd, da, sl⟩, e2, ec, n2, ed⟩, hl2⟩ := I.tuple hB
  cases ec
  cases ed
  have hl3 := r2.length
  have hsz : its.toArray.size + its2.toArray.size ≤ sizeLine := by rw [List.size_toArray, List.size_toArray]; omega
  have hlong : ¬ (!its.toArray.isEmpty && Builtin.List.listTooLong (its.toArray.size + its2.toArray.size)) = true := by
    rw [show Builtin.List.listTooLong (its.toArray.size + its2.toArray.size) = false from decide_eq_false (by omega), Bool.and_false]
    exact Bool.false_ne_true
  refine call_meets F.slot_list_extend ⟨_, e, rfl⟩ F.entry_list_extend (F.args_list_extend_2 _ _)
    (list_extend_tup l its.toArray n b dd sl its2.toArray n2 hlong (by rw [List.size_toArray]; omega) (by omega)) ⟨e, e2, ?_⟩
  refine ⟨.non, _, I.lset (its' := its ++ its2) hH e (by simp) (r.append r2) ?_, rfl, q⟩
  rw [List.length_append]
  omega
theorem mtExtT {K : PySem.W.Frag} (e : X.K = K := by rfl) : MtM X "list.extend" (rExtT K) := by cases e; exact mt_extT
/-! ### a test of a if t else b -/
def tIfT (t u v : TT) : TT := fun σ H Q => t σ H fun c H1 => if c = true then u σ H1 Q else v σ H1 Q
theorem pt_ifExp {c a b : Expr} {pos : Pos} {t u v : TT} (hc : PT X c t) (ha : PT X a u) (hb : PT X b v) : PT X (.IfExp c a b pos) (tIfT t u v) := by
  refine ⟨fun pins s σ H Q I h => ?_⟩
  refine isTrue_IfExp (thn (hc.run pins s σ H _ I h) fun d s1 ⟨H1, I1, q1⟩ => ?_)
  cases d with
  | true => exact ha.run pins s1 σ H1 Q I1 q1
  | false => exact hb.run pins s1 σ H1 Q I1 q1
/-! ### isinstance of an own class -/
theorem cIsC {K : PySem.W.Frag} {C : Addr} (c : C8.InsC K C) (e : X.K = K := by rfl) : CallR X (.builtin "isinstance") (fun xs H Q => ∃ a dx fs, xs = [.ref a, .ref C] ∧ H a = some (.ins C dx fs) ∧ Q (.bl true) H) := by
  cases e
  exact C8.call_isC c
end
section
variable {K : PySem.W.Frag} {σ : L2.St} {H : Hp} {Q : VK} {l b : Addr} {xs zs : List V} {C p : Addr} {fs : List (Str × V)} {t u v : TT} {QB : Bool → Hp → Prop} {R : It → Hp → Prop}
theorem r_extT (h : H l = some (.lst xs)) (hb : SqT K H b zs) (hl : xs.length + zs.length < 100000) (q : ∀ H2, Oth l H H2 → H2 l = some (.lst (xs ++ zs)) → Q .non H2) : rExtT K (.ref l) [.ref b] H Q :=
  ⟨l, b, xs, zs, rfl, rfl, h, hb, Nat.le_of_lt (lt_size hl), q _ (fun c o z e => by rw [upd_ne z]; exact e) upd_same⟩
theorem e_ifT (h : t σ H fun c H1 => if c = true then u σ H1 QB else v σ H1 QB) : tIfT t u v σ H QB := h
theorem o_isC (h : InsAt C H p fs) (q : Q (.bl true) H) : ∃ a dx fs, [V.ref p, V.ref C] = [.ref a, .ref C] ∧ H a = some (.ins C dx fs) ∧ Q (.bl true) H := h.elim fun dx h => ⟨p, dx, fs, rfl, h, q⟩
def Rg3Q (R : It → Hp → Prop) (vs : List V) (H1 : Hp) : Prop := ∃ (i j c : Int) (n : Nat), vs = [.int i, .int j, .int c] ∧ RgC i j c n ∧ R (Itc i c n) H1
theorem i_rng3 {ta : TA} (h : ta σ H fun vs H1 => Rg3Q R vs H1) : iRng3 ta σ H R := h
theorem i_rg3 {i j c : Int} {n : Nat} (r : RgC i j c n) (h : R (Itc i c n) H) : Rg3Q R [.int i, .int j, .int c] H := ⟨i, j, c, n, rfl, r, h⟩
end
end Vw

set_option Elab.async false
set_option linter.all false
set_option maxRecDepth 100000
set_option maxHeartbeats 4000000
namespace Vw
open PySem PySem.Spec PyProof.Rows L2 RT
/-! ### slices of tuples, the whole one too -/
theorem slT {X : Cx} {K : PySem.W.Frag} (e : X.K = K := by rfl) : SlR X (rSlA K) := by cases e; exact sl_tupA
theorem cut_nat {xs : List V} {i j : Nat} : cutV xs (some (i : Int)) (some (j : Int)) = (xs.drop i).take (j - i) := by
  unfold cutV
  rw [HT.sIx_nat, HT.sIx_nat]
  by_cases hi : i ≤ xs.length
  · rw [Nat.min_eq_left hi]
    by_cases hj : j ≤ xs.length
    · rw [Nat.min_eq_left hj]
    · rw [Nat.min_eq_right (by omega), List.take_of_length_le (by rw [List.length_drop]; omega), List.take_of_length_le (by rw [List.length_drop]; omega)]
  · rw [List.drop_of_length_le (show xs.length ≤ min i xs.length by omega), List.drop_of_length_le (show xs.length ≤ i by omega), List.take_nil, List.take_nil]
theorem cut_from {xs : List V} {i : Nat} : cutV xs (some (i : Int)) none = xs.drop i := by
  unfold cutV
  rw [HT.sIx_nat, HT.sIx_none, List.take_of_length_le (by rw [List.length_drop]; omega)]
  by_cases hi : i ≤ xs.length
  · rw [Nat.min_eq_left hi]
  · rw [Nat.min_eq_right (by omega), List.drop_of_length_le (by omega), List.drop_of_length_le (by omega)]
theorem cut_to {xs : List V} {j : Nat} : cutV xs none (some (j : Int)) = xs.take j := by
  unfold cutV
  rw [HT.sIx_nat, HT.sIx_none, List.drop_zero, Nat.sub_zero]
  by_cases hj : j ≤ xs.length
  · rw [Nat.min_eq_left hj]
  · rw [Nat.min_eq_right (by omega), List.take_of_length_le (by omega), List.take_of_length_le (by omega)]
section
variable {K : PySem.W.Frag} {H : Hp} {Q : VK} {a : Addr} {xs : List V} {lo hi : Option Int}
theorem r_slT (s : SqT K H a xs) (q : ∀ c H2, Same H H2 → SqT K H2 c (cutV xs lo hi) → Q (.ref c) H2) : rSlA K (.ref a) lo hi H Q := by
  refine ⟨a, xs, rfl, s, fun w => ?_, fun w p n => q p _ (Same.new n) (stO upd_same)⟩
  refine q a H (Same.refl _) ?_
  have e : cutV xs lo hi = xs := by
    unfold cutV
    rw [w.1, w.2, List.drop_zero, Nat.sub_zero, List.take_length]
  rw [e]; exact s
end
/-! ### range(0, n, 36) -/
theorem rsize36 {n : Nat} : Builtin.Range.rangeSize 0 (n : Int) 36 = (((n + 35) / 36 : Nat) : Int) := by
  unfold Builtin.Range.rangeSize
  simp only [show (36 : Int) > 0 by decide, if_true]
  split <;> omega
theorem fitL {i : Int} (h0 : 0 ≤ i) (h1 : i ≤ 1000000) : Builtin.Range.rangeFitsLong i = true := by
  unfold Builtin.Range.rangeFitsLong
  rw [Bool.and_eq_true, decide_eq_true_eq, decide_eq_true_eq]
  constructor <;> omega
theorem rgc36 {n : Nat} (h : n ≤ 100000) : RgC 0 (n : Int) 36 ((n + 35) / 36) := by
  refine ⟨by decide, by decide, ?_, rsize36⟩
  unfold Builtin.Range.small
  rw [rsize36]
  rw [fitL (by omega) (by omega), fitL (i := (n : Int)) (by omega) (by omega), fitL (i := 36) (by omega) (by omega), fitL (i := (((n + 35) / 36 : Nat) : Int)) (by omega) (by omega), if_pos (by decide), fitL (by omega) (by omega), Bool.or_true]
  rfl
def rIsC (C : Addr) : List V → Hp → VK → Prop := fun xs H Q => ∃ a dx fs, xs = [.ref a, .ref C] ∧ H a = some (.ins C dx fs) ∧ Q (.bl true) H
theorem cIsD {X : Cx} {K : PySem.W.Frag} {C : Addr} (c : C8.InsC K C) (e : X.K = K := by rfl) : CallR X (.builtin "isinstance") (rIsC C) := cIsC c e
theorem o_isD {C p : Addr} {H : Hp} {Q : VK} {fs : List (Str × V)} (h : InsAt C H p fs) (q : Q (.bl true) H) : rIsC C [.ref p, .ref C] H Q := h.elim fun dx h => ⟨p, dx, fs, rfl, h, q⟩
theorem peExt {X : Cx} {K : PySem.W.Frag} {o ex : Expr} {to te : TE} {apos cpos : Pos} {r : V → List V → Hp → VK → Prop} (h : PE X (.Call (.Attribute o "extend" apos) [ex] [] cpos) (tBM X.K "list" r to (tCons te tNil))) (e : X.K = K := by rfl) :
    PE X (.Call (.Attribute o "extend" apos) [ex] [] cpos) (tBM K "list" r to (tCons te tNil)) := by cases e; exact h
end Vw

set_option Elab.async false
set_option linter.all false
set_option maxRecDepth 100000
set_option maxHeartbeats 4000000
namespace Vw
open PySem PySem.Spec PyProof.Rows L2 RT
/-! ### a lambda called under two handlers: told is w0, wa or wb -/
def TTwo (K : PySem.W.Frag) (CA CB : Addr) (w0 wa wb : Str) : (XK → Hp → VK → Prop) → Hp → VK → Prop := fun tl H Q =>
  tl (fun cls _ H' => ∃ b, PySem.W.exmOne K cls (.ref CA) = some b ∧ (b = true → Q (.str wa) H') ∧ (b = false → ∃ b2, PySem.W.exmOne K cls (.ref CB) = some b2 ∧ (b2 = true → Q (.str wb) H') ∧ (b2 = false → False))) H fun _ H' => Q (.str w0) H'
theorem takes_len {X : Cx} {W : WX} (t : Takes X W) : Takes X (fun c d σ H => σ.length = X.N.length → W c d σ H) := fun u s' ⟨a, B, sI, pins, σ, H, cls, d, e, I, nb, up, sky, na, os, ag, w⟩ =>
  t u s' ⟨a, B, sI, pins, σ, H, cls, d, e, I, nb, up, sky, na, os, ag, w I.len⟩
theorem two_gives {X : Cx} {x a t A B q w0 wa wb : Str} {sg : Scope} {g CA CB : Addr} {cdg : Value} {j0 j1 j2 : Nat} {p1 p2 p3 p4 p5 p6 p7 p8 p9 p10 p11 p12 p13 p14 p15 p16 p17 p18 p19 : Pos}
    (hga : sg.names.lookup A = some .globalImplicit) (hma : X.mg A = some (.ref CA)) (hda : (A == ("__debug__" : Str)) = false) (hgb : sg.names.lookup B = some .globalImplicit) (hmb : X.mg B = some (.ref CB)) (hdb : (B == ("__debug__" : Str)) = false)
    (ht : sg.names.lookup t = some .local) (hn : ([a, t] : List Str).Nodup) (hd : (t == ("__debug__" : Str)) = false) (hcd : (t == ("__classdict__" : Str)) = false) :
    LamX.GivesTo X [a, t] x sg g cdg [.Assign [.Name t p1] (.Constant (.str w0) j0 p2) p3, .Try [.Expr (.Call (.Name a p4) [] [] p5) p6] [.ExceptHandler (some (.Name A p7)) none [.Assign [.Name t p8] (.Constant (.str wa) j1 p9) p10] p11, .ExceptHandler (some (.Name B p12)) none [.Assign [.Name t p13] (.Constant (.str wb) j2 p14) p15] p16] [] [] p17, .Return (some (.Name t p18)) p19] a q (TTwo X.K CA CB w0 wa wb) := by
  intro f c' s H Q tl act hc h
  have gla : Gl (cxOf C8.CX0 X.prog X.w X.K X.mg X.base [a, t] x sg g cdg X.A X.stack s H C8.E0).nox A := hga
  have glb : Gl (cxOf C8.CX0 X.prog X.w X.K X.mg X.base [a, t] x sg g cdg X.A X.stack s H C8.E0).nox B := hgb
  have ht2 : (cxOf C8.CX0 X.prog X.w X.K X.mg X.base [a, t] x sg g cdg X.A X.stack s H C8.E0).nox.env.scope.names.lookup t = some .local := ht
  refine ⟨_, pss_cons (ps_set (X := (cxOf C8.CX0 X.prog X.w X.K X.mg X.base [a, t] x sg g cdg X.A X.stack s H C8.E0).nox) (i := 1) hn rfl (.inl ht) pe_str) (pss_cons (ps_try_many (X := (cxOf C8.CX0 X.prog X.w X.K X.mg X.base [a, t] x sg g cdg X.A X.stack s H C8.E0).nox)
      (tb := fun W D σ H => ∃ Ech : XK, (∀ cls d σ' H', σ'.length = 2 → Ech cls d H' → W cls d σ' H') ∧ σ[0]? = some (some (.ref f)) ∧ H c' = some (LamX.CodeO c' q) ∧ tl Ech H fun _ H' => D.nx σ H')
      rfl rfl takes_none5 (fun W pn xe tk _ => ?_)
      (.cons ⟨gla, hda, .inl hma⟩ (fun a oe cls d pn _ _ => pss_one (ps_set (i := 1) hn rfl (.inl ht) pe_str)) (.cons ⟨glb, hdb, .inl hmb⟩ (fun a oe cls d pn _ _ => pss_one (ps_set (i := 1) hn rfl (.inl ht) pe_str)) .nil)))
    (pss_one (ps_ret (pe_var (i := 1) rfl (.inl ht) hd hcd)))), ?_⟩
  · refine ⟨fun pins s' σ H' D I h' => ?_⟩
    obtain ⟨Ech, hW, h1, h2, h3⟩ := h'
    have hp := act (fun c d σ H => σ.length = 2 → W c d σ H) pn xe Ech p4 p5 (takes_len tk) (fun cls d σ' H' e l => hW cls d σ' H' l e)
    exact (pss_one (ps_expr (pos := p6) hp)).run pins s' σ H' D I ⟨h1, h2, h3⟩
  · have len1 : ∀ (σ' : L2.St) (v : V), σ'.length = 2 → (σ'.set 1 (some v))[1]? = some (some v) := fun σ' v l => by
      rw [List.getElem?_set_self (by omega)]
    refine ⟨fun cls _ H' => ∃ b, PySem.W.exmOne X.K cls (.ref CA) = some b ∧ (b = true → Q (.str wa) H') ∧ (b = false → ∃ b2, PySem.W.exmOne X.K cls (.ref CB) = some b2 ∧ (b2 = true → Q (.str wb) H') ∧ (b2 = false → False)), fun cls d σ' H' l ⟨b, e1, e2, e3⟩ => ⟨b, e1, fun hb a _ => ?_, fun hb => ?_⟩, rfl, hc, ?_⟩
    · exact ⟨_, len1 σ' _ l, e2 hb⟩
    · obtain ⟨b2, g1, g2, g3⟩ := e3 hb
      exact ⟨b2, g1, fun hb a _ => ⟨_, len1 σ' _ l, g2 hb⟩, fun hb => g3 hb⟩
    · refine Eq.mpr (congrArg (tl _ H) (funext fun _ => funext fun H' => propext ⟨fun ⟨v, e, z⟩ => ?_, fun z => ⟨_, rfl, z⟩⟩)) h
      have e2 : V.str w0 = v := Option.some.inj (Option.some.inj e)
      rw [e2]
      exact z
/-- the end of a law whose defs hold lambdas: of each def of the row, its code object and its empty table -/
theorem walk_ofRecs {l : PySem.W.OpenLaw} {n k : Nat} {q : Program} {loose : List Str} {XP : (Str → Option Value) → Heap → Prop} {YP : World → Heap → Prop} {d : DefRec} {K : Params → PySem.W.Frag} {CX : World → CXT} {x : Str}
    (hn : l.most = some n) (hn2 : n ≤ sizeLine) (hdf : d.params.defaults = []) (hr : Room k callerA) (hY : ∀ (w : World) (h : Heap), YP w h → (K w.params).In h)
    (F : ∀ (w : World) (mg : Str → Option Value) (fa : Addr) (h : Heap), YP w h → (K w.params).In h → h.Ns mainGlobals mg → mg d.name = some (.ref fa) →
      (∀ (y : Str) (e : DefRec) (c P : Addr), (recsOf q).find? (fun e => e.name == y) = some e → PySem.W.tabIn (K w.params) y = some (c, P) → PySem.W.CodeHd h c P ∧ h.get? P = some { cls := .none, data := .fields #[] }) → LamX.LawAtS l w (K w.params) (CX w) k n x mg fa h)
    (hCX : ∀ (w : World) (H : Hp) (s : Shared) (e : Value) (s' : Shared), CX w [] H s (fun _ _ _ => False) e s' → False) :
    PySem.W.WalkO q loose XP YP l.row.toRowW d [] (fun f vs => PySem.call f vs) := by
  refine Att.attach_callB hn hdf fun w s₀ s₁ mg mb fa o pm cd doc a vs ns G Y ho hd hcd hmg hobj hints hlen hbits hg => ?_
  have KX := hY w _ Y
  obtain ⟨fd, cs, sp, hT, nT, C, hb, hsp, hF⟩ := F w mg fa _ Y KX G.T.g hmg (fun y e c P h1 h2 => PySem.W.tab_of G.T KX h1 h2)
  exact LamX.law_callTs KX G.T.g G.T.b G.T.builtins G.T.nolimit hg hT nT C G.T.bmain hobj hints (Nat.le_trans hlen hn2) hr hF hb (fun H hH hS => hsp H a ns hlen hbits hH hS) fun H e s' => hCX w H s₁ e s'
/-- a def that makes lambdas: its code object c and the table P of it -/
structure DefAtL (K : PySem.W.Frag) (mg : Str → Option Value) (x qual : Str) (st : Stmt) (ps : List Str) extends DefAt K mg x qual st ps where
  c : Addr
  P : Addr
  ex : ∃ (oc : Value) (od : Option Addr) (kV doc pm : Value) (an : Option Addr) (ct : Value) (osl : Array (Option Value)),
    fd = PySem.W.fnOf x qual (defArgs st) (defBody st) (defScope st) .none kV doc pm an (.ref c) ct ∧ K.lookup f = some ⟨oc, od, .func fd, osl⟩ ∧ PySem.W.codeIn K (.ref c) qual = true
  tb : PySem.W.tabIn K x = some (c, P)
  nP : K.lookup P = none
def defAtL_mk {K : PySem.W.Frag} {mg : Str → Option Value} {h : Heap} {x qual : Str} {st : Stmt} {ps : List Str} {f c P : Addr} {od an : Option Addr} {sl : Array (Option Value)} {oc kV dc pm ct : Value} (X : K.In h) (G : h.Ns mainGlobals mg)
    (a : PySem.W.nsIn K mainGlobals x = some (some (.ref f))) (l : K.lookup f = some ⟨oc, od, .func (PySem.W.fnOf x qual (defArgs st) (defBody st) (defScope st) .none kV dc pm an (.ref c) ct), sl⟩) (cc : PySem.W.codeIn K (.ref c) qual = true) (k : PySem.W.keepIn K (.ref f) = true)
    (tb : PySem.W.tabIn K x = some (c, P)) (nP : K.lookup P = none)
    (b : ∀ (kV doc pm : Value) (an : Option Addr) (cdv ct : Value) (us : List Value), us.length = ps.length → bindArgs (PySem.W.fnOf x qual (defArgs st) (defBody st) (defScope st) .none kV doc pm an cdv ct) ⟨us, []⟩ = pure (ps.zip us)) : DefAtL K mg x qual st ps :=
  { defAt_mk X G a l cc k b with c := c, P := P, ex := ⟨_, _, _, _, _, _, _, _, rfl, l, cc⟩, tb := tb, nP := nP }
theorem DefAtL.ok {Pg : Program} {w : World} {K : PySem.W.Frag} {mg : Str → Option Value} {base : Heap} {x qual : Str} {st : Stmt} {N ps : List Str} {k : Nat} {sp : Sp} (D : DefAtL K mg x qual st ps) (S : FnScope N ps (defScope st)) (len : ∀ vs H Q E, sp vs H Q E → vs.length = ps.length)
    (hbody : ∀ (A : Around) (outer : List Env) (s : Shared) (H : Hp) (vs : List V) (Q : VK) (E : XK), Room k (A.deeper (envOfC qual (defScope st) s.heap.objs.size D.f (.ref D.c))) → sp vs H Q E →
      ∃ t, PSs (cxOf CX0 Pg w K mg base N qual (defScope st) D.f (.ref D.c) A outer s H E).nox (defBody st) t ∧ t { nx := fun _ H' => Q .non H', rt := Q } (start N vs) H) : FnOk Pg w K mg base CX0 (k + 1) D.f D.fd ps sp := by
  obtain ⟨oc, od, kV, doc, pm, an, ct, osl, e, lk, hcd⟩ := D.ex
  rw [e] at lk ⊢
  refine fn_of lk hcd S len fun A outer s H vs Q E hr hsp => ?_
  obtain ⟨t, h, q⟩ := hbody A outer s H vs Q E hr hsp
  exact ⟨t, h.nox, q⟩
/-- x(lambda: body), of a def known as DefAt -/
theorem pe_lamF {X : Cx} {T : List (Addr × Str)} {TT : (XK → Hp → VK → Prop) → Hp → VK → Prop} {x a n : Str} {st : Stmt} {c P : Addr} {k : Nat} {Ng : List Str} {params : Arguments} {body : Expr} {scope : Scope} {t : XK → TE} {p lpos pos : Pos}
    (hq : X.env.qual = n) (D : DefAt X.K X.mg x x st [a]) (hg : Gl X x) (Sg : FnScope Ng [a] (defScope st)) (hNg : Ng[0]? = some a) (hva : Vis (defScope st) a)
    (hG : ∀ cdv : Value, LamX.GivesTo X Ng x (defScope st) D.f cdv (defBody st) a (n ++ "<lambda>") TT)
    (TB : LamX.TabB X.base X.mg c P) (hcode : X.env.code = .ref c) (hmT : (P, n ++ "<lambda>") ∈ T) (hu : ∀ p ∈ T, p.1 = P → p.2 = n ++ "<lambda>") (hr : Room (k + 2) X.A) (L : LamX.LamS X.env.scope scope) (hdef : defaultsOf params X.env = ([], []))
    (hbind : ∀ (q : Str) (cl : List (Str × Addr)) (pm cv ctv : Value), bindArgs (PySem.W.kla_fn "<lambda>" q params body scope cl pm cv ctv) ⟨[], []⟩ = pure [])
    (hbody : ∀ (A : Around) (outer : List Env) (s : Shared) (H : Hp) (E : XK) (f c' : Addr), Room k (A.deeper (LamX.lamEnv X scope s.heap.objs.size f c')) → PE (LamX.lamCx X A outer s H E scope f c') body (t E))
    (hdb : (x == ("__debug__" : Str)) = false := by decide) (hd : (a == ("__debug__" : Str)) = false := by decide) (hcd : (a == ("__classdict__" : Str)) = false := by decide) :
    PE X (.Call (.Name x p) [.Lambda params body scope lpos] [] pos) (LamX.tLam T TT t) := by
  subst hq
  obtain ⟨f, fd, F, b, g⟩ := D
  obtain ⟨oc, od, kV, doc, pm, an, cdv, ct, osl, rfl, lk, hc2⟩ := F.ex
  exact LamX.pe_lamcall hg g F.kp lk hc2 b Sg hNg hva (hG cdv) TB hcode hmT hu hr L hdef hbind hbody hdb hd hcd
theorem nox_qual {CX : CXT} {Pg : Program} {w : World} {K : PySem.W.Frag} {mg : Str → Option Value} {base : Heap} {N : List Str} {q : Str} {sc : Scope} {f : Addr} {cdv : Value} {A : Around} {outer : List Env} {s : Shared} {H : Hp} {E : XK} :
    (cxOf CX Pg w K mg base N q sc f cdv A outer s H E).nox.env.qual = q ++ ".<locals>." := rfl
/-- what a call lets out is taken by the handlers around, whatever the slots hold by then -/
theorem passLen {X : Cx} {W : WX} (n : Nat) (tk : Takes X W) (hn : X.N.length = n) : Passes (L2.CX X.prog X.w) X (fun cls d H => ∀ σ : L2.St, σ.length = n → W cls d σ H) := passes_call (takes_len tk) (fun _ _ _ _ e l => e _ (l.trans hn))
/-- tables at places of their own -/
theorem tabs_uniq {P : Addr} {q : Str} : ∀ {l : List (Addr × Str)}, (l.map (·.1)).Nodup → (P, q) ∈ l → ∀ p ∈ l, p.1 = P → p.2 = q := by
  intro l
  induction l with
  | nil => intro _ h; cases h
  | cons a l ih =>
    intro hn hm p hp e
    rw [List.map_cons, List.nodup_cons] at hn
    rcases List.mem_cons.mp hm with h | h
    · rcases List.mem_cons.mp hp with k | k
      · rw [k, ← h]
      · exact absurd (List.mem_map.mpr ⟨p, k, by rw [e, ← h]⟩) hn.1
    · rcases List.mem_cons.mp hp with k | k
      · exact absurd (List.mem_map.mpr ⟨(P, q), h, by rw [← e, k]⟩) hn.1
      · exact ih hn.2 h p k e
end Vw

set_option Elab.async false
set_option linter.all false
set_option maxRecDepth 100000
set_option maxHeartbeats 4000000
namespace Vw
open PySem PySem.Spec PyProof.Rows L2 RT
/-! ### several handlers, each with the name of what it caught -/
abbrev HdT := Value × (Addr → Value → Option Addr → TS)
/-- the ends of a handler's suite: slot i, the name's, is empty behind it -/
def offI (i : Nat) (D : Ends) : Ends := { nx := fun σ H => D.nx (σ.set i none) H, rt := D.rt, bk := fun σ H => D.bk (σ.set i none) H, ct := fun σ H => D.ct (σ.set i none) H }
def wTells (K : PySem.W.Frag) (i : Nat) (Wo : WX) (D : Ends) : List HdT → WX
  | [] => Wo
  | h :: r => fun k d σ H => ∃ b, PySem.W.exmOne K k h.1 = some b ∧ (b = true → ∀ x, H x = none → h.2 x k d (offI i D) (σ.set i (some (.ref x))) H) ∧ (b = false → wTells K i Wo D r k d σ H)
inductive TellsOk (X : Cx) (n : Str) : List ExceptHandler → List HdT → Prop
  | nil : TellsOk X n [] []
  | cons {x : Str} {c : Value} {u : Addr → Value → Option Addr → TS} {b : Stmt} {bs : List Stmt} {p1 p2 : Pos} {hds : List ExceptHandler} {l : List HdT} (hc : Names X x c)
      (hu : ∀ (x : Addr) (o : Obj) (k : Value) (d : Option Addr) (pn : List (Addr × Obj)), Zc k d o → (∃ vs, o.data = .fields vs) → PSs (X.suite x ((x, o) :: pn)) (b :: bs) (u x k d)) (r : TellsOk X n hds l) :
      TellsOk X n (.ExceptHandler (some (.Name x p1)) (some n) (b :: bs) p2 :: hds) ((c, u) :: l)
section
variable {X : Cx} {n : Str} {i : Nat} {body : List Stmt} {h1 : ExceptHandler} {hds : List ExceptHandler} {l : List HdT} {pos : Pos} {tb : WX → TS} {Wo : WX}
theorem ps_tells (st : X.stack = X.env :: X.outer) (fr : X.env.frame = some X.env.locals) (nd : X.N.Nodup) (at_ : X.N[i]? = some n) (lo : X.env.kindOf n = some .local) (tk : Takes X Wo)
    (bo : ∀ (W : WX) (pn : List (Addr × Obj)) (xe : Value → Shared → Prop), Takes (X.tr pn xe) W → PassesOwn (model X.prog X.w) X.A X.env xe → PSs (X.tr pn xe) body (tb W))
    (hh : TellsOk X n (h1 :: hds) l) : PS X (.Try body (h1 :: hds) [] [] pos) (fun D σ H => tb (wTells X.K i Wo D l) D σ H) := by
  refine ⟨fun pins s σ H D I q0 => ?_⟩
  have kk := I.ok
  have frs2 : X.A.frames = some (X.env :: X.outer) := by rw [kk.frames, st]
  have hl2 : Loc X.env.scope n := .inl lo
  refine wpAny_Try_except ?_
  refine wpAny_mono ((bo (wTells X.K i Wo D l) (X.pn ++ pins) (fun e sa => wpAny (model X.prog X.w) X.A (noteFrame e X.env) (fun _ sb => wpAny (model X.prog X.w) X.A (setFlight e none) (fun _ sc =>
    wpAny (model X.prog X.w) X.A (handleBy e X.env (h1 :: hds)) (SP X pins D) X.xe sc) X.xe sb) X.xe sa) (fun u s' xx => ?_) PassesOwn.looking).run [] s σ H D (I.toTry _) q0) (fun f s1 hsp => ?_) (fun e s1 z => z)
  · obtain ⟨x, B, sI, _, σ2, H2, k, d, rfl, Ja, nb, up, sky, nx2, os, ag, w⟩ := xx
    have Jb : Inv X pins σ2 H2 sI := Ja.ofTry kk
    have sk2 : Sky B (X.env :: X.outer) x (Zc k d) X.env.locals s'.heap := by rw [← st]; exact sky
    show wpAny (model X.prog X.w) X.A (noteFrame (.ref x) X.env) _ _ _
    refine Sky.land Zc.steady frs2 fr sk2 fun ha fa ua => ?_
    have Jc : Inv X pins σ2 H2 { s' with heap := ha } := Jb.landed nb fa.1 (up.trans ua) os ag
    obtain ⟨oa, va, ea, za, da⟩ := fa.there
    have out : ∀ {h : Heap} {o : Obj} {vs : Array Value}, h.FunFrames B (X.env :: X.outer) → h.get? x = some o → o.data = .fields vs → x ∉ frs (X.env :: X.outer) := fun {h o vs} ff e dd m => by
      obtain ⟨_, o2, e2, nf⟩ := ff.mem m
      rw [e] at e2
      cases e2
      exact nf _ dd
    have nfa := out fa.2.2.1 ea da
    have nla : x ≠ X.env.locals := fun z => nfa (List.mem_filterMap.mpr ⟨X.env, List.mem_cons_self, by rw [fr, z]⟩)
    have nfs : x ∉ X.fs := fun m => by
      obtain ⟨e, me, q⟩ := List.mem_filterMap.mp m
      exact nfa (List.mem_filterMap.mpr ⟨e, List.mem_cons_of_mem _ me, q⟩)
    have Sa := Jc.suite ea da nx2 nla nfs
    have go : ∀ {hd2 : List ExceptHandler} {l2 : List HdT}, TellsOk X n hd2 l2 → wTells X.K i Wo D l2 k d σ2 H2 → wpAny (model X.prog X.w) X.A (handleBy (.ref x) X.env hd2) (SP X pins D) X.xe { s' with heap := ha } := by
      intro hd2 l2 ok2
      induction ok2 with
      | nil =>
        intro w2
        refine wpAny_handleBy_nil ?_
        obtain ⟨_, _, _, o5, v5, T, oT, t5, e5, z5, d5, g5, _⟩ := id fa
        unfold PySem.passOn
        refine wpAny_bind (wpAny_field e5 d5 g5 ?_)
        rw [if_neg (show ¬ ((Value.ref T == Value.none) = true) by simp)]
        have fin : wpAny (model X.prog X.w) X.A (setFlight (.ref x) X.env.frame) (fun _ sd => wpAny (model X.prog X.w) X.A (throw (.ref x) : Sem Flow) (SP X pins D) X.xe sd) X.xe { s' with heap := ha } := by
          rw [fr]
          refine HandSPX.setFlight_upZ fa fun hb hhb ub => wpAny_throw (tk _ _ ?_)
          exact ⟨x, B, sI, pins, σ2, H2, k, d, rfl, Jb, nb, (up.trans ua).trans ub, .inr (.inr (by rw [st]; exact hhb)), nx2, os, ag, w2⟩
        first
          | exact wpAny_bind (wpAny_pure (wpAny_bind fin))
          | exact wpAny_bind fin
      | @cons y c u b bs p1 p2 hd3 l3 hc hu r ih =>
        intro w2
        obtain ⟨bb, e1, yes, no⟩ := w2
        refine wpAny_handleBy_cons (codeAny_handlers_test ?_) (by intro q; cases q)
        have LA : PySem.W.Looks (model X.prog X.w) ha (typeOf (.ref x)) k := fun A Q E s k2 q => wpAny_typeOf_ref (k2 _ _ ea) (by rw [za.1]; exact q)
        have LB := PySem.W.exm_one (M := model X.prog X.w) Jc.kIn LA e1
        have tst : ∀ {Q E : Value → Shared → Prop}, Q c { s' with heap := ha } → wpAny (model X.prog X.w) (X.A.mark (some (.ref x))) (eval (.Name y p1) X.env) Q E { s' with heap := ha } := fun {Q E} q => by
          obtain ⟨g1, g2, g3 | ⟨g3, g4, g5⟩⟩ := hc
          · exact ld_glob (X := X.suite x ((x, oa) :: (X.pn ++ pins))) Sa g1 g3 q g2
          · exact ld_blt (X := X.suite x ((x, oa) :: (X.pn ++ pins))) Sa g1 g3 g4 q g5 g2
        refine tst (LB.here ?_)
        cases bb with
        | true =>
          refine codeAny_handlers_suite_as ?_
          refine HandSPX.lands_againZ fa fun hb fb ub => ?_
          have Jd : Inv X pins σ2 H2 { s' with heap := hb } := Jb.landed nb fb.1 ((up.trans ua).trans ub) os ag
          obtain ⟨ob, vb, eb, zb, db⟩ := fb.there
          have Sb := Jd.suite eb db nx2 nla nfs
          refine store_ok (X := X.suite x ((x, ob) :: (X.pn ++ pins))) (v := .ref x) Sb nd at_ hl2 rfl (fun s5 Sc => ?_) (.inr lo)
          refine wpAny_mono ((hu x ob k d (X.pn ++ pins) zb ⟨_, db⟩).run [] s5 _ H2 _ Sc (yes rfl x nx2)) (fun f s6 hs6 => ?_) (fun _ _ z => z.elim)
          have fin : ∀ {σ6 : L2.St} {H6 : Hp} {Q : Shared → Prop}, Inv (X.suite x ((x, ob) :: (X.pn ++ pins))) [] σ6 H6 s6 → (∀ s7, Inv X pins (σ6.set i none) H6 s7 → Q s7) →
              wpAny (model X.prog X.w) X.A (do bindName X.env n .none; unbindBehindTheSuite X.env n p2) (fun _ s7 => Q s7) X.xe s6 := fun {σ6 H6 Q} Sd hq => gone_ok (Sd.unsuite kk) nd at_ lo hq
          cases f with
          | next =>
            obtain ⟨_, _, Sd, q6⟩ := hs6
            exact fin Sd fun s7 Je => ⟨_, _, Je, q6⟩
          | brk =>
            obtain ⟨_, _, Sd, q6⟩ := hs6
            exact fin Sd fun s7 Je => ⟨_, _, Je, q6⟩
          | cont =>
            obtain ⟨_, _, Sd, q6⟩ := hs6
            exact fin Sd fun s7 Je => ⟨_, _, Je, q6⟩
          | ret u6 =>
            obtain ⟨_, _, _, Sd, r6, q6⟩ := hs6
            exact fin Sd fun s7 Je => ⟨_, _, _, Je, r6, q6⟩
        | false =>
          show wpAny _ X.A (handleBy (.ref x) X.env hd3) _ _ _
          exact ih (no rfl)
    exact go hh w
  · cases f with
    | next =>
      obtain ⟨_, _, Je, q⟩ := hsp
      exact wpAny_execs_nil ⟨_, _, Je.ofTry kk, q⟩
    | brk =>
      obtain ⟨_, _, Je, q⟩ := hsp
      exact ⟨_, _, Je.ofTry kk, q⟩
    | cont =>
      obtain ⟨_, _, Je, q⟩ := hsp
      exact ⟨_, _, Je.ofTry kk, q⟩
    | ret u6 =>
      obtain ⟨_, _, _, Je, r, q⟩ := hsp
      exact ⟨_, _, _, Je.ofTry kk, r, q⟩
/-- a suite that is read only where what it caught is of a known class -/
theorem pss_known {X : Cx} {bs : List Stmt} {D : Addr} {k : Value} {d : Option Addr} {t : TS} (h : k = .ref D → d = none → PSs X bs t) : PSs X bs (fun E σ H => k = .ref D ∧ d = none ∧ t E σ H) :=
  ⟨fun pins s σ H E I q => (h q.1 q.2.1).run pins s σ H E I q.2.2⟩
end
end Vw

set_option Elab.async false
set_option linter.all false
set_option maxRecDepth 100000
set_option maxHeartbeats 4000000
namespace Vw
open PySem PySem.Spec PyProof.Rows L2 RT
/-! ### list.count, flat items -/
def rCntF (K : PySem.W.Frag) : V → List V → Hp → VK → Prop := fun x xs H Q => ∃ (a : Addr) (ys : List V) (y : V), x = .ref a ∧ xs = [y] ∧ SqL K H a ys ∧ flatV y = true ∧ ys.all flatV = true ∧ Q (.int (ys.countP fun z => eqV z y : Nat)) H
theorem eqU_count {y : V} (fy : flatV y = true) : ∀ {ys : List V} {its : List Value}, Vals ys its → ys.all flatV = true → its.countP (eqU y) = ys.countP fun z => eqV z y
  | [], _, h, _ => by cases h; rfl
  | z :: zs, _, h, f => by
    cases h with
    | cons r rr =>
      rw [List.all_cons, Bool.and_eq_true] at f
      rw [List.countP_cons, List.countP_cons, eqU_count fy rr f.2, eqU_of r f.1]
theorem mt_cntF {X : Cx} : MtR X "list.count" (rCntF X.K) := by
  intro pins s σ H x xs v us Q I rx rxs h
  obtain ⟨a, ys, y, rfl, rfl, hs, fy, fys, q⟩ := h
  cases rx
  cases rxs with
  | cons ry rt =>
    rename_i uy ut
    cases rt
    obtain ⟨its, rv, ⟨⟨cls, dd, data, sl⟩, n, ho, hc, hdn, hd⟩, hlen⟩ := I.list hs
    simp only at hc hd
    subst hc hd
    refine call_meets PySem.F.slot_list_count ⟨_, ho, rfl⟩ PySem.F.entry_list_count (PySem.F.args_list_count_2 _ _) (SeqAt.list_countAt a its.toArray n dd sl uy (eqU y)) ⟨ho, fun u hu => mem_eqAt ry fy rv fys u (by simpa using hu), ?_⟩
    have ec : its.toArray.toList.countP (eqU y) = ys.countP fun z => eqV z y := eqU_count fy rv fys
    refine ⟨.int (ys.countP fun z => eqV z y : Nat), H, I.tok _, ⟨s.toks, ?_⟩, q⟩
    show Value.int ((its.toArray.toList.countP (eqU y) : Nat) : Int) s.toks = _
    rw [ec]
theorem o_cntF {K : PySem.W.Frag} {a : Addr} {H : Hp} {Q : VK} {ys : List V} {y : V} (h : SqL K H a ys) (f : flatV y = true) (g : ys.all flatV = true) (q : Q (.int (ys.countP fun z => eqV z y : Nat)) H) : rCntF K (.ref a) [y] H Q := ⟨a, ys, y, rfl, rfl, h, f, g, q⟩
end Vw

set_option Elab.async false
set_option linter.all false
set_option maxRecDepth 100000
set_option maxHeartbeats 4000000
namespace Vw
open PySem PySem.Spec PyProof.Rows L2 RT
/-! ### a tuple so many times, up to 2000 -/
def rTimesT (K : PySem.W.Frag) : R2 := fun x y H Q => ∃ (a : Addr) (n : Nat) (xs : List V), x = .ref a ∧ y = .int n ∧ SqT K H a xs ∧ xs ≠ [] ∧ 2 ≤ n ∧ n ≤ 2000 ∧ xs.length ≤ 40 ∧ ∀ p, H p = none → Q (.ref p) (upd H p (.tup (List.replicate n xs).flatten))
theorem times_len {α : Type} {xs : List α} {n : Nat} (h : n ≤ 2000) (h2 : xs.length ≤ 40) : (List.replicate n xs).flatten.length ≤ sizeLine := by
  rw [PyProof.Rows.lm_len_rep_flat]
  exact Nat.le_trans (Nat.mul_le_mul h h2) (by decide)
theorem op_timesT {X : Cx} : OpR X (binaryOp .Mult) (rTimesT X.K) := by
  intro pins st σ H x y v u Q I rx ry ⟨a, n, xs, ex, ey, hT, hne, h2, hn, hz, q⟩
  subst ex ey
  cases rx
  obtain ⟨tk, rfl⟩ := ry
  obtain ⟨its, r, ⟨ob, ho, hc, m, hd⟩, hs⟩ := I.tuple hT
  obtain ⟨cls, dd, data, sl⟩ := ob
  have hc : cls = .type "tuple" := hc
  have hd : data = .seq its.toArray m := hd
  subst hc hd
  have ln : its.length = xs.length := r.length.symm
  have pos : 0 < its.length := by rw [ln]; exact List.length_pos_iff.mpr hne
  have em : its.toArray.isEmpty = false := by rw [List.isEmpty_toArray]; cases its with
    | nil => cases pos
    | cons _ _ => rfl
  have sz : its.toArray.size = xs.length := by rw [List.size_toArray, ln]
  have pm : ((its.toArray.size : Nat) : Int) * (n : Int) ≤ 80000 := by
    rw [sz, ← Int.natCast_mul]
    have := Nat.mul_le_mul hz hn
    omega
  have nn : ((n : Nat) : Int).toNat = n := Int.toNat_natCast n
  have tm : Builtin.Tuple.tupleTooMany (((its.toArray.size : Nat) : Int) * (n : Int)) = false := by
    have e : (80000 : Int) < (sizeLine : Nat) := by decide
    unfold Builtin.Tuple.tupleTooMany; exact decide_eq_false (by omega)
  have b0 : (decide ((n : Int) < -(2 ^ 63)) || decide ((n : Int) ≥ 2 ^ 63)) = false := by
    rw [Bool.or_eq_false_iff]; exact ⟨decide_eq_false (by omega), decide_eq_false (by omega)⟩
  have b1 : (its.toArray.isEmpty || (n : Int) == 1) = false := by
    rw [em, Bool.false_or, beq_eq_false_iff_ne]; omega
  have b2 : (decide ((n : Int) ≤ 0) || its.toArray.isEmpty) = false := by
    rw [em, Bool.or_false]; exact decide_eq_false (by omega)
  have fl := size_rep its n
  have road := tuple_mulW a its.toArray m dd sl (n : Int) tk b0 b1 b2 (by omega) tm (by rw [nn, fl, List.size_toArray]; exact times_len hn (by omega))
  have fin : EP X pins σ Q (.ref st.heap.objs.size) { st with heap := st.heap.push { cls := Value.type "tuple", data := Data.seq (List.replicate n its).flatten.toArray }, toks := st.toks } :=
    ⟨.ref st.heap.objs.size, _, I.laid (t' := st.toks) (o := .tup (List.replicate n xs).flatten) (fun _ _ g => Heap.get?_push_of_some _ g) (Nat.le_refl _) ⟨times_len hn hz, _, r.rep n, IsTup.new _ _⟩, rfl, q _ (I.hok.fresh (Nat.le_refl _))⟩
  exact wpAny_binaryOp_repeat_ref (T := "tuple") (U := "int") (by decide) ⟨_, ho, rfl⟩ (fun s' => typeIs_int s' (n : Int) tk) noFill_tuple_mul F.fills_int_mul F.slot_int_rmul repeat_tuple F.slot_int_index.lookup
    (call_meets F.slot_int_rmul (typeIs_int st (n : Int) tk) F.entry_int_rmul (F.args_int_rmul_2 _ _) (int_rmul_tuple (n : Int) tk a its.toArray m dd sl) ⟨ho, rfl, ⟨_, ho, rfl⟩,
      call_meets F.slot_tuple_mul ⟨_, ho, rfl⟩ F.entry_tuple_mul (F.args_tuple_mul_2 _ _) road ⟨ho, by rw [nn, fl]; exact fin⟩⟩)
theorem oTimesT {K : PySem.W.Frag} {X : Cx} (e : X.K = K := by rfl) : OpR X (binaryOp .Mult) (rTimesT K) := by cases e; exact op_timesT
section
variable {K : PySem.W.Frag} {H : Hp} {Q : VK}
theorem o_times {a : Addr} {n : Nat} {xs : List V} {i : Int} (h : SqT K H a xs) (ne : xs ≠ []) (e : i = (n : Nat)) (h2 : 2 ≤ n) (hn : n ≤ 2000) (hz : xs.length ≤ 40) (q : ∀ p H2, H p = none → Same H H2 → H2 p = some (.tup (List.replicate n xs).flatten) → Q (.ref p) H2) : rTimesT K (.ref a) (.int i) H Q :=
  ⟨a, n, xs, rfl, by rw [e], h, ne, h2, hn, hz, fun p np => q p _ np (Same.new np) upd_same⟩
end
end Vw

set_option Elab.async false
set_option linter.all false
set_option maxRecDepth 100000
set_option maxHeartbeats 4000000
namespace Vw
open PySem PySem.Spec PyProof.Rows L2 RT
/-! ### a tuple no times -/
theorem mul0_road (a : Addr) (its : Array Value) (m : Nat) (od : Option Addr) (sl : Array (Option Value)) (k : Tok) (e1 : (its.isEmpty || (0 : Int) == 1) = false) :
    Meets (Builtin.«tuple.__mul__» ⟨[.ref a, .int 0 k], []⟩) (fun _ R s => s.heap.get? a = some { cls := .type "tuple", dict := od, data := .seq its m, slots := sl } ∧
      R (.ok (.ret (Value.ref s.heap.objs.size))) { s with heap := s.heap.push { cls := Value.type "tuple", data := Data.seq #[] } }) :=
  .of_wp fun prog w A R s h => by
    obtain ⟨hp, gl, dd, tk, os⟩ := s
    obtain ⟨hl, h⟩ := h
    have f1 := AutoSeq1.idx_int
    wp_walk using wpAny_loadPart' hl
    repeat (first
      | (refine wpAny_ite_false (by decide) ?_; wp_walk using wpAny_loadPart' hl)
      | (refine wpAny_ite_false (decide_eq_false (by rw [e1]; decide)) ?_; wp_walk using wpAny_loadPart' hl)
      | (refine wpAny_ite_true (by decide) ?_; wp_walk using wpAny_loadPart' hl)
      | (refine wpAny_ite_true (by simp) ?_; wp_walk using wpAny_loadPart' hl))
    exact ⟨_, rfl, h⟩
def rNoTimes (K : PySem.W.Frag) : R2 := fun x y H Q => ∃ (a : Addr) (xs : List V), x = .ref a ∧ y = .int 0 ∧ SqT K H a xs ∧ xs ≠ [] ∧ ∀ p, H p = none → Q (.ref p) (upd H p (.tup []))
theorem op_noTimes {X : Cx} : OpR X (binaryOp .Mult) (rNoTimes X.K) := by
  intro pins st σ H x y v u Q I rx ry ⟨a, xs, ex, ey, hT, hne, q⟩
  subst ex ey
  cases rx
  obtain ⟨tk, rfl⟩ := ry
  obtain ⟨its, r, ⟨ob, ho, hc, m, hd⟩, hs⟩ := I.tuple hT
  obtain ⟨cls, dd, data, sl⟩ := ob
  have hc : cls = .type "tuple" := hc
  have hd : data = .seq its.toArray m := hd
  subst hc hd
  have ln : its.length = xs.length := r.length.symm
  have pos : 0 < its.length := by rw [ln]; exact List.length_pos_iff.mpr hne
  have em : its.toArray.isEmpty = false := by rw [List.isEmpty_toArray]; cases its with
    | nil => cases pos
    | cons _ _ => rfl
  have fin : EP X pins σ Q (.ref st.heap.objs.size) { st with heap := st.heap.push { cls := Value.type "tuple", data := Data.seq #[] } } :=
    ⟨.ref st.heap.objs.size, _, I.laid (t' := st.toks) (o := .tup []) (fun _ _ g => Heap.get?_push_of_some _ g) (Nat.le_refl _) ⟨Nat.zero_le _, [], .nil, IsTup.new _ _⟩, rfl, q _ (I.hok.fresh (Nat.le_refl _))⟩
  exact wpAny_binaryOp_repeat_ref (T := "tuple") (U := "int") (by decide) ⟨_, ho, rfl⟩ (fun s' => typeIs_int s' 0 tk) noFill_tuple_mul F.fills_int_mul F.slot_int_rmul repeat_tuple F.slot_int_index.lookup
    (call_meets F.slot_int_rmul (typeIs_int st 0 tk) F.entry_int_rmul (F.args_int_rmul_2 _ _) (int_rmul_tuple 0 tk a its.toArray m dd sl) ⟨ho, rfl, ⟨_, ho, rfl⟩,
      call_meets F.slot_tuple_mul ⟨_, ho, rfl⟩ F.entry_tuple_mul (F.args_tuple_mul_2 _ _) (mul0_road a its.toArray m dd sl tk (by rw [em]; rfl)) ⟨ho, fin⟩⟩)
theorem oMulA {K : PySem.W.Frag} {X : Cx} (e : X.K = K := by rfl) : OpR X (binaryOp .Mult) (rOr rIMul (rOr (rTimesT K) (rNoTimes K))) := by cases e; exact oOr op_mul (oOr op_timesT op_noTimes)
section
variable {K : PySem.W.Frag} {H : Hp} {Q : VK}
/-- so many times, none too -/
theorem o_timesA {r : R2} {a : Addr} {n : Nat} {xs : List V} {i : Int} (h : SqT K H a xs) (ne : xs ≠ []) (e : i = (n : Nat)) (h2 : n = 0 ∨ 2 ≤ n) (hn : n ≤ 2000) (hz : xs.length ≤ 40) (q : ∀ p H2, H p = none → Same H H2 → H2 p = some (.tup (List.replicate n xs).flatten) → Q (.ref p) H2) : rOr r (rOr (rTimesT K) (rNoTimes K)) (.ref a) (.int i) H Q := by
  rcases h2 with rfl | h2
  · exact .inr (.inr ⟨a, xs, rfl, by rw [e]; rfl, h, ne, fun p np => q p _ np (Same.new np) upd_same⟩)
  · exact .inr (.inl (o_times h ne e h2 hn hz q))
end
end Vw

set_option Elab.async false
set_option linter.all false
set_option maxRecDepth 100000
set_option maxHeartbeats 4000000
namespace Vw
open PySem PySem.Spec PyProof.Rows L2 RT
/-! ### a tuple so many times, none and once too -/
theorem mul1_road (a : Addr) (its : Array Value) (m : Nat) (od : Option Addr) (sl : Array (Option Value)) (k : Tok) (e1 : (its.isEmpty || (1 : Int) == 1) = true) :
    Meets (Builtin.«tuple.__mul__» ⟨[.ref a, .int 1 k], []⟩) (fun _ R s => s.heap.get? a = some { cls := .type "tuple", dict := od, data := .seq its m, slots := sl } ∧
      R (.ok (.ret (Value.ref a))) s) :=
  .of_wp fun prog w A R s h => by
    obtain ⟨hp, gl, dd, tk, os⟩ := s
    obtain ⟨hl, h⟩ := h
    have f1 := AutoSeq1.idx_int
    wp_walk using wpAny_loadPart' hl
    repeat (first
      | (refine wpAny_ite_false (by decide) ?_; wp_walk using wpAny_loadPart' hl)
      | (refine wpAny_ite_true (by rw [e1]) ?_; wp_walk using wpAny_loadPart' hl)
      | (refine wpAny_ite_true (decide_eq_true (by rw [e1])) ?_; wp_walk using wpAny_loadPart' hl)
      | (refine wpAny_ite_true (by decide) ?_; wp_walk using wpAny_loadPart' hl)
      | (refine wpAny_ite_true (by simp) ?_; wp_walk using wpAny_loadPart' hl))
    exact ⟨_, rfl, h⟩
def rOnce (K : PySem.W.Frag) : R2 := fun x y H Q => ∃ (a : Addr) (xs : List V), x = .ref a ∧ y = .int 1 ∧ SqT K H a xs ∧ xs ≠ [] ∧ Q (.ref a) H
theorem op_once {X : Cx} : OpR X (binaryOp .Mult) (rOnce X.K) := by
  intro pins st σ H x y v u Q I rx ry ⟨a, xs, ex, ey, hT, hne, q⟩
  subst ex ey
  cases rx
  obtain ⟨tk, rfl⟩ := ry
  obtain ⟨its, r, ⟨ob, ho, hc, m, hd⟩, hs⟩ := I.tuple hT
  obtain ⟨cls, dd, data, sl⟩ := ob
  have hc : cls = .type "tuple" := hc
  have hd : data = .seq its.toArray m := hd
  subst hc hd
  have fin : EP X pins σ Q (.ref a) st := ⟨.ref a, _, I, rfl, q⟩
  exact wpAny_binaryOp_repeat_ref (T := "tuple") (U := "int") (by decide) ⟨_, ho, rfl⟩ (fun s' => typeIs_int s' 1 tk) noFill_tuple_mul F.fills_int_mul F.slot_int_rmul repeat_tuple F.slot_int_index.lookup
    (call_meets F.slot_int_rmul (typeIs_int st 1 tk) F.entry_int_rmul (F.args_int_rmul_2 _ _) (int_rmul_tuple 1 tk a its.toArray m dd sl) ⟨ho, rfl, ⟨_, ho, rfl⟩,
      call_meets F.slot_tuple_mul ⟨_, ho, rfl⟩ F.entry_tuple_mul (F.args_tuple_mul_2 _ _) (mul1_road a its.toArray m dd sl tk (by simp)) ⟨ho, fin⟩⟩)
def rTimesW (K : PySem.W.Frag) : R2 := fun x y H Q => ∃ (a : Addr) (n : Nat) (xs : List V), x = .ref a ∧ y = .int n ∧ SqT K H a xs ∧ xs ≠ [] ∧ 2 ≤ n ∧ n ≤ 8000 ∧ xs.length ≤ 8 ∧ ∀ p, H p = none → Q (.ref p) (upd H p (.tup (List.replicate n xs).flatten))
theorem timesW_len {α : Type} {xs : List α} {n : Nat} (h : n ≤ 8000) (h2 : xs.length ≤ 8) : (List.replicate n xs).flatten.length ≤ sizeLine := by
  rw [PyProof.Rows.lm_len_rep_flat]
  exact Nat.le_trans (Nat.mul_le_mul h h2) (by decide)
theorem op_timesW {X : Cx} : OpR X (binaryOp .Mult) (rTimesW X.K) := by
  intro pins st σ H x y v u Q I rx ry ⟨a, n, xs, ex, ey, hT, hne, h2, hn, hz, q⟩
  subst ex ey
  cases rx
  obtain ⟨tk, rfl⟩ := ry
  obtain ⟨its, r, ⟨ob, ho, hc, m, hd⟩, hs⟩ := I.tuple hT
  obtain ⟨cls, dd, data, sl⟩ := ob
  have hc : cls = .type "tuple" := hc
  have hd : data = .seq its.toArray m := hd
  subst hc hd
  have ln : its.length = xs.length := r.length.symm
  have pos : 0 < its.length := by rw [ln]; exact List.length_pos_iff.mpr hne
  have em : its.toArray.isEmpty = false := by rw [List.isEmpty_toArray]; cases its with
    | nil => cases pos
    | cons _ _ => rfl
  have sz : its.toArray.size = xs.length := by rw [List.size_toArray, ln]
  have pm : ((its.toArray.size : Nat) : Int) * (n : Int) ≤ 64000 := by
    rw [sz, ← Int.natCast_mul]
    have := Nat.mul_le_mul hz hn
    omega
  have nn : ((n : Nat) : Int).toNat = n := Int.toNat_natCast n
  have tm : Builtin.Tuple.tupleTooMany (((its.toArray.size : Nat) : Int) * (n : Int)) = false := by
    have e : (64000 : Int) < (sizeLine : Nat) := by decide
    unfold Builtin.Tuple.tupleTooMany; exact decide_eq_false (by omega)
  have b0 : (decide ((n : Int) < -(2 ^ 63)) || decide ((n : Int) ≥ 2 ^ 63)) = false := by
    rw [Bool.or_eq_false_iff]; exact ⟨decide_eq_false (by omega), decide_eq_false (by omega)⟩
  have b1 : (its.toArray.isEmpty || (n : Int) == 1) = false := by
    rw [em, Bool.false_or, beq_eq_false_iff_ne]; omega
  have b2 : (decide ((n : Int) ≤ 0) || its.toArray.isEmpty) = false := by
    rw [em, Bool.or_false]; exact decide_eq_false (by omega)
  have fl := size_rep its n
  have road := tuple_mulW a its.toArray m dd sl (n : Int) tk b0 b1 b2 (by omega) tm (by rw [nn, fl, List.size_toArray]; exact timesW_len hn (by omega))
  have fin : EP X pins σ Q (.ref st.heap.objs.size) { st with heap := st.heap.push { cls := Value.type "tuple", data := Data.seq (List.replicate n its).flatten.toArray }, toks := st.toks } :=
    ⟨.ref st.heap.objs.size, _, I.laid (t' := st.toks) (o := .tup (List.replicate n xs).flatten) (fun _ _ g => Heap.get?_push_of_some _ g) (Nat.le_refl _) ⟨timesW_len hn hz, _, r.rep n, IsTup.new _ _⟩, rfl, q _ (I.hok.fresh (Nat.le_refl _))⟩
  exact wpAny_binaryOp_repeat_ref (T := "tuple") (U := "int") (by decide) ⟨_, ho, rfl⟩ (fun s' => typeIs_int s' (n : Int) tk) noFill_tuple_mul F.fills_int_mul F.slot_int_rmul repeat_tuple F.slot_int_index.lookup
    (call_meets F.slot_int_rmul (typeIs_int st (n : Int) tk) F.entry_int_rmul (F.args_int_rmul_2 _ _) (int_rmul_tuple (n : Int) tk a its.toArray m dd sl) ⟨ho, rfl, ⟨_, ho, rfl⟩,
      call_meets F.slot_tuple_mul ⟨_, ho, rfl⟩ F.entry_tuple_mul (F.args_tuple_mul_2 _ _) road ⟨ho, by rw [nn, fl]; exact fin⟩⟩)
abbrev rTimesV (K : PySem.W.Frag) : R2 := rOr (rTimesW K) (rOr (rOnce K) (rNoTimes K))
theorem oTimesV {K : PySem.W.Frag} {X : Cx} (e : X.K = K := by rfl) : OpR X (binaryOp .Mult) (rTimesV K) := by cases e; exact oOr op_timesW (oOr op_once op_noTimes)
section
variable {K : PySem.W.Frag} {H : Hp} {Q : VK}
theorem o_timesV {a : Addr} {n : Nat} {xs : List V} {i : Int} (h : SqT K H a xs) (ne : xs ≠ []) (e : i = (n : Nat)) (hn : n ≤ 8000) (hz : xs.length ≤ 8) (q : ∀ p H2, Same H H2 → SqT K H2 p (List.replicate n xs).flatten → Q (.ref p) H2) : rTimesV K (.ref a) (.int i) H Q := by
  rcases (show n = 0 ∨ n = 1 ∨ 2 ≤ n by omega) with rfl | rfl | h2
  · exact .inr (.inr ⟨a, xs, rfl, by rw [e]; rfl, h, ne, fun p np => q p _ (Same.new np) (stO upd_same)⟩)
  · exact .inr (.inl ⟨a, xs, rfl, by rw [e]; rfl, h, ne, q a H (Same.refl _) (by simpa using h)⟩)
  · exact .inl ⟨a, n, xs, rfl, by rw [e], h, ne, h2, hn, hz, fun p np => q p _ (Same.new np) (stO upd_same)⟩
end
end Vw

set_option Elab.async false
set_option linter.all false
set_option maxRecDepth 100000
set_option maxHeartbeats 4000000
namespace Vw
open PySem PySem.Spec PyProof.Rows L2 RT
/-! ### o.f as one of several targets -/
def gFld (K : PySem.W.Frag) (to : TE) (f : Str) : TG := fun v σ H Q => to σ H fun x H1 => ∃ a C dx fs, x = .ref a ∧ H1 a = some (.ins C dx fs) ∧ Cls K C ∧ NoAttr K C f ∧ fs.length < 1000 ∧ Q σ (upd H1 a (.ins C dx (putF f v fs)))
section
variable {X : Cx} {o : Expr} {to : TE} {f : Str} {pos : Pos}
theorem pg_fld (ho : PE X o to) (ha : ∀ v, assign (.Attribute o f pos) X.env v = (do
      let ov ← holding [v] (eval o X.env)
      standAt pos.atName
      holding [v, ov] (setAttr ov f v)
      release [v, ov] []) := by intro _; rfl) : PG X (.Attribute o f pos) (gFld X.K to f) := by
  refine ⟨fun pins s σ H v u Q I r h => ?_⟩
  rw [ha]
  refine wpAny_bind (wpAny_holding (thn (ho.run pins s σ H _ I h) fun ov s1 ⟨x, H1, I1, r1, a, C, dx, fs, ex, ea, c, n, l, q1⟩ => ?_))
  subst ex
  obtain rfl : ov = Value.ref a := r1
  refine wpAny_bind (wpAny_standAt (wpAny_bind (wpAny_holding ?_)))
  exact setattr_ok I1 ea c n l r fun s3 I3 => wpAny_release ⟨σ, _, I3, q1⟩
end
theorem pgFld {X : Cx} {K : PySem.W.Frag} {o : Expr} {to : TE} {f : Str} {pos : Pos} (ho : PE X o to) (eK : X.K = K := by rfl) (ha : ∀ v, assign (.Attribute o f pos) X.env v = (do
      let ov ← holding [v] (eval o X.env)
      standAt pos.atName
      holding [v, ov] (setAttr ov f v)
      release [v, ov] []) := by intro _; rfl) : PG X (.Attribute o f pos) (gFld K to f) := by cases eK; exact pg_fld ho ha
end Vw
namespace Vw
open PySem PySem.Spec PyProof.Rows L2 RT
/-! ### list.extend of a list -/
theorem list_extend_lst (l : Addr) (items : Array Value) (n : Nat) (b : Addr) (items2 : Array Value) (n2 : Nat) (hs0 : ¬(!items.isEmpty && Builtin.List.listTooLong (items.size + items2.size)) = true) (hs1 : items.size ≤ sizeLine) (hs2 : items.size + items2.size ≤ sizeLine + 1) :
    Meets (Builtin.«list.extend» ⟨[.ref l, .ref b], []⟩) (fun _ R s => s.heap.get? l = some { cls := .type "list", dict := none, data := .seq items n, slots := #[] } ∧ s.heap.get? b = some { cls := .type "list", dict := none, data := .seq items2 n2, slots := #[] } ∧ R (.ok (.ret Value.none)) { s with heap := s.heap.update l (Obj.mapSeq fun x => x ++ items2), toks := s.toks }) :=
  .of_wp fun prog w A R s h => by
    obtain ⟨hp, g, d, tk, os⟩ := s; obtain ⟨hl, hb, h⟩ := h; have f1 := PySem.AutoSeq1.idx_int; have f2 := PySem.AutoSeq1.sub_tuple_tuple; have f3 := PySem.AutoSeq1.sub_list_list; have f4 := PySem.AutoSeq1.sub_tuple_list; have f5 := PySem.AutoSeq1.sub_list_tuple;
    have hz' : (items ++ items2).size ≤ sizeLine + 1 := by rw [Array.size_append]; exact hs2
    wp_walk using (wpAny_updateSeq hl rfl (hz := hs1) (_hz' := hz')), PySem.AutoSeq1.wpAny_loadPart' hl, PySem.AutoSeq1.wpAny_loadPart' hb; exact ⟨_, rfl, h⟩
def rExtL : V → List V → Hp → VK → Prop := fun x vs H Q => ∃ l b xs zs, x = .ref l ∧ vs = [.ref b] ∧ H l = some (.lst xs) ∧ H b = some (.lst zs) ∧ xs.length + zs.length ≤ sizeLine ∧ Q .non (upd H l (.lst (xs ++ zs)))
section
variable {X : Cx}
theorem mt_extL : MtM X "list.extend" rExtL := by
  intro pins s σ H x vs v us Q I rx rv h
  obtain ⟨l, b, xs, zs, rfl, rfl, hH, hB, hz, q⟩ := h
  cases rx
  obtain ⟨u, rfl, ru⟩ := rv.one
  cases ru
  obtain ⟨z, its, n, r, hl, e⟩ := I.lstM hH
  obtain ⟨z2, its2, n2, r2, hl2, e2⟩ := I.lstM hB
  have hl3 := r2.length
  have hsz : its.toArray.size + its2.toArray.size ≤ sizeLine := by rw [List.size_toArray, List.size_toArray]; omega
  have hlong : ¬ (!its.toArray.isEmpty && Builtin.List.listTooLong (its.toArray.size + its2.toArray.size)) = true := by
    rw [show Builtin.List.listTooLong (its.toArray.size + its2.toArray.size) = false from decide_eq_false (by omega), Bool.and_false]
    exact Bool.false_ne_true
  refine call_meets F.slot_list_extend ⟨_, e, rfl⟩ F.entry_list_extend (F.args_list_extend_2 _ _)
    (list_extend_lst l its.toArray n b its2.toArray n2 hlong (by rw [List.size_toArray]; omega) (by omega)) ⟨e, e2, ?_⟩
  refine ⟨.non, _, I.lset (its' := its ++ its2) hH e (by simp) (r.append r2) ?_, rfl, q⟩
  rw [List.length_append]
  omega
end
section
variable {K : PySem.W.Frag} {σ : L2.St} {H : Hp} {Q : VK} {l b : Addr} {xs zs : List V}
theorem r_extL (h : H l = some (.lst xs)) (hb : H b = some (.lst zs)) (hl : xs.length + zs.length < 100000) (q : ∀ H2, Oth l H H2 → H2 l = some (.lst (xs ++ zs)) → Q .non H2) : rExtL (.ref l) [.ref b] H Q :=
  ⟨l, b, xs, zs, rfl, rfl, h, hb, Nat.le_of_lt (lt_size hl), q _ (fun c o z e => by rw [upd_ne z]; exact e) upd_same⟩
end
end Vw

set_option Elab.async false
set_option linter.all false
set_option maxRecDepth 100000
set_option maxHeartbeats 4000000
namespace Vw
open PySem PySem.Spec PyProof.Rows L2 RT
/-! ### a text so many times -/
def repS (z : Str) (n : Nat) : Str := ⟨(List.replicate n z.cps).foldl (· ++ ·) #[]⟩
def rTimesS : R2 := fun x y H Q => ∃ (z : Str) (n : Nat), x = .str z ∧ y = .int n ∧ 1 ≤ z.length ∧ z.length ≤ 100 ∧ 2 ≤ n ∧ n ≤ 100 ∧ (repS z n).length ≤ sizeLine ∧ Q (.str (repS z n)) H
theorem op_timesS {X : Cx} : OpR X (binaryOp .Mult) rTimesS := by
  intro pins st σ H x y v u Q I rx ry ⟨z, n, ex, ey, h1, h2, h3, h4, h5, q⟩
  subst ex ey
  obtain ⟨tz, rfl⟩ := rx
  obtain ⟨tk, rfl⟩ := ry
  have b1 : ((n : Int) == 1 || z.length == 0) = false := by
    rw [Bool.or_eq_false_iff, beq_eq_false_iff_ne, beq_eq_false_iff_ne]; omega
  refine P.mul_str ?_ (fun _ _ => ?_) (fun _ _ => ?_) ?_
  · rw [Bool.or_eq_false_iff]; exact ⟨decide_eq_false (by omega), decide_eq_false (by omega)⟩
  · have : (2 ^ 63 - 1 : Int) / (n : Int) ≥ (2 ^ 63 - 1) / 100 := by
      refine Int.le_ediv_of_mul_le (by omega) ?_
      omega
    omega
  · rw [Int.toNat_natCast]
    have := Nat.mul_le_mul h2 h4
    exact decide_eq_false (by have e : (10000 : Nat) < sizeLine := by decide
                              omega)
  · rw [if_neg (by omega), if_neg (by rw [b1]; exact Bool.false_ne_true), Int.toNat_natCast]
    exact ⟨h5, ⟨.str (repS z n), H, I.tok _, ⟨_, rfl⟩, q⟩⟩
theorem oMulVS {K : PySem.W.Frag} {X : Cx} (e : X.K = K := by rfl) : OpR X (binaryOp .Mult) (rOr rTimesS (rTimesV K)) := oOr op_timesS (oTimesV e)
section
variable {K : PySem.W.Frag} {H : Hp} {Q : VK}
theorem o_timesS {z y : Str} {i : Int} {r : R2} (n : Nat) (e : i = (n : Nat)) (h1 : 1 ≤ z.length) (h2 : z.length ≤ 100) (h3 : 2 ≤ n) (h4 : n ≤ 100) (ey : repS z n = y) (hy : y.length ≤ sizeLine) (q : Q (.str y) H) : rOr rTimesS r (.str z) (.int i) H Q := by
  subst e ey
  exact .inl ⟨z, n, rfl, rfl, h1, h2, h3, h4, hy, q⟩
end
end Vw

set_option Elab.async false
set_option linter.all false
set_option maxRecDepth 100000
set_option maxHeartbeats 4000000
namespace Vw
open PySem PySem.Spec PyProof.Rows L2 RT
/-! ### what is never reached -/
section
variable {X : Cx}
theorem pe_no {e : Expr} : PE X e (fun _ _ _ => False) := ⟨fun _ _ _ _ _ _ h => h.elim⟩
theorem pt_no {e : Expr} : PT X e (fun _ _ _ => False) := ⟨fun _ _ _ _ _ _ h => h.elim⟩
theorem ps_no {st : Stmt} : PS X st (fun _ _ _ => False) := ⟨fun _ _ _ _ _ _ h => h.elim⟩
theorem pg_no {tg : Expr} : PG X tg (fun _ _ _ _ => False) := ⟨fun _ _ _ _ _ _ _ _ _ h => h.elim⟩
theorem pss_no {st : List Stmt} : PSs X st (fun _ _ _ => False) := ⟨fun _ _ _ _ _ _ h => h.elim⟩
end
/-! ### a comprehension of several clauses over nothing -/
section
variable {prog : Program} {w : World} {A : Around} {R : Result → Shared → Prop} {s : Shared} {elt tg iter : Expr} {ifs : List Expr} {rest : List Comprehension} {scope : Scope} {pos : Pos} {it acc : Value} {env : Env}
theorem compEnds (h : wpAny (model prog w) A (pyNext it) (fun r s1 => r = none ∧ R (.ok .next) s1) (fun _ _ => False) s) :
    codeAny (model prog w) A (.compLoop (.ListComp elt (⟨tg, iter, ifs, 0⟩ :: rest) scope pos) 0 it acc env) R s := by
  refine codeAny_of_tree ?_
  show wpAny _ A ((compTurn (.ListComp elt (⟨tg, iter, ifs, 0⟩ :: rest) scope pos) 0 it acc env).onRaise (fun x => do noteFrame x env; theTreesLotGoes x)) _ _ s
  refine wpAny_noted ?_
  unfold compTurn
  refine wpAny_bind (wpAny_standAt (wpAny_bind (wpAny_mono h (fun r s1 h1 => ?_) fun _ _ z => z.elim)))
  obtain ⟨rfl, h1⟩ := h1
  exact wpAny_pure h1
end
section
variable {X : Cx}
def tLcE (wi : TI) : TE := fun σ H Q => wi σ H fun J H1 => ∀ D, H1 D = none → J.stop 0 (upd H1 D (.lst [])) ∧ Q (.ref D) (upd H1 D (.lst []))
theorem pe_lcE {elt tg iter : Expr} {ifs : List Expr} {rest : List Comprehension} {scope : Scope} {own : List (Str × Nat)} {pos : Pos} {wi : TI} (hc : X.calm = true) (hN : X.N.Nodup) (hi : PI X tg iter wi) (ok : BlkOk X.N X.env.scope scope own)
    (hs : ∀ x, foldedSetIterable iter X.env x = pure x := by intro _; rfl) : PE X (.ListComp elt (⟨tg, iter, ifs, 0⟩ :: rest) scope pos) (tLcE wi) := by
  refine ⟨fun pins s σ H Q I h => ?_⟩
  rw [eval_ListComp]
  have frees : ∀ z ∈ scope.names, z.2 = .free → ∃ c, X.env.cells.lookup z.1 = some c := fun z hz e => (ok.free z hz e).elim (fun k => I.ok.has _ (.inl k)) fun k => I.ok.has _ (.inr k)
  refine wpAny_comprehension_free (use := none) rfl hs (closure_ok frees) ok.kind (fun z hz e => by rw [ok.uniq z hz, e]) (thn (hi.run pins s σ H _ I h) fun xv s1 hx => thn hx fun itv s2 h2 => ?_)
  obtain ⟨it, fp, tn, J, H2, e, I2, T, st2, f2, q⟩ := h2
  subst e
  refine wpAny_newObj_type (newEnv_comp ?_) (by show 0 ≤ sizeLine; decide)
  generalize hD : s2.heap.objs.size = D
  have nD : H2 D = none := I2.hok.fresh (Nat.le_of_eq hD)
  obtain ⟨stop, qq⟩ := q D nD
  generalize hs3 : ({ s2 with heap := s2.heap.push { cls := .type "list", data := .seq ([] : List Value).toArray } } : Shared) = s3
  have I3 : Inv X pins σ (upd H2 D (.lst [])) s3 := by
    rw [← hs3]
    refine I2.laid (t' := s2.toks) (fun b o e => Heap.get?_push_of_some _ e) (Nat.le_of_eq hD) ⟨Nat.zero_le _, [], 0, .nil, ?_⟩
    rw [← hD]; exact Heap.get?_push_size _ rfl
  have h3 : s3.heap = s2.heap.push { cls := .type "list", data := .seq ([] : List Value).toArray } := by rw [← hs3]
  have old : ∀ b ∈ fp, b < s2.heap.objs.size := fun b hb => (T.obj _ _ st2 b hb).elim fun o e => Heap.lt_size e.1
  have f3 : ∀ b ∈ fp, FpOk X pins (upd H2 D (.lst [])) b ∧ b < s3.heap.objs.size := fun b hb => by
    have l := old b hb
    have nb : upd H2 D (.lst []) b = none := by
      rw [upd_ne (by rw [← hD]; exact Nat.ne_of_lt l)]; exact (f2 b hb).1
    exact ⟨⟨nb, (f2 b hb).2⟩, by rw [h3, Heap.size_push]; exact Nat.lt_succ_of_lt l⟩
  have st3 : tn 0 s3.heap := T.keep _ _ _ st2 fun b _ o e => by rw [h3]; exact Heap.get?_push_of_some _ e
  have I4 := block_start I3 ok hN f3
  show codeAny _ _ (.compStart (.ListComp elt (⟨tg, iter, ifs, 0⟩ :: rest) scope pos) 0 (.ref it) (.ref D) (compEnvC scope (cellsFrom (s3.heap.objs.size + 1) scope.names (cloFrom X.env.cells scope.names [])) s3.heap.objs.size X.env)) (compPost (model X.prog X.w) X.A X.xe none _ (.ref D) s3.heap.objs.size) { s3 with heap := pushCells (s3.heap.push { cls := .type "dict", data := .dict #[] }) scope.names }
  have none3 : ∀ b ∈ fp, (upd H2 D (.lst [])) b = none := fun b hb => (f3 b hb).1.1
  generalize hce : compEnvC scope (cellsFrom (s3.heap.objs.size + 1) scope.names (cloFrom X.env.cells scope.names [])) s3.heap.objs.size X.env = ce at I4 ⊢
  have cL : ce.locals = s3.heap.objs.size := by subst hce; rfl
  generalize hH3 : upd H2 D (.lst []) = H3 at I3 I4 none3 f3 stop qq
  generalize hs4 : ({ s3 with heap := pushCells (s3.heap.push { cls := .type "dict", data := .dict #[] }) scope.names } : Shared) = s4 at I4 ⊢
  have st4 : tn 0 s4.heap := T.keep _ _ _ st3 fun b _ o e => by rw [← hs4]; exact pushCells_keeps _ _ _ _ (Heap.get?_push_of_some _ e)
  have stat : ∀ b ∈ fp, FpOk (X.blk s3 H3 scope ce fp) [] H3 b := fun b hb => ⟨none3 b hb, (I4.ok.exf b hb).1, I4.ok.exfs b hb, .inl hb, fun x c e => (I4.ok.exf b hb).2 x c e, fun p hp => absurd (show p ∈ ([] : List (Addr × Obj)) ++ [] from hp) (by simp)⟩
  have loop : codeAny (model X.prog X.w) X.A (.compLoop (.ListComp elt (⟨tg, iter, ifs, 0⟩ :: rest) scope pos) 0 (.ref it) (.ref D) ce) (compPost (model X.prog X.w) X.A X.xe none (EP X pins σ Q) (.ref D) s3.heap.objs.size) s4 := by
    refine compEnds (wpAny_mono (T.done (X.blk s3 H3 scope ce fp) rfl rfl rfl hc 0 [] s4 _ H3 (fun _ _ => False) I4 stat st4 stop) (fun r s6 hr => ?_) fun _ _ z => z)
    obtain ⟨er, I6⟩ := hr
    refine ⟨er, ?_⟩
    have I7 : Inv X pins σ H3 s6 := I3.call' (ch := fp) I6.os I6.base I6.hok I6.bare fun b hb => ⟨(f3 b hb).1.2.2.2.1, (f3 b hb).1.2.1, (f3 b hb).1.2.2.2.2.1, (f3 b hb).1.2.2.2.2.2⟩
    have nC : H3 s3.heap.objs.size = none := by
      have z : H3 ce.locals = none := I6.free
      rw [cL] at z; exact z
    obtain ⟨m, hn, _⟩ := I6.loc
    have hn : s6.heap.Ns ce.locals m := hn
    rw [cL] at hn
    refine ⟨m, hn, fun h'' sb => ?_⟩
    obtain ⟨f0, f1, f2, f3, f4, f5⟩ := I3.fpOk (Nat.le_refl _) nC
    exact ⟨.ref D, H3, I7.turned (t' := s6.toks) (fun b o hb e => (sb.2 b hb).trans e) f0 f1 f3 f4 f5, rfl, qq⟩
  exact codeAny_compStart_list loop (T.self X.A 0 _ _ _ st4 loop)
end
end Vw

set_option Elab.async false
set_option linter.all false
set_option maxRecDepth 100000
set_option maxHeartbeats 4000000
namespace Vw
open PySem PySem.Spec PyProof.Rows L2 RT
/-! ### == and != of data in which dicts of whole numbers lie -/
def intK : Key → Bool
  | .inl _ => true
  | .inr _ => false
theorem intK_of {k : Key} (h : intK k = true) : ∃ i, k = Sum.inl i := by
  cases k with
  | inl i => exact ⟨i, rfl⟩
  | inr x => cases h
/-- a dict of whole numbers is one in every world -/
theorem pairs_any {p p' : Program} {w w' : World} : ∀ {es : List DictEntry} {va : List (Key × Value)}, Pairs (mixKind p w) es va → Pairs (mixKind p' w') es va := fun h => by
  induction h with
  | nil => exact .nil
  | cons a b _ k => exact .cons a b k
theorem dictOf_any {p p' : Program} {w w' : World} {h : Heap} {a : Addr} {va : List (Key × Value)} (d : h.DictOf (mixKind p w) a va) (i : ∀ q ∈ va, intK q.1 = true) : h.DictOf (mixKind p' w') a va := by
  obtain ⟨o, es, ep, h1, h2, h3, h4, h5, h6⟩ := d
  refine ⟨o, es, ep, h1, h2, h3, fun e me => ?_, pairs_any h5, h6⟩
  obtain ⟨k, k1, k2⟩ := h4 e me
  refine ⟨k, k1, ?_⟩
  obtain ⟨j, hj, ej⟩ := List.getElem_of_mem (Array.mem_toList_iff.mpr me)
  have lj : j < va.length := by rw [← h5.length]; exact hj
  obtain ⟨q1, _⟩ := h5.get? (i := j) (e := e) (k := va[j].1) (v := va[j].2) (by rw [List.getElem?_eq_getElem hj, ej]) (List.getElem?_eq_getElem lj)
  have ek : k = va[j].1 := (mixKind p w).inj _ _ _ k1 q1
  obtain ⟨n, en⟩ := intK_of (i va[j] (List.getElem_mem lj))
  rw [ek, en] at k2 ⊢
  exact k2
def EqX (K : PySem.W.Frag) (H : Hp) : Nat → V → V → Prop
  | 0 => fun _ _ => False
  | n + 1 => fun x y => (x = y ∧ flatB x = true) ∨ (∃ a b xs ys, x = .ref a ∧ y = .ref b ∧ SqT K H a xs ∧ SqT K H b ys ∧ Paired (EqX K H n) xs ys) ∨ (∃ a b xs ys, x = .ref a ∧ y = .ref b ∧ SqL K H a xs ∧ SqL K H b ys ∧ Paired (EqX K H n) xs ys) ∨
    ∃ a b ks ls, x = .ref a ∧ y = .ref b ∧ H a = some (.dK ks) ∧ H b = some (.dK ls) ∧ ks.length = ls.length ∧ (∀ p ∈ ks, intK p.1 = true) ∧ (∀ p ∈ ls, intK p.1 = true) ∧ ∀ p ∈ ks, ∃ u, valV ls p.1 = some u ∧ EqX K H n p.2 u
theorem items_at {A : Around} {s : Shared} {F : V → V → Prop} (ih : ∀ x y v u, F x y → RelV x v → RelV y u → SeqAt.EqAt A s v u true) {xs ys : List V} (hp : Paired F xs ys) :
    ∀ {us ws : List Value}, Vals xs us → Vals ys ws → ∀ j (h1 : j < us.length) (h2 : j < ws.length), SeqAt.EqAt A s us[j] ws[j] true := by
  induction hp with
  | nil =>
    intro us ws r1 _ j h1
    cases r1
    exact absurd h1 (Nat.not_lt_zero j)
  | cons h _ k =>
    intro us ws r1 r2 j h1 h2
    cases r1 with
    | cons a1 b1 =>
      cases r2 with
      | cons a2 b2 =>
        cases j with
        | zero => exact ih _ _ _ _ h a1 a2
        | succ j => exact k b1 b2 j (Nat.lt_of_succ_lt_succ h1) (Nat.lt_of_succ_lt_succ h2)
theorem hits_at {A : Around} {s : Shared} {F : V → V → Prop} (ih : ∀ x y v u, F x y → RelV x v → RelV y u → SeqAt.EqAt A s v u true) {ls : List (Key × V)} {vb : List (Key × Value)} (rb : KV ls vb) {ks : List (Key × V)} {va : List (Key × Value)}
    (ra : KV ks va) : (∀ p ∈ ks, ∃ u, valV ls p.1 = some u ∧ F p.2 u) → PySem.W.KeqHits A s vb va true := by
  unfold KV at ra
  induction ra with
  | nil => intro _; exact .nil
  | @cons p q ps qs h t k =>
    intro hp
    obtain ⟨h1, h2⟩ := h
    obtain ⟨u, e, f⟩ := hp p (by simp)
    have rr : RelO (some u) (valueAt vb p.1) := by rw [← e]; exact rb.val p.1
    obtain ⟨y, hy, ry⟩ := rr.some_of
    obtain ⟨key, v⟩ := q
    obtain rfl : p.1 = key := h1
    show PySem.W.KeqHits A s vb ((p.1, v) :: qs) (true && true)
    exact .hit hy (ih _ _ _ _ f h2 ry) (k fun p' hm => hp p' (List.mem_cons_of_mem _ hm))
theorem kv_int {ks : List (Key × V)} {va : List (Key × Value)} (r : KV ks va) : (∀ p ∈ ks, intK p.1 = true) → ∀ q ∈ va, intK q.1 = true := by
  unfold KV at r
  induction r with
  | nil => intro _ q hq; cases hq
  | @cons p q ps qs h t k =>
    intro hp x hx
    rcases List.mem_cons.mp hx with z | z
    · rw [z, ← h.1]; exact hp p (by simp)
    · exact k (fun p' hm => hp p' (List.mem_cons_of_mem _ hm)) x z
section
variable {X : Cx} {pins : List (Addr × Obj)} {σ : L2.St} {H : Hp} {s : Shared}
theorem eqX_run (I : Inv X pins σ H s) : ∀ (n : Nat) (A : Around), A.units + n < cLine → ∀ (x y : V) (v u : Value), EqX X.K H n x y → RelV x v → RelV y u → SeqAt.EqAt A s v u true
  | 0, _, _, _, _, _, _, h, _, _ => (show False from h).elim
  | n + 1, A, hu, x, y, v, u, h, rx, ry => by
    have ih := eqX_run I n A.in1 (by show A.units + 1 + n < cLine; omega)
    rcases h with ⟨rfl, f⟩ | ⟨a, b, xs, ys, rfl, rfl, ha, hb, hp⟩ | ⟨a, b, xs, ys, rfl, rfl, ha, hb, hp⟩ | ⟨a, b, ks, ls, rfl, rfl, ha, hb, hl, i1, i2, hp⟩
    · exact eqAt_same rx ry f
    all_goals (cases (show v = Value.ref a from rx); cases (show u = Value.ref b from ry); by_cases e : a = b; (· subst e; exact SeqAt.EqAt.same _); refine SeqAt.EqAt.of_refs e ?_)
    · obtain ⟨us, r1, p1, _⟩ := I.tuple ha
      obtain ⟨ws, r2, p2, _⟩ := I.tuple hb
      have sz : us.toArray.size = ws.toArray.size := by rw [List.size_toArray, List.size_toArray, ← r1.length, ← r2.length]; exact Paired.length hp
      have k := SeqAt.RcAt.tuples (e := fun _ => true) p1 p2 (A := A) (by omega) (fun j h1 h2 => by have q := items_at ih hp r1 r2 j (by simpa using h1) (by simpa using h2); simpa using q)
      rw [show ((List.range (min us.toArray.size ws.toArray.size)).all fun _ => true) = true from List.all_eq_true.mpr fun _ _ => rfl, sz] at k
      simpa using k
    · obtain ⟨us, r1, p1, _⟩ := I.list ha
      obtain ⟨ws, r2, p2, _⟩ := I.list hb
      have sz : us.toArray.size = ws.toArray.size := by rw [List.size_toArray, List.size_toArray, ← r1.length, ← r2.length]; exact Paired.length hp
      have k := SeqAt.RcAt.lists (e := fun _ => true) p1.isList p2.isList (A := A) sz (by omega) (fun j h1 h2 => by have q := items_at ih hp r1 r2 j (by simpa using h1) (by simpa using h2); simpa using q)
      rw [show ((List.range us.toArray.size).all fun _ => true) = true from List.all_eq_true.mpr fun _ _ => rfl] at k
      exact k
    · obtain ⟨_, ya, va, ra, da⟩ := (show ObjOk X.prog X.w H s.heap a (.dK ks) from I.hok a _ ha)
      obtain ⟨_, yb, vb, rb, db⟩ := (show ObjOk X.prog X.w H s.heap b (.dK ls) from I.hok b _ hb)
      intro p' w' E Q q
      have e2 : va.length = vb.length := by rw [← ra.length, ← rb.length]; exact hl
      refine PySem.W.keq_eq (knd := mixKind p' w') (r := true) ya yb (dictOf_any da (kv_int ra i1)) (dictOf_any db (kv_int rb i2)) (by omega) (fun _ => hits_at ih rb ra hp) ?_
      rw [show (va.length == vb.length && true) = true from by rw [e2]; simp]
      exact q
end
section
variable {X : Cx}
/-- two lists that are equal -/
def rNeX (K : PySem.W.Frag) : R2 := fun x y H Q => ∃ a b xs ys, x = .ref a ∧ y = .ref b ∧ SqL K H a xs ∧ SqL K H b ys ∧ Paired (EqX K H 20) xs ys ∧ Q (.bl false) H
theorem op_neX (hu : X.A.units + 64 < cLine) : OpR X (compareOp .NotEq) (rNeX X.K) := by
  intro pins s σ H x y v u Q I rx ry h
  obtain ⟨a, b, xs, ys, rfl, rfl, ha, hb, hp, q⟩ := h
  cases (show v = Value.ref a from rx)
  cases (show u = Value.ref b from ry)
  obtain ⟨us, r1, p1, _⟩ := I.list ha
  obtain ⟨ws, r2, p2, _⟩ := I.list hb
  have sz : us.toArray.size = ws.toArray.size := by rw [List.size_toArray, List.size_toArray, ← r1.length, ← r2.length]; exact Paired.length hp
  have ih := eqX_run I 20 X.A.in1 (by show X.A.units + 1 + 20 < cLine; omega)
  have k := SeqAt.RcNeAt.lists (e := fun _ => true) p1.isList p2.isList (A := X.A) sz (by omega) (fun j h1 h2 => by have q := items_at ih hp r1 r2 j (by simpa using h1) (by simpa using h2); simpa using q)
  rw [show ((List.range us.toArray.size).all fun _ => true) = true from List.all_eq_true.mpr fun _ _ => rfl] at k
  exact k X.prog X.w _ _ ⟨.bl false, H, I, rfl, q⟩
def rEqX (K : PySem.W.Frag) : R2 := fun x y H Q => ∃ a b xs ys, x = .ref a ∧ y = .ref b ∧ SqL K H a xs ∧ SqL K H b ys ∧ Paired (EqX K H 20) xs ys ∧ Q (.bl true) H
theorem op_eqX (hu : X.A.units + 64 < cLine) : OpR X (compareOp .Eq) (rEqX X.K) := by
  intro pins s σ H x y v u Q I rx ry h
  obtain ⟨a, b, xs, ys, rfl, rfl, ha, hb, hp, q⟩ := h
  cases (show v = Value.ref a from rx)
  cases (show u = Value.ref b from ry)
  obtain ⟨us, r1, p1, _⟩ := I.list ha
  obtain ⟨ws, r2, p2, _⟩ := I.list hb
  have sz : us.toArray.size = ws.toArray.size := by rw [List.size_toArray, List.size_toArray, ← r1.length, ← r2.length]; exact Paired.length hp
  have ih := eqX_run I 20 X.A.in1 (by show X.A.units + 1 + 20 < cLine; omega)
  have k := SeqAt.RcAt.lists (e := fun _ => true) p1.isList p2.isList (A := X.A) sz (by omega) (fun j h1 h2 => by have q := items_at ih hp r1 r2 j (by simpa using h1) (by simpa using h2); simpa using q)
  rw [show ((List.range us.toArray.size).all fun _ => true) = true from List.all_eq_true.mpr fun _ _ => rfl] at k
  exact k X.prog X.w _ _ ⟨.bl true, H, I, rfl, q⟩
end
theorem oNeX {K : PySem.W.Frag} {X : Cx} (hu : X.A.units + 64 < cLine) (e : X.K = K := by rfl) : OpR X (compareOp .NotEq) (rNeX K) := by cases e; exact op_neX hu
theorem oEqX {K : PySem.W.Frag} {X : Cx} (hu : X.A.units + 64 < cLine) (e : X.K = K := by rfl) : OpR X (compareOp .Eq) (rEqX K) := by cases e; exact op_eqX hu
end Vw

set_option Elab.async false
set_option linter.all false
set_option maxRecDepth 100000
set_option maxHeartbeats 4000000
namespace Vw
open PySem PySem.Spec PyProof.Rows L2 RT
/-! ### a list so many times -/
def rTimesL : R2 := fun x y H Q => ∃ (a : Addr) (n : Nat) (xs : List V), x = .ref a ∧ y = .int n ∧ H a = some (.lst xs) ∧ n * xs.length ≤ 10000 ∧ n ≤ 10000 ∧ ∀ p, H p = none → Q (.ref p) (upd H p (.lst (List.replicate n xs).flatten))
theorem op_timesL {X : Cx} : OpR X (binaryOp .Mult) rTimesL := by
  intro pins st σ H x y v u Q I rx ry ⟨a, n, xs, ex, ey, hL, hn, hn2, q⟩
  subst ex
  cases rx
  obtain ⟨j, ej⟩ : ∃ j : Int, j = (n : Nat) := ⟨_, rfl⟩
  rw [← ej] at ey
  subst ey
  obtain ⟨tk, rfl⟩ := ry
  have jn : j.toNat = n := by omega
  obtain ⟨z, its, m, r, hl, ho⟩ := I.lstM hL
  have ln : its.length = xs.length := r.length.symm
  have fl : (List.foldl (fun x1 x2 => x1 ++ x2) #[] (List.replicate (if its.toArray.isEmpty = true then 0 else j.toNat) its.toArray)) = (List.replicate n its).flatten.toArray := by
    rw [jn]
    cases its with
    | nil => simp
    | cons b bs =>
      rw [if_neg (by simp)]
      exact size_rep (b :: bs) n
  have big : (10000 : Nat) ≤ sizeLine := by decide
  have lenF : (List.replicate n xs).flatten.length ≤ sizeLine := by rw [lm_len_rep_flat]; omega
  have fin : EP X pins σ Q (.ref st.heap.objs.size) { st with heap := st.heap.push { cls := Value.type "list", data := Data.seq (List.replicate n its).flatten.toArray } } :=
    ⟨.ref st.heap.objs.size, _, I.laid (t' := st.toks) (o := .lst (List.replicate n xs).flatten) (fun _ _ g => Heap.get?_push_of_some _ g) (Nat.le_refl _) ⟨lenF, _, 0, r.rep n, Heap.get?_push_size _ rfl⟩, rfl, q _ (I.hok.fresh (Nat.le_refl _))⟩
  have sz2 : its.toArray.size * j.toNat ≤ 10000 := by rw [List.size_toArray, ln, jn, Nat.mul_comm]; exact hn
  have c0 : ¬ (!Builtin.List.listFitsIndex j) = true := by
    have : Builtin.List.listFitsIndex j = true := by
      unfold Builtin.List.listFitsIndex
      rw [Bool.and_eq_true]
      exact ⟨decide_eq_true (by omega), decide_eq_true (by omega)⟩
    rw [this]; decide
  have c2 : ¬ Builtin.List.listTooLong (its.toArray.size * j.toNat) = true := by
    intro h
    have h := of_decide_eq_true h
    omega
  have road := lm_list_mul_any a its.toArray m none #[] j tk c0 (by omega) c2
  rw [fl] at road
  exact wpAny_binaryOp_repeat_ref (T := "list") (U := "int") (by decide) ⟨_, ho, rfl⟩ (fun s' => typeIs_int s' j tk) noFill_list_mul F.fills_int_mul F.slot_int_rmul repeat_list F.slot_int_index.lookup
    (call_meets F.slot_int_rmul (typeIs_int st j tk) F.entry_int_rmul (F.args_int_rmul_2 _ _) (lm_int_rmul_list_any j tk a its.toArray m none #[]) ⟨ho, rfl, ⟨_, ho, rfl⟩,
      call_meets F.slot_list_mul ⟨_, ho, rfl⟩ F.entry_list_mul (F.args_list_mul_2 _ _) road ⟨ho, fin⟩⟩)
theorem oTimesL {X : Cx} : OpR X (binaryOp .Mult) rTimesL := op_timesL
/-! ### a handler that catches what is let out, whatever stands behind it -/
def wTell (K : PySem.W.Frag) (i : Nat) (c : Value) (u : Addr → Value → Option Addr → TS) (D : Ends) : WX := fun k d σ H => PySem.W.exmOne K k c = some true ∧ ∀ x, H x = none → u x k d (offI i D) (σ.set i (some (.ref x))) H
section
variable {X : Cx} {n x0 : Str} {i : Nat} {body bs : List Stmt} {b : Stmt} {c : Value} {u : Addr → Value → Option Addr → TS} {p1 p2 pos : Pos} {hds : List ExceptHandler} {tb : WX → TS}
theorem ps_tell1 (st : X.stack = X.env :: X.outer) (fr : X.env.frame = some X.env.locals) (nd : X.N.Nodup) (at_ : X.N[i]? = some n) (lo : X.env.kindOf n = some .local)
    (bo : ∀ (W : WX) (pn : List (Addr × Obj)) (xe : Value → Shared → Prop), Takes (X.tr pn xe) W → PassesOwn (model X.prog X.w) X.A X.env xe → PSs (X.tr pn xe) body (tb W))
    (hc : Names X x0 c) (hu : ∀ (x : Addr) (o : Obj) (k : Value) (d : Option Addr) (pn : List (Addr × Obj)), Zc k d o → (∃ vs, o.data = .fields vs) → PSs (X.suite x ((x, o) :: pn)) (b :: bs) (u x k d)) :
    PS X (.Try body (.ExceptHandler (some (.Name x0 p1)) (some n) (b :: bs) p2 :: hds) [] [] pos) (fun D σ H => tb (wTell X.K i c u D) D σ H) := by
  refine ⟨fun pins s σ H D I q0 => ?_⟩
  have kk := I.ok
  have frs2 : X.A.frames = some (X.env :: X.outer) := by rw [kk.frames, st]
  have hl2 : Loc X.env.scope n := .inl lo
  refine wpAny_Try_except ?_
  refine wpAny_mono ((bo (wTell X.K i c u D) (X.pn ++ pins) (fun e sa => wpAny (model X.prog X.w) X.A (noteFrame e X.env) (fun _ sb => wpAny (model X.prog X.w) X.A (setFlight e none) (fun _ sc =>
    wpAny (model X.prog X.w) X.A (handleBy e X.env (.ExceptHandler (some (.Name x0 p1)) (some n) (b :: bs) p2 :: hds)) (SP X pins D) X.xe sc) X.xe sb) X.xe sa) (fun u2 s' xx => ?_) PassesOwn.looking).run [] s σ H D (I.toTry _) q0) (fun f s1 hsp => ?_) (fun e s1 z => z)
  · obtain ⟨x, B, sI, _, σ2, H2, k, d, rfl, Ja, nb, up, sky, nx2, os, ag, w⟩ := xx
    have Jb : Inv X pins σ2 H2 sI := Ja.ofTry kk
    have sk2 : Sky B (X.env :: X.outer) x (Zc k d) X.env.locals s'.heap := by rw [← st]; exact sky
    show wpAny (model X.prog X.w) X.A (noteFrame (.ref x) X.env) _ _ _
    refine Sky.land Zc.steady frs2 fr sk2 fun ha fa ua => ?_
    have Jc : Inv X pins σ2 H2 { s' with heap := ha } := Jb.landed nb fa.1 (up.trans ua) os ag
    obtain ⟨oa, va, ea, za, da⟩ := fa.there
    have nfa : x ∉ frs (X.env :: X.outer) := fun m => by
      obtain ⟨_, o2, e2, nf⟩ := fa.2.2.1.mem m
      rw [ea] at e2
      cases e2
      exact nf _ da
    have nla : x ≠ X.env.locals := fun z => nfa (List.mem_filterMap.mpr ⟨X.env, List.mem_cons_self, by rw [fr, z]⟩)
    have nfs : x ∉ X.fs := fun m => by
      obtain ⟨e, me, q⟩ := List.mem_filterMap.mp m
      exact nfa (List.mem_filterMap.mpr ⟨e, List.mem_cons_of_mem _ me, q⟩)
    have Sa := Jc.suite ea da nx2 nla nfs
    obtain ⟨e1, yes⟩ := w
    refine wpAny_handleBy_cons (codeAny_handlers_test ?_) (by intro q; cases q)
    have LA : PySem.W.Looks (model X.prog X.w) ha (typeOf (.ref x)) k := fun A Q E s k2 q => wpAny_typeOf_ref (k2 _ _ ea) (by rw [za.1]; exact q)
    have LB := PySem.W.exm_one (M := model X.prog X.w) Jc.kIn LA e1
    have tst : ∀ {Q E : Value → Shared → Prop}, Q c { s' with heap := ha } → wpAny (model X.prog X.w) (X.A.mark (some (.ref x))) (eval (.Name x0 p1) X.env) Q E { s' with heap := ha } := fun {Q E} q => by
      obtain ⟨g1, g2, g3 | ⟨g3, g4, g5⟩⟩ := hc
      · exact ld_glob (X := X.suite x ((x, oa) :: (X.pn ++ pins))) Sa g1 g3 q g2
      · exact ld_blt (X := X.suite x ((x, oa) :: (X.pn ++ pins))) Sa g1 g3 g4 q g5 g2
    refine tst (LB.here ?_)
    refine codeAny_handlers_suite_as ?_
    refine HandSPX.lands_againZ fa fun hb fb ub => ?_
    have Jd : Inv X pins σ2 H2 { s' with heap := hb } := Jb.landed nb fb.1 ((up.trans ua).trans ub) os ag
    obtain ⟨ob, vb, eb, zb, db⟩ := fb.there
    have Sb := Jd.suite eb db nx2 nla nfs
    refine store_ok (X := X.suite x ((x, ob) :: (X.pn ++ pins))) (v := .ref x) Sb nd at_ hl2 rfl (fun s5 Sc => ?_) (.inr lo)
    refine wpAny_mono ((hu x ob k d (X.pn ++ pins) zb ⟨_, db⟩).run [] s5 _ H2 _ Sc (yes x nx2)) (fun f s6 hs6 => ?_) (fun _ _ z => z.elim)
    have fin : ∀ {σ6 : L2.St} {H6 : Hp} {Q : Shared → Prop}, Inv (X.suite x ((x, ob) :: (X.pn ++ pins))) [] σ6 H6 s6 → (∀ s7, Inv X pins (σ6.set i none) H6 s7 → Q s7) →
        wpAny (model X.prog X.w) X.A (do bindName X.env n .none; unbindBehindTheSuite X.env n p2) (fun _ s7 => Q s7) X.xe s6 := fun {σ6 H6 Q} Sd hq => gone_ok (Sd.unsuite kk) nd at_ lo hq
    cases f with
    | next =>
      obtain ⟨_, _, Sd, q6⟩ := hs6
      exact fin Sd fun s7 Je => ⟨_, _, Je, q6⟩
    | brk =>
      obtain ⟨_, _, Sd, q6⟩ := hs6
      exact fin Sd fun s7 Je => ⟨_, _, Je, q6⟩
    | cont =>
      obtain ⟨_, _, Sd, q6⟩ := hs6
      exact fin Sd fun s7 Je => ⟨_, _, Je, q6⟩
    | ret u6 =>
      obtain ⟨_, _, _, Sd, r6, q6⟩ := hs6
      exact fin Sd fun s7 Je => ⟨_, _, _, Je, r6, q6⟩
  · cases f with
    | next =>
      obtain ⟨_, _, Je, q⟩ := hsp
      exact wpAny_execs_nil ⟨_, _, Je.ofTry kk, q⟩
    | brk =>
      obtain ⟨_, _, Je, q⟩ := hsp
      exact ⟨_, _, Je.ofTry kk, q⟩
    | cont =>
      obtain ⟨_, _, Je, q⟩ := hsp
      exact ⟨_, _, Je.ofTry kk, q⟩
    | ret u6 =>
      obtain ⟨_, _, _, Je, r, q⟩ := hsp
      exact ⟨_, _, _, Je.ofTry kk, r, q⟩
end
end Vw

set_option Elab.async false
set_option linter.all false
set_option maxRecDepth 100000
set_option maxHeartbeats 4000000
namespace Vw
open PySem PySem.Spec PyProof.Rows L2 RT
/-! ### defs that are called where no text of an object is being made -/
structure FnG (P : Program) (w : World) (K : PySem.W.Frag) (mg : Str → Option Value) (base : Heap) (CX : CXT) (k : Nat) (f : Addr) (fd : FuncData) (ps : List Str) (sp : Sp) : Prop where
  len : ∀ vs H Q E, sp vs H Q E → vs.length = ps.length
  run : ∀ (A : Around) (outer : List Env) (s : Shared) (H : Hp) (args : Args) (us : List Value) (vs : List V) (Q : VK) (E : XK), A.guards = some [] → Room k A → Env0 P w K mg base A outer s H → BindsTo s fd args (ps.zip us) → Vals vs us → sp vs H Q E →
    codeAny (model P w) A (.call (.ref f) args) (CR CX outer P w H s Q E) s
theorem FnG.of {P : Program} {w : World} {K : PySem.W.Frag} {mg : Str → Option Value} {base : Heap} {CX : CXT} {k : Nat} {f : Addr} {fd : FuncData} {ps : List Str} {sp : Sp} (F : FnOk P w K mg base CX k f fd ps sp) : FnG P w K mg base CX k f fd ps sp :=
  ⟨F.len, fun A outer s H args us vs Q E _ => F.run A outer s H args us vs Q E⟩
section
variable {X : Cx} {CX : CXT} {k : Nat} {f : Addr} {fd : FuncData} {ps : List Str} {sp : Sp} {dvs : List V} {ds : List Value} {E : XK} {x : Str} {p pos : Pos} {e : Expr} {es : List Expr} {t : TA}
theorem run_fnG {pins : List (Addr × Obj)} {σ : L2.St} {H : Hp} {s : Shared} {Q : VK} {us : List Value} {vs : List V} (gd : X.A.guards = some []) (F : FnG X.prog X.w X.K X.mg X.base CX k f fd ps sp) (rm : Room k X.A) (bd : Binds X.K fd ps ds) (dv : Vals dvs ds) (ps1 : Passes CX X E)
    (J : Inv X pins σ H s) (rv : Vals vs us) (hs : sp (vs ++ dvs) H Q E) : wpAny (model X.prog X.w) X.A (call (.ref f) us) (EP X pins σ Q) X.xe s := by
  have all : Vals (vs ++ dvs) (us ++ ds) := rv.append dv
  have n : (us ++ ds).length = ps.length := all.length.symm.trans (F.len _ _ _ _ hs)
  refine wpAny_call (codeAny_mono (F.run X.A X.stack s H ⟨us, []⟩ _ _ Q E gd rm J.env0 (bd s us J.kIn n) all hs) ?_)
  intro res s2 z
  cases res with
  | error e => exact ps1 pins σ H s e s2 J z
  | ok fl =>
    cases fl with
    | ret u => exact J.after z
    | next => exact (show False from z).elim
    | brk => exact (show False from z).elim
    | cont => exact (show False from z).elim
theorem pe_callG (gd : X.A.guards = some []) (F : FnG X.prog X.w X.K X.mg X.base CX k f fd ps sp) (rm : Room k X.A) (gl : Gl X x) (at_ : X.mg x = some (.ref f)) (kp : PySem.W.keepIn X.K (.ref f) = true) (bd : Binds X.K fd ps ds) (dv : Vals dvs ds) (px : Passes CX X E)
    (pa : PA X (e :: es) t) (nd : (x == ("__debug__" : Str)) = false := by decide) (st1 : starEach (e :: es) X.env = (false, eval e X.env) :: starEach es X.env := by rfl) (st2 : (backTo pos (starEach es X.env)).any (·.1) = false := by rfl) :
    PE X (.Call (.Name x p) (e :: es) [] pos) (tCall sp dvs E t) :=
  ⟨fun pins s σ H Q J z => wpAny_Call_Name_kw (ld_glob J gl at_ (PySem.W.callWith_K (h₀ := X.base) J.ok.mod.kin kp (thn (pa.run pos pins s σ H _ J z) fun _ _ ⟨_, _, J1, r1, z1⟩ => ⟨J1.kIn, run_fnG gd F rm bd dv px J1 r1 z1⟩) st1 st2) nd)⟩
end
section
variable {P : Program} {w : World} {K : PySem.W.Frag} {mg : Str → Option Value} {base : Heap}
theorem fnG_of {CX : CXT} {k : Nat} {f : Addr} {nm ql : Str} {pr : Arguments} {bd : List Stmt} {sc : Scope} {dV kV dc pm cv ct oc : Value} {an od : Option Addr} {osl : Array (Option Value)} {N ps : List Str} {sp : Sp}
    (lk : K.lookup f = some ⟨oc, od, .func (PySem.W.fnOf nm ql pr bd sc dV kV dc pm an cv ct), osl⟩) (cd : PySem.W.codeIn K cv ql = true) (S : FnScope N ps sc) (len : ∀ vs H Q E, sp vs H Q E → vs.length = ps.length)
    (body : ∀ (A : Around) (outer : List Env) (s : Shared) (H : Hp) (vs : List V) (Q : VK) (E : XK), A.guards = some [] → Room k (A.deeper (envOfC ql sc s.heap.objs.size f cv)) → sp vs H Q E →
      ∃ t, PSs (cxOf CX P w K mg base N ql sc f cv A outer s H E) bd t ∧ t { nx := fun _ H' => Q .non H', rt := Q } (start N vs) H) : FnG P w K mg base CX (k + 1) f (PySem.W.fnOf nm ql pr bd sc dV kV dc pm an cv ct) ps sp := by
  refine ⟨len, fun A outer s H args us vs Q E gd rm e0 bt rv hs => ?_⟩
  have keepK : K.In s.heap := e0.mod.kin.keeps fun b o z => (e0.bs b o z).1
  have limK : s.heap.NoLimit := e0.mod.nolimit.keeps fun b o z => (e0.bs b o z).1
  have par : ∀ y ∈ ps.zip us, sc.names.lookup y.1 = some .local ∨ (sc.names.lookup y.1 = some .cell ∧ ((cellsFrom (s.heap.objs.size + 1) sc.names []).lookup y.1).isSome = true) := by
    rintro ⟨n, v⟩ hy
    exact (S.par n (List.of_mem_zip hy).1).imp id fun q => ⟨q, PySem.W.cellsFrom_some _ _ _ (.inl q)⟩
  refine codeAny_call_function rm.depth (keepK _ _ lk) rfl S.co S.gen rfl (PySem.W.codeRec_of keepK cd) (bt _ _ _ _ (wpAny_newFunctionEnv_cells S.kind par fun env he s1 x => ?_))
  subst he
  refine ⟨limK.keeps x.toInCall.keep, codeAny_func ?_⟩
  obtain ⟨t, pt, z⟩ := body A outer s H vs Q E gd (rm.deeper _) hs
  have J : Inv (cxOf CX P w K mg base N ql sc f cv A outer s H E) [] (start N vs) H s1 := inv_start S rm.hd e0 (len _ _ _ _ hs) rv x
  refine wpAny_mono (pt.run [] s1 (start N vs) H _ J z) (fun fl s2 q => ?_) fun _ _ q => q
  cases fl with
  | ret u =>
    obtain ⟨v, σ2, H2, J2, r2, q2⟩ := q
    exact ⟨v, H2, J2.os, J2.bare, J2.base, J2.hok, r2, q2⟩
  | next =>
    obtain ⟨σ2, H2, J2, q2⟩ := q
    exact ⟨V.non, H2, J2.os, J2.bare, J2.base, J2.hok, rfl, q2⟩
  | brk => exact (show False from let ⟨_, _, _, z⟩ := q; z).elim
  | cont => exact (show False from let ⟨_, _, _, z⟩ := q; z).elim
theorem _root_.L2.Fun.okG {x qual : Str} {st : Stmt} {f : Addr} {fd : FuncData} {N ps : List Str} {k : Nat} {sp : Sp} (F : Fun K x qual st f fd) (S : FnScope N ps (defScope st)) (len : ∀ vs H Q E, sp vs H Q E → vs.length = ps.length)
    (body : ∀ (cdv : Value) (A : Around) (outer : List Env) (s : Shared) (H : Hp) (vs : List V) (Q : VK) (E : XK), A.guards = some [] → Room k (A.deeper (envOfC qual (defScope st) s.heap.objs.size f cdv)) → sp vs H Q E →
      ∃ t, PSs (cxOf CX0 P w K mg base N qual (defScope st) f cdv A outer s H E).nox (defBody st) t ∧ t { nx := fun _ H' => Q .non H', rt := Q } (start N vs) H) : FnG P w K mg base CX0 (k + 1) f fd ps sp := by
  obtain ⟨_, _, _, _, _, _, cdv, _, _, rfl, lk, cd⟩ := F.ex
  exact fnG_of lk cd S len fun A outer s H vs Q E gd rm hs => let ⟨t, pt, z⟩ := body cdv A outer s H vs Q E gd rm hs; ⟨t, pt.nox, z⟩
theorem DefAtL.okG {x qual : Str} {st : Stmt} {N ps : List Str} {k : Nat} {sp : Sp} (D : DefAtL K mg x qual st ps) (S : FnScope N ps (defScope st)) (len : ∀ vs H Q E, sp vs H Q E → vs.length = ps.length)
    (body : ∀ (A : Around) (outer : List Env) (s : Shared) (H : Hp) (vs : List V) (Q : VK) (E : XK), A.guards = some [] → Room k (A.deeper (envOfC qual (defScope st) s.heap.objs.size D.f (.ref D.c))) → sp vs H Q E →
      ∃ t, PSs (cxOf CX0 P w K mg base N qual (defScope st) D.f (.ref D.c) A outer s H E).nox (defBody st) t ∧ t { nx := fun _ H' => Q .non H', rt := Q } (start N vs) H) : FnG P w K mg base CX0 (k + 1) D.f D.fd ps sp := by
  obtain ⟨_, _, _, _, _, _, _, _, e, lk, cd⟩ := D.ex
  rw [e] at lk ⊢
  exact fnG_of lk cd S len fun A outer s H vs Q E gd rm hs => let ⟨t, pt, z⟩ := body A outer s H vs Q E gd rm hs; ⟨t, pt.nox, z⟩
end
end Vw

set_option Elab.async false
set_option linter.all false
set_option maxRecDepth 100000
set_option maxHeartbeats 1000000
namespace Vw
open PySem PySem.Spec PyProof.Rows L2 RT
/-! ### the law itself called so -/
/-- the places of the script and of the tables: what may be tracked when the law is called -/
def startH (K : PySem.W.Frag) (ts : List Addr) (a : Addr) (vs : List Value) (ns : List Int) : Hp := fun b =>
  if b ∈ ts then some (.tbl #[]) else if b = a ∧ K.lookup a = none then some (.frz { cls := .type "list", data := .seq vs.toArray } (.lst (ns.map V.int))) else none
theorem law_callG {P : Program} {w : World} {K : PySem.W.Frag} {mg mb : Str → Option Value} {CX : CXT} {k : Nat} {fa a : Addr} {cs : List (Addr × Addr)} {fd : FuncData} {x : Str} {sp : Sp} {s1 : Shared} {vs : List Value} {ns : List Int}
    (kin : K.In s1.heap) (gl : s1.heap.Ns mainGlobals mg) (bl : s1.heap.Ns builtinsNs mb) (boot : ∀ y : Str, y ≠ "__name__" → mb y = bootBuiltins y) (lim : s1.heap.NoLimit) (gn : s1.gens = #[])
    (tb : ∀ p ∈ cs, s1.heap.get? p.2 = some { cls := .none, data := .fields #[] }) (tK : ∀ p ∈ cs, K.lookup p.2 = none) (hd : ∀ p ∈ cs, PySem.W.CodeHd s1.heap p.1 p.2)
    (bm : ∃ (m : Addr) (o : Obj), mg "__builtins__" = some (.ref m) ∧ m ≠ builtinsNs ∧ s1.heap.get? m = some o ∧ o.cls = .type "module" ∧ o.dict = some builtinsNs ∧ o.data = .plain)
    (sc : s1.heap.get? a = some { cls := .type "list", data := .seq vs.toArray }) (iv : IntsAre vs ns) (few : ns.length ≤ sizeLine) (rm : Room k callerA)
    (F : ∀ base : Heap, K.In base → base.Ns mainGlobals mg → (∀ p ∈ cs, LamX.TabB base mg p.1 p.2) → FnG P w K mg base CX k fa fd [x] sp) (bt : ∀ (s : Shared) (u : Value), BindsTo s fd ⟨[u], []⟩ [(x, u)])
    (ask : ∀ H : Hp, (∀ p ∈ cs, H p.2 = some (.tbl #[])) → SqL K H a (ns.map V.int) → sp [.ref a] H (fun v _ => v = .bl true) fun _ _ _ => False)
    (noE : ∀ H e s2, CX [] H s1 (fun _ _ _ => False) e s2 → False) :
    codeAny (model P w) callerA (.call (.ref fa) ⟨[.ref a], []⟩) (fun r s2 => r = .ok (.ret (.bool true)) ∧ OldK s1.heap s2.heap ∧ s2.os = s1.os ∧ AllBare s2.gens) s1 := by
  obtain ⟨ts, ets⟩ : ∃ ts : List Addr, ts = cs.map (·.2) := ⟨_, rfl⟩
  have inT : ∀ p ∈ cs, p.2 ∈ ts := fun p hp => ets ▸ List.mem_map.mpr ⟨p, hp, rfl⟩
  have ofT : ∀ b ∈ ts, ∃ p ∈ cs, p.2 = b := fun b hb => List.mem_map.mp (ets ▸ hb)
  have objT : ∀ b ∈ ts, s1.heap.get? b = some { cls := .none, data := .fields #[] } := fun b hb => let ⟨p, hp, z⟩ := ofT b hb; z ▸ tb p hp
  have aT : a ∉ ts := fun hb => by
    have z := (objT a hb).symm.trans sc
    exact nomatch (show Data.fields #[] = Data.seq vs.toArray 0 from congrArg Obj.data (Option.some.inj z))
  obtain ⟨H, eH⟩ : ∃ H : Hp, H = startH K ts a vs ns := ⟨_, rfl⟩
  have hT : ∀ b ∈ ts, H b = some (.tbl #[]) := fun b hb => by rw [eH]; exact if_pos hb
  have cases_ : ∀ b, (b ∈ ts) ∨ (b = a ∧ K.lookup a = none ∧ H b = some (.frz { cls := .type "list", data := .seq vs.toArray } (.lst (ns.map V.int)))) ∨ (b ∉ ts ∧ H b = none) := fun b => by
    by_cases h1 : b ∈ ts
    · exact .inl h1
    · by_cases h2 : b = a ∧ K.lookup a = none
      · exact .inr (.inl ⟨h2.1, h2.2, by rw [eH]; exact (if_neg h1).trans (if_pos h2)⟩)
      · exact .inr (.inr ⟨h1, by rw [eH]; exact (if_neg h1).trans (if_neg h2)⟩)
  -- what is no list and no table is not tracked
  have off : ∀ {b : Addr} {o : Obj}, s1.heap.get? b = some o → (∀ us n, o.data ≠ .seq us n) → o.data ≠ .fields #[] → H b = none := fun {b o} e n1 n2 => by
    rcases cases_ b with z | ⟨z, _, _⟩ | z
    · rw [objT b z] at e; cases e; exact absurd rfl n2
    · rw [z, sc] at e; cases e; exact absurd rfl (n1 _ _)
    · exact z.2
  have offD : ∀ {b : Addr} {o : Obj} {es : Array DictEntry} {ep : Nat}, s1.heap.get? b = some o → o.data = .dict es ep → H b = none := fun e d => off e (fun _ _ z => nomatch d.symm.trans z) fun z => nomatch d.symm.trans z
  have ns_ : ∀ {b : Addr} {m : Str → Option Value}, s1.heap.Ns b m → (hidT s1.heap H).Ns b m := fun ⟨o, es, ep, e, d, r⟩ => ⟨o, es, ep, hidT_get e (offD e d), d, r⟩
  have kinB : K.In (hidT s1.heap H) := fun b o e => by
    refine hidT_get (kin b o e) ?_
    rcases cases_ b with z | ⟨z, z2, _⟩ | z
    · obtain ⟨p, hp, ep⟩ := ofT b z
      rw [← ep, tK p hp] at e; cases e
    · rw [z, z2] at e; cases e
    · exact z.2
  have tabB : ∀ p ∈ cs, LamX.TabB (hidT s1.heap H) mg p.1 p.2 := fun p hp => by
    refine ⟨?_, ?_, fun z => ?_⟩
    · obtain ⟨o, us, file, tf, flags, tg, inF, text, tt, e1, r1, r2, r3, rr⟩ := hd p hp
      refine ⟨o, us, file, tf, flags, tg, inF, text, tt, hidT_get e1 (off e1 (fun _ _ z => nomatch r2.symm.trans z) fun z => ?_), r1, r2, r3, rr⟩
      obtain rfl : us = #[] := Data.fields.inj (r2.symm.trans z)
      simp at r3
    · obtain ⟨m, o, b1, b2, b3, b4, b5, b6⟩ := bm
      have n1 : m ≠ mainGlobals := fun z => by
        obtain ⟨o2, es, ep, e2, d2, _⟩ := gl
        rw [z, e2] at b3; cases b3
        exact nomatch d2.symm.trans b6
      have n2 : m ≠ p.2 := fun z => by
        rw [z, tb p hp] at b3; cases b3; cases b6
      exact ⟨m, o, b1, b2, n1, n2, hidT_get b3 (off b3 (fun _ _ z => nomatch b6.symm.trans z) fun z => nomatch b6.symm.trans z), b4, b5, b6⟩
    · obtain ⟨o2, es, ep, e2, d2, _⟩ := gl
      rw [z, tb p hp] at e2; cases e2; cases d2
  have sq : SqL K H a (ns.map V.int) := by
    cases q : K.lookup a with
    | none =>
      refine .inl (.inr ⟨{ cls := .type "list", data := .seq vs.toArray }, ?_⟩)
      rw [eH]
      exact (if_neg aT).trans (if_pos ⟨rfl, q⟩)
    | some o =>
      have z := (kin a o q).symm.trans sc
      cases z
      exact .inr ⟨_, vs.toArray, _, q, rfl, rfl, rfl, by rw [List.size_toArray, iv.length]; exact few, by simpa using vals_ints iv⟩
  have hok : HOk P w H s1.heap := fun b u e => by
    rcases cases_ b with z | ⟨z, _, z3⟩ | z
    · rw [hT b z] at e; cases e; exact objT b z
    · rw [z3] at e; cases e
      rw [z]
      exact ⟨sc, by rw [List.length_map]; exact few, vs, _, vals_ints iv, sc⟩
    · rw [z.2] at e; cases e
  have e0 : Env0 P w K mg (hidT s1.heap H) callerA [] s1 H := ⟨rfl, ⟨kinB, ns_ gl, ⟨mb, ns_ bl, boot⟩, let ⟨mc, l1, l2⟩ := lim; ⟨mc, ns_ l1, l2⟩⟩, fun b o e => of_hidT e, Nat.le_of_eq (hidT_size _ _), trivial, fun b hb => (List.not_mem_nil hb).elim, hok, .of_eq gn⟩
  refine codeAny_mono ((F _ kinB (ns_ gl) tabB).run callerA [] s1 H ⟨[.ref a], []⟩ [.ref a] [.ref a] _ _ rfl rm e0 (bt s1 (.ref a)) (.cons rfl .nil) (ask H (fun p hp => hT _ (inT p hp)) sq)) fun r s2 z => ?_
  cases r with
  | error e => exact (noE H e s2 z).elim
  | ok fl =>
    cases fl with
    | next => exact (show False from z).elim
    | brk => exact (show False from z).elim
    | cont => exact (show False from z).elim
    | ret u =>
      obtain ⟨v, H2, os, bare, un, hok2, rv, q⟩ := z
      have q : v = .bl true := q
      subst q
      obtain rfl : u = Value.bool true := rv
      have stay : ∀ b o, b ∉ ts → s1.heap.get? b = some o → s2.heap.get? b = some o := fun b o nb e => by
        rcases cases_ b with z | ⟨_, _, z3⟩ | z
        · exact absurd z nb
        · have f1 := (hok b _ z3).1
          have f2 := (hok2 b _ (un.frzs b _ _ z3)).1
          rw [f1] at e
          rw [f2, ← e]
        · exact un.keep b o e z.2 (fun y => List.not_mem_nil (show b ∈ ([] : List Addr) from y)) (fun y => List.not_mem_nil y)
      have grow : ∀ b ∈ ts, ∃ more : Array Value, s2.heap.get? b = some { cls := .none, data := .fields more } := fun b hb => let ⟨more, z⟩ := un.tbls b #[] (hT b hb); ⟨_, hok2 b _ z⟩
      refine ⟨rfl, ⟨fun b o e => ?_, fun b o e => ?_⟩, os, bare⟩
      · by_cases hb : b ∈ ts
        · obtain ⟨p, hp, ep⟩ := ofT b hb
          obtain ⟨more, hm⟩ := grow b hb
          have e2 := (objT b hb).symm.trans e
          cases e2
          refine .inr (.inl ⟨?_, rfl, #[], more, rfl, by rw [Array.empty_append]; exact hm⟩)
          rw [← ep]
          exact ((hd p hp).tab (tb p hp)).isCodeTable
        · exact .inl (stay b o hb e)
      · by_cases hb : b ∈ ts
        · exact let ⟨more, hm⟩ := grow b hb; ⟨_, hm⟩
        · exact ⟨o, stay b o hb e⟩
def LawAtG (l : PySem.W.OpenLaw) (w : World) (K : PySem.W.Frag) (CX : CXT) (k n : Nat) (x : Str) (mg : Str → Option Value) (fa : Addr) (h : Heap) : Prop :=
  ∃ (fd : FuncData) (cs : List (Addr × Addr)) (sp : Sp), (∀ p ∈ cs, h.get? p.2 = some { cls := .none, data := .fields #[] } ∧ K.lookup p.2 = none ∧ PySem.W.CodeHd h p.1 p.2) ∧ (∀ (s : Shared) (u : Value), BindsTo s fd ⟨[u], []⟩ [(x, u)]) ∧
    (∀ (H : Hp) (a : Addr) (ns : List Int), ns.length ≤ n → (∀ p ∈ cs, H p.2 = some (.tbl #[])) → SqL K H a (ns.map V.int) → sp [.ref a] H (fun v _ => v = .bl true) fun _ _ _ => False) ∧
    ∀ base : Heap, K.In base → base.Ns mainGlobals mg → (∀ p ∈ cs, LamX.TabB base mg p.1 p.2) → FnG l.prog w K mg base CX k fa fd [x] sp
theorem walk_ofG {l : PySem.W.OpenLaw} {n k : Nat} {q : Program} {loose : List Str} {XP : (Str → Option Value) → Heap → Prop} {YP : World → Heap → Prop} {d : DefRec} {K : Params → PySem.W.Frag} {CX : World → CXT} {x : Str}
    (most : l.most = some n) (small : n ≤ sizeLine) (nodf : d.params.defaults = []) (rm : Room k callerA) (says : ∀ (w : World) (h : Heap), YP w h → (K w.params).In h)
    (F : ∀ (w : World) (mg : Str → Option Value) (fa : Addr) (h : Heap), YP w h → (K w.params).In h → h.Ns mainGlobals mg → mg d.name = some (.ref fa) →
      (∀ (y : Str) (e : DefRec) (c P : Addr), (recsOf q).find? (fun e => e.name == y) = some e → PySem.W.tabIn (K w.params) y = some (c, P) → PySem.W.CodeHd h c P ∧ h.get? P = some { cls := .none, data := .fields #[] }) → LawAtG l w (K w.params) (CX w) k n x mg fa h)
    (noE : ∀ (w : World) (H : Hp) (s : Shared) (e : Value) (s2 : Shared), CX w [] H s (fun _ _ _ => False) e s2 → False) : PySem.W.WalkO q loose XP YP l.row.toRowW d [] (fun f vs => PySem.call f vs) :=
  Att.attach_callB most nodf fun w _ s1 mg mb fa _ _ _ _ a vs ns G Y _ _ _ at_ sc iv few _ gn => by
    have kin := says w _ Y
    obtain ⟨fd, cs, sp, T, bt, ask, FF⟩ := F w mg fa _ Y kin G.T.g at_ fun y e c P e1 e2 => PySem.W.tab_of G.T kin e1 e2
    exact law_callG kin G.T.g G.T.b G.T.builtins G.T.nolimit gn (fun p hp => (T p hp).1) (fun p hp => (T p hp).2.1) (fun p hp => (T p hp).2.2) G.T.bmain sc iv (Nat.le_trans few small) rm FF bt (fun H tH sH => ask H a ns few tH sH) fun H e s2 => noE w H s1 e s2
end Vw

set_option Elab.async false
set_option linter.all false
set_option maxRecDepth 100000
set_option maxHeartbeats 4000000
namespace Vw
open PySem PySem.Spec PyProof.Rows L2 RT
/-! ### d.update(e) -/
def rUpd : V → List V → Hp → VK → Prop := fun x vs H Q => ∃ d e kvs more, x = .ref d ∧ vs = [.ref e] ∧ H d = some (.dK kvs) ∧ H e = some (.dK more) ∧ d ≠ e ∧ kvs.length + more.length ≤ 10000 ∧ Q .non (upd H d (.dK (mergeK kvs more)))
theorem mt_upd {X : Cx} : MtR X "dict.update" rUpd := by
  intro pins s σ H x vs v us Q I rx rv h
  obtain ⟨d, e, kvs, more, rfl, rfl, hd, he, hne, hz, q⟩ := h
  cases rx
  obtain ⟨u, rfl, ru⟩ := rv.one
  cases ru
  obtain ⟨z, lo, va, rel, dd⟩ := dk_of I.hok hd
  obtain ⟨z2, lo2, vb, rel2, dd2⟩ := dk_of I.hok he
  have big : (10000 : Nat) ≤ sizeLine := by decide
  have l1 := rel.length
  have l2 := rel2.length
  refine call_meetsIn PySem.F.slot_dict_update dd.typeIs PySem.F.entry_dict_update (PySem.F.args_dict_update_2 _ _) (meets_dict_update (mixKind X.prog X.w) d e hne lo2)
    ⟨va, vb, dd, dd2, by omega, fun h' dd' _ hs => ?_⟩
  have he' : ∃ q, h'.get? d = some q := let ⟨q, _, _, hq, _⟩ := dd'; ⟨q, hq⟩
  have hlen : (mergeK kvs more).length ≤ sizeLine := by
    have := length_mergeK more kvs
    omega
  exact ⟨.non, _, d_write (t' := s.toks) I (by rw [hd]; exact True.intro) hs he' (dk_new hlen lo (KV.merge rel2 rel) dd'), rfl, q⟩
theorem peUpd {X : Cx} {K : PySem.W.Frag} {o ex : Expr} {to te : TE} {apos cpos : Pos} {r : V → List V → Hp → VK → Prop} (h : PE X (.Call (.Attribute o "update" apos) [ex] [] cpos) (tBM X.K "dict" r to (tCons te tNil))) (e : X.K = K := by rfl) :
    PE X (.Call (.Attribute o "update" apos) [ex] [] cpos) (tBM K "dict" r to (tCons te tNil)) := by cases e; exact h
theorem ty_dK {K : PySem.W.Frag} {a : Addr} {H : Hp} {kvs : List (Key × V)} (h : H a = some (.dK kvs)) : tyV K "dict" (.ref a) H := .inr (.inr (.inl ⟨rfl, .inl ⟨kvs, h⟩⟩))
theorem o_upd {H : Hp} {d e : Addr} {kvs more : List (Key × V)} {Q : VK} (hd : H d = some (.dK kvs)) (he : H e = some (.dK more)) (ne : d ≠ e) (l : kvs.length + more.length ≤ 10000) (q : ∀ H2, Oth d H H2 → H2 d = some (.dK (mergeK kvs more)) → Q .non H2) : rUpd (.ref d) [.ref e] H Q :=
  ⟨d, e, kvs, more, rfl, rfl, hd, he, ne, l, q _ (fun b o nb z => by rw [upd_ne nb]; exact z) upd_same⟩
theorem upd_len {kvs more : List (Key × V)} (h : kvs.length + more.length ≤ 10000) : kvs.length + (mergeK [] more).length ≤ 10000 := by
  have := length_mergeK more []
  rw [List.length_nil] at this
  omega
/-! ### {k: v, ..} -/
def DispE (p : Addr) (Q : VK) (ps : List (V × V)) (H2 : Hp) : Prop := H2 p = some (.dK []) ∧ ∃ kvs : List (Key × V), ps = kvs.map (fun kv => (kV kv.1, kv.2)) ∧ kvs.length ≤ 15 ∧ Q (.ref p) (upd H2 p (.dK (mergeK [] kvs)))
theorem e_disp {trs : List (TE × TE)} {σ : L2.St} {H : Hp} {Q : VK} (h : ∀ p H1, H p = none → Same H H1 → H1 p = some (.dK []) → tPairs trs σ H1 (DispE p Q)) : tDisp trs σ H Q := fun p n => h p _ n (Same.new n) upd_same
theorem disp_end {p : Addr} {Q : VK} {ps : List (V × V)} {H2 : Hp} (kvs : List (Key × V)) (h : H2 p = some (.dK [])) (e : ps = kvs.map (fun kv => (kV kv.1, kv.2))) (l : kvs.length ≤ 15) (q : ∀ H3, Oth p H2 H3 → H3 p = some (.dK (mergeK [] kvs)) → Q (.ref p) H3) : DispE p Q ps H2 :=
  ⟨h, kvs, e, l, q _ (fun b o nb z => by rw [upd_ne nb]; exact z) upd_same⟩
/-! ### repr of data without dicts -/
namespace Rp
mutual
def okD : PyData → Bool
  | .none => true
  | .bool _ => true
  | .int i => decide (i.natAbs < 10 ^ 39)
  | .str x => x.cps.all (· < 0x110000)
  | .list xs => okAll xs
  | .tuple xs => okAll xs
  | .dict _ => false
def okAll : List PyData → Bool
  | [] => true
  | x :: xs => okD x && okAll xs
end
theorem okAll_of {xs : List PyData} (h : ∀ x ∈ xs, okD x = true) : okAll xs = true := by
  induction xs with
  | nil => rfl
  | cons x xs ih =>
    show (okD x && okAll xs) = true
    rw [h x (by simp), ih fun y hy => h y (List.mem_cons_of_mem _ hy)]; rfl
theorem log_lt {n : Nat} (h : n < 10 ^ 39) : n.log2 < 1920 := by
  by_cases z : n = 0
  · subst z; decide
  · refine (Nat.log2_lt z).mpr (Nat.lt_of_lt_of_le h ?_)
    decide +kernel
mutual
theorem ok_facts : ∀ d : PyData, okD d = true → d.canLay0 = true ∧ d.showable = true ∧ d.intsShort 40 = true
  | .none, _ => ⟨rfl, by simp only [PyData.showable], rfl⟩
  | .bool _, _ => ⟨rfl, by simp only [PyData.showable], rfl⟩
  | .int i, h => by
    have h : i.natAbs < 10 ^ 39 := of_decide_eq_true h
    refine ⟨rfl, by simp only [PyData.showable, decide_eq_true (log_lt h)], ?_⟩
    show decide ((PyData.shown (.int i)).length ≤ 40) = true
    refine decide_eq_true ?_
    show (Str.ofString (toString i)).length ≤ 40
    rw [PySem.ofString_length]
    exact int_text_length_le10 (k := 39) (by decide) h
  | .str x, h => ⟨h, by simp only [PyData.showable], rfl⟩
  | .list xs, h => by
    obtain ⟨a, b, c⟩ := okAll_facts xs h
    exact ⟨by simpa only [PyData.canLay0] using a, by simpa only [PyData.showable] using b, by simpa only [PyData.intsShort] using c⟩
  | .tuple xs, h => by
    obtain ⟨a, b, c⟩ := okAll_facts xs h
    exact ⟨by simpa only [PyData.canLay0] using a, by simpa only [PyData.showable] using b, by simpa only [PyData.intsShort] using c⟩
  | .dict _, h => nomatch h
theorem okAll_facts : ∀ xs : List PyData, okAll xs = true → PyData.canLayAll0 xs = true ∧ PyData.showableAll xs = true ∧ PyData.intsShortAll 40 xs = true
  | [], _ => ⟨rfl, by simp only [PyData.showableAll], rfl⟩
  | x :: xs, h => by
    have h : (okD x && okAll xs) = true := h
    rw [Bool.and_eq_true] at h
    obtain ⟨a, b, c⟩ := ok_facts x h.1
    obtain ⟨a2, b2, c2⟩ := okAll_facts xs h.2
    exact ⟨by simp only [PyData.canLayAll0, a, a2, Bool.and_self], by simp only [PyData.showableAll, b, b2, Bool.and_self], by simp only [PyData.intsShortAll, c, c2, Bool.and_self]⟩
end
theorem ok_fits {d : PyData} (h : okD d = true) (w : d.weight ≤ 390000) : d.shown.length ≤ sizeLine := by
  obtain ⟨a, b, c⟩ := ok_facts d h
  have := PyData.shown_le 40 (by decide) d (PyData.leavesShort_of_canLay0 40 d a c)
  rw [sizeLine_eq]
  omega
theorem weight_all {m : Nat} : ∀ {xs : List PyData}, (∀ x ∈ xs, x.weight + 1 ≤ m) → PyData.weightAll xs ≤ m * xs.length
  | [], _ => by simp only [PyData.weightAll]; omega
  | x :: xs, h => by
    have h1 := h x (by simp)
    have h2 := weight_all (xs := xs) fun y hy => h y (List.mem_cons_of_mem _ hy)
    simp only [PyData.weightAll, List.length_cons]
    rw [Nat.mul_add, Nat.mul_one]
    omega
theorem weight_int {i : Int} (h : i.natAbs < 10 ^ 39) : (PyData.int i).weight ≤ 130 := by
  show (if i == 0 then 0 else i.natAbs.log2 + 1) ≤ 130
  split
  · omega
  · next z =>
    have z0 : i.natAbs ≠ 0 := by
      intro e
      exact z (by rw [Int.natAbs_eq_zero.mp e]; rfl)
    have : i.natAbs.log2 < 130 := (Nat.log2_lt z0).mpr (Nat.lt_of_lt_of_le h (by decide +kernel))
    omega
end Rp
/-- repr(x) of data -/
def rRepr (K : PySem.W.Frag) : List V → Hp → VK → Prop := fun vs H Q => ∃ a d, vs = [.ref a] ∧ Dp K H (.ref a) d ∧ Rp.okD d = true ∧ d.depth ≤ 20 ∧ d.weight ≤ 390000 ∧ Q (.str d.shown) H
theorem call_reprG {X : Cx} (gd : X.A.guards = some []) (hu : X.A.units + 64 < cLine) : CallR X (.builtin "repr") (rRepr X.K) := by
  intro pins s σ H xs us Q I r h
  obtain ⟨a, d, rfl, hd, ok, dp, hw, q⟩ := h
  obtain rfl := Vals.ref1 r
  obtain ⟨as, rd⟩ := Dp.reads I d (.ref a) (.ref a) hd rfl
  obtain ⟨cl, sh, _⟩ := Rp.ok_facts d ok
  exact repr_of_reads' rd sh (PyData.noDict_hsm (PyData.hasDict_of_canLay d cl)) gd (by omega) (fun _ _ z => z) (fun h' u tk k => ⟨.str d.shown, H, I.kept (t' := tk) k, ⟨u, rfl⟩, q⟩) (Rp.ok_fits ok hw)
theorem cReprG {K : PySem.W.Frag} {X : Cx} (gd : X.A.guards = some []) (hu : X.A.units + 64 < cLine) (e : X.K = K := by rfl) : CallR X (.builtin "repr") (rRepr K) := by cases e; exact call_reprG gd hu
end Vw

set_option Elab.async false
set_option linter.all false
set_option maxRecDepth 100000
set_option maxHeartbeats 1000000
namespace Vw
open PySem PySem.Spec PyProof.Rows L2 RT
/-! ### data, dicts among them -/
def keyD : Key → PyData
  | .inl i => .int i
  | .inr x => .str x
mutual
inductive Dq (K : PySem.W.Frag) (N : Addr → Prop) (H : Hp) : V → PyData → Prop
  | non : Dq K N H .non .none
  | bl (b : Bool) : Dq K N H (.bl b) (.bool b)
  | int (i : Int) : Dq K N H (.int i) (.int i)
  | str (x : Str) : Dq K N H (.str x) (.str x)
  | lst {a : Addr} {xs : List V} {ds : List PyData} : SqL K H a xs → N a → DqAll K N H xs ds → Dq K N H (.ref a) (.list ds)
  | tup {a : Addr} {xs : List V} {ds : List PyData} : SqT K H a xs → DqAll K N H xs ds → Dq K N H (.ref a) (.tuple ds)
  | dct {a : Addr} {kvs : List (Key × V)} {D : List (PyData × PyData)} : H a = some (.dK kvs) → N a → D.map (·.1) = kvs.map (fun p => keyD p.1) → DqAll K N H (kvs.map (·.2)) (D.map (·.2)) → Dq K N H (.ref a) (.dict D)
inductive DqAll (K : PySem.W.Frag) (N : Addr → Prop) (H : Hp) : List V → List PyData → Prop
  | nil : DqAll K N H [] []
  | cons {v : V} {vs : List V} {d : PyData} {ds : List PyData} : Dq K N H v d → DqAll K N H vs ds → DqAll K N H (v :: vs) (d :: ds)
end
section
variable {X : Cx} {pins : List (Addr × Obj)} {σ : L2.St} {H : Hp} {s : Shared} {N : Addr → Prop}
theorem keys_read {P : Program} {w : World} {h : Heap} : ∀ {es : List DictEntry} {kvs : List (Key × V)} {vs : List (Key × Value)}, Pairs (mixKind P w) es vs → KV kvs vs → ReadsAll h (es.map (·.key)) (kvs.map fun p => keyD p.1) [] ∧ Vals (kvs.map (·.2)) (es.map (·.val))
  | _, _, _, .nil, r => by
    cases r
    exact ⟨.nil, .nil⟩
  | e :: es, _, _, .cons h1 h2 p, r => by
    cases r with
    | @cons a b l1 l2 r1 r =>
    obtain ⟨e1, e2⟩ := r1
    obtain ⟨q1, q2⟩ := keys_read p r
    refine ⟨?_, .cons (by show L2.RelV a.2 e.val; rw [h2]; exact e2) q2⟩
    rw [← e1] at h1
    rcases keyIs_shape h1 with ⟨i, t, z1, z2⟩ | ⟨x, t, z1, z2⟩
    · show ReadsAll h (e.key :: _) (keyD a.1 :: _) ([] ++ [])
      rw [z1, z2]
      exact .cons (.int i t) q1
    · show ReadsAll h (e.key :: _) (keyD a.1 :: _) ([] ++ [])
      rw [z1, z2]
      exact .cons (.str x t) q1
/-- the place of the modules' dict is known -/
def SysK (K : PySem.W.Frag) : Prop := ∃ o, K.lookup sysModules = some o ∧ o.cls = .type "dict"
mutual
theorem Dq.reads (I : Inv X pins σ H s) (S : SysK X.K) : ∀ (d : PyData) (v : V) (u : Value), Dq X.K N H v d → RelV v u → ∃ as, Reads s.heap u d as ∧ sysModules ∉ as
  | .none, _, _, h, r => by
    cases h
    cases r
    exact ⟨_, Reads.none, by simp⟩
  | .bool b, _, _, h, r => by
    cases h
    cases r
    exact ⟨_, Reads.bool b, by simp⟩
  | .int i, _, _, h, r => by
    cases h
    obtain ⟨t, rfl⟩ := r
    exact ⟨_, Reads.int i t, by simp⟩
  | .str x, _, _, h, r => by
    cases h
    obtain ⟨t, rfl⟩ := r
    exact ⟨_, Reads.str x t, by simp⟩
  | .list ds, _, _, h, r => by
    cases h with
    | lst hs _ ha =>
      cases r
      obtain ⟨its, rv, ⟨o, n, ho, hc, _, hd⟩, _⟩ := I.list hs
      obtain ⟨as, hr, nm⟩ := Dq.readsAll I S ds _ its ha rv
      refine ⟨_, Reads.list ho hc hd hr, fun m => (List.mem_cons.mp m).elim (fun z => ?_) nm⟩
      obtain ⟨o2, l2, c2⟩ := S
      have := I.kIn _ o2 l2
      rw [z, ho] at this
      cases this
      rw [hc] at c2
      exact absurd c2 (by decide)
  | .tuple ds, _, _, h, r => by
    cases h with
    | tup hs ha =>
      cases r
      obtain ⟨its, rv, ⟨o, ho, hc, n, hd⟩, _⟩ := I.tuple hs
      obtain ⟨as, hr, nm⟩ := Dq.readsAll I S ds _ its ha rv
      exact ⟨_, Reads.tuple ho hc hd hr, nm⟩
  | .dict D, _, _, h, r => by
    cases h with
    | @dct a kvs _ hd _ hk hv =>
      cases r
      obtain ⟨_, ne, vs, kv, o, es, ep, ho, hc, hdt, _, hp, _⟩ := dk_of I.hok hd
      obtain ⟨k1, k2⟩ := keys_read (h := s.heap) hp kv
      obtain ⟨bs, hr, nm⟩ := Dq.readsKv I S D _ _ hv k2
      rw [← hk] at k1
      refine ⟨_, Reads.dict ho hc.1 hdt k1 hr, fun m => ?_⟩
      rcases List.mem_append.mp m with m | m
      · rcases List.mem_cons.mp m with z | z
        · rw [← z] at ne
          simp at ne
        · cases z
      · exact nm m
theorem Dq.readsKv (I : Inv X pins σ H s) (S : SysK X.K) : ∀ (D : List (PyData × PyData)) (vs : List V) (us : List Value), DqAll X.K N H vs (D.map (·.2)) → Vals vs us → ∃ as, ReadsAll s.heap us (D.map (·.2)) as ∧ sysModules ∉ as
  | [], _, _, h, r => by
    cases h
    cases r
    exact ⟨_, ReadsAll.nil, by simp⟩
  | (k, d) :: D, _, _, h, r => by
    cases h with
    | cons h1 h2 =>
      cases r with
      | cons r1 r2 =>
        obtain ⟨as, q1, n1⟩ := Dq.reads I S d _ _ h1 r1
        obtain ⟨bs, q2, n2⟩ := Dq.readsKv I S D _ _ h2 r2
        exact ⟨_, ReadsAll.cons q1 q2, fun m => (List.mem_append.mp m).elim n1 n2⟩
theorem Dq.readsAll (I : Inv X pins σ H s) (S : SysK X.K) : ∀ (ds : List PyData) (vs : List V) (us : List Value), DqAll X.K N H vs ds → Vals vs us → ∃ as, ReadsAll s.heap us ds as ∧ sysModules ∉ as
  | [], _, _, h, r => by
    cases h
    cases r
    exact ⟨_, ReadsAll.nil, by simp⟩
  | d :: ds, _, _, h, r => by
    cases h with
    | cons h1 h2 =>
      cases r with
      | cons r1 r2 =>
        obtain ⟨as, q1, n1⟩ := Dq.reads I S d _ _ h1 r1
        obtain ⟨bs, q2, n2⟩ := Dq.readsAll I S ds _ _ h2 r2
        exact ⟨_, ReadsAll.cons q1 q2, fun m => (List.mem_append.mp m).elim n1 n2⟩
end
end
/-- repr(x) of data, dicts among them -/
def rReprA (K : PySem.W.Frag) : List V → Hp → VK → Prop := fun vs H Q => ∃ x N d, vs = [x] ∧ Dq K N H x d ∧ d.showable = true ∧ d.depth ≤ 40 ∧ d.shown.length ≤ sizeLine ∧ Q (.str d.shown) H
theorem call_reprA {X : Cx} (S : SysK X.K) (gd : X.A.guards = some []) (hu : X.A.units + 64 < cLine) : CallR X (.builtin "repr") (rReprA X.K) := by
  intro pins s σ H xs us Q I r h
  obtain ⟨x, N, d, rfl, hd, sh, dp, sz, q⟩ := h
  obtain ⟨u, rfl, rv⟩ := vals1 r
  have big : ∀ {a : Addr}, u = .ref a → Dq X.K N H x d → wpAny (model X.prog X.w) X.A (call (.builtin "repr") [u]) (EP X pins σ Q) X.xe s := fun {a} e hd => by
    obtain ⟨as, rd, nm⟩ := Dq.reads I S d x u hd rv
    rw [e] at rd ⊢
    exact repr_of_reads' rd sh (fun _ => nm) gd (by omega) (fun _ _ z => z) (fun h' u tk k => ⟨.str d.shown, H, I.kept (t' := tk) k, ⟨u, rfl⟩, q⟩) sz
  cases hd with
  | non =>
    cases rv
    exact P.repr_of_none ⟨.str _, H, I.tok _, ⟨_, rfl⟩, q⟩
  | bl b =>
    cases rv
    exact P.repr_of_bool ⟨.str _, H, I.tok _, ⟨_, rfl⟩, q⟩
  | int i =>
    obtain ⟨t, rfl⟩ := rv
    exact P.repr_of_int (by simpa [PyData.showable] using sh) ⟨.str _, H, I.tok _, ⟨_, rfl⟩, q⟩
  | str z =>
    obtain ⟨t, rfl⟩ := rv
    exact P.repr_of_str ⟨.str _, H, I.tok _, ⟨_, rfl⟩, q⟩ sz
  | lst a c b => cases rv; exact big rfl (.lst a c b)
  | tup a b => cases rv; exact big rfl (.tup a b)
  | dct a z b c => cases rv; exact big rfl (.dct a z b c)
theorem cReprA {K : PySem.W.Frag} {X : Cx} (S : SysK K) (gd : X.A.guards = some []) (hu : X.A.units + 64 < cLine) (e : X.K = K := by rfl) : CallR X (.builtin "repr") (rReprA K) := by cases e; exact call_reprA S gd hu
/-! ### what keeps data -/
section
variable {K : PySem.W.Frag} {N : Addr → Prop} {H H' : Hp}
mutual
theorem Dq.mv (k1 : ∀ a xs, N a → SqL K H a xs → SqL K H' a xs) (k2 : ∀ a xs, SqT K H a xs → SqT K H' a xs) (k3 : ∀ a kvs, N a → H a = some (.dK kvs) → H' a = some (.dK kvs)) : ∀ (d : PyData) (x : V), Dq K N H x d → Dq K N H' x d
  | .none, _, h => by cases h; exact .non
  | .bool _, _, h => by cases h; exact .bl _
  | .int _, _, h => by cases h; exact .int _
  | .str _, _, h => by cases h; exact .str _
  | .list ds, _, h => by
    cases h with
    | lst a n b => exact .lst (k1 _ _ n a) n (Dq.mvAll k1 k2 k3 ds _ b)
  | .tuple ds, _, h => by
    cases h with
    | tup a b => exact .tup (k2 _ _ a) (Dq.mvAll k1 k2 k3 ds _ b)
  | .dict D, _, h => by
    cases h with
    | dct a n b c => exact .dct (k3 _ _ n a) n b (Dq.mvKv k1 k2 k3 D _ c)
theorem Dq.mvKv (k1 : ∀ a xs, N a → SqL K H a xs → SqL K H' a xs) (k2 : ∀ a xs, SqT K H a xs → SqT K H' a xs) (k3 : ∀ a kvs, N a → H a = some (.dK kvs) → H' a = some (.dK kvs)) : ∀ (D : List (PyData × PyData)) (xs : List V), DqAll K N H xs (D.map (·.2)) → DqAll K N H' xs (D.map (·.2))
  | [], _, h => by cases h; exact .nil
  | (_, d) :: D, _, h => by
    cases h with
    | cons a b => exact .cons (Dq.mv k1 k2 k3 d _ a) (Dq.mvKv k1 k2 k3 D _ b)
theorem Dq.mvAll (k1 : ∀ a xs, N a → SqL K H a xs → SqL K H' a xs) (k2 : ∀ a xs, SqT K H a xs → SqT K H' a xs) (k3 : ∀ a kvs, N a → H a = some (.dK kvs) → H' a = some (.dK kvs)) : ∀ (ds : List PyData) (xs : List V), DqAll K N H xs ds → DqAll K N H' xs ds
  | [], _, h => by cases h; exact .nil
  | d :: ds, _, h => by
    cases h with
    | cons a b => exact .cons (Dq.mv k1 k2 k3 d _ a) (Dq.mvAll k1 k2 k3 ds _ b)
end
theorem Dq.same {d : PyData} {x : V} (h : Dq K N H x d) (s : Same H H') : Dq K N H' x d := Dq.mv (fun _ _ _ => sl_ s) (fun _ _ => st_ s) (fun _ _ _ z => s _ _ z) d x h
theorem DqAll.same {ds : List PyData} {xs : List V} (h : DqAll K N H xs ds) (s : Same H H') : DqAll K N H' xs ds := Dq.mvAll (fun _ _ _ => sl_ s) (fun _ _ => st_ s) (fun _ _ _ z => s _ _ z) ds xs h
theorem DqAll.len : ∀ {ds : List PyData} {xs : List V}, DqAll K N H xs ds → xs.length = ds.length
  | [], _, h => by cases h; rfl
  | d :: ds, _, h => by
    cases h with
    | cons a b => rw [List.length_cons, List.length_cons, b.len]
theorem DqAll.get : ∀ {ds : List PyData} {xs : List V} {i : Nat} {x : V}, DqAll K N H xs ds → xs[i]? = some x → ∃ d, ds[i]? = some d ∧ Dq K N H x d
  | [], _, i, x, h, e => by cases h; cases e
  | d :: ds, _, i, x, h, e => by
    cases h with
    | cons a b =>
      cases i with
      | zero => cases e; exact ⟨d, rfl, a⟩
      | succ i => exact b.get e
def tyD : PyData → String
  | .none => "NoneType" | .bool _ => "bool" | .int _ => "int" | .str _ => "str" | .list _ => "list" | .tuple _ => "tuple" | .dict _ => "dict"
theorem dq_ty {d : PyData} {x : V} (h : Dq K N H x d) : TyX K H x (.type (tyD d)) := by
  cases h with
  | non => exact .base .non
  | bl b => exact .base (.bl b)
  | int i => exact .base (.int i)
  | str z => exact .base (.str z)
  | lst a n b => exact tyx_sl a
  | tup a b => exact tyx_st a
  | dct a n b c => exact .base (.dK a)
theorem dq_isi {d : PyData} {x : V} {n : String} {Q : VK} (b : Bool) (h : Dq K N H x d) (e : kitB (tyD d) n = some b) (q : Q (.bl b) H) : rIsi K [x, .ty n] H Q := isi_ (dq_ty h) e q
end
end Vw

set_option Elab.async false
set_option linter.all false
set_option maxRecDepth 100000
set_option maxHeartbeats 1000000
namespace Vw
open PySem PySem.Spec PyProof.Rows L2 RT
/-! ### three lists side by side -/
/-- the lists that lie at three places -/
structure Tri (K : PySem.W.Frag) (H : Hp) (a b c : Addr) (xs ys us : List V) : Prop where
  one : SqL K H a xs
  two : SqL K H b ys
  three : SqL K H c us
theorem Tri.same {K : PySem.W.Frag} {H H' : Hp} {a b c : Addr} {xs ys us : List V} (t : Tri K H a b c xs ys us) (ss : Same H H') : Tri K H' a b c xs ys us := ⟨sl_ ss t.one, sl_ ss t.two, sl_ ss t.three⟩
/-- lists of one length, one from each at a turn -/
def ItTri (K : PySem.W.Frag) (a b c : Addr) : It where
  go := fun n H => ∃ xs ys us, Tri K H a b c xs ys us ∧ n < xs.length ∧ n < ys.length ∧ n < us.length
  yld := fun n H v H' => ∃ T x y u, v = .ref T ∧ H T = none ∧ H' = upd H T (.tup [x, y, u]) ∧ ∀ xs ys us, Tri K H a b c xs ys us → xs[n]? = some x ∧ ys[n]? = some y ∧ us[n]? = some u
  stop := fun n H => ∃ xs ys us, Tri K H a b c xs ys us ∧ xs.length = n ∧ ys.length = n ∧ us.length = n
/-- how the machine's own cells stand at a turn -/
structure TriAt (h : Heap) (z TI TO j k l a b c : Addr) (n : Nat) : Prop where
  zip : IsZip h z TI TO .none
  ins : IsTupOf3 h TI (.ref j) (.ref k) (.ref l)
  out : ∃ p q r, IsTupOf3 h TO p q r
  one : h.IsListIter j a n
  two : h.IsListIter k b n
  three : h.IsListIter l c n
section
variable {P : Program} {w : World} {K : PySem.W.Frag} {z TI TO j k l a b c : Addr}
theorem tri_mem {x : Addr} (h : x ∈ [z, TI, TO, j, k, l]) {p : Addr → Prop} (h1 : p z) (h2 : p TI) (h3 : p TO) (h4 : p j) (h5 : p k) (h6 : p l) : p x := by
  simp only [List.mem_cons, List.mem_nil_iff, or_false] at h
  rcases h with e | e | e | e | e | e <;> (rw [e]; assumption)
theorem TriAt.obj {h : Heap} {n : Nat} (t : TriAt h z TI TO j k l a b c n) {x : Addr} (hx : x ∈ [z, TI, TO, j, k, l]) : ∃ o, h.get? x = some o ∧ ∀ v, o.data ≠ .cell v := by
  have it : ∀ {y d : Addr} {m : Nat}, h.IsListIter y d m → ∃ o, h.get? y = some o ∧ ∀ v, o.data ≠ .cell v := fun q => by
    obtain ⟨o, e, _, d⟩ := q
    exact ⟨o, e, fun v e' => by rw [d] at e'; cases e'⟩
  obtain ⟨p, q, r, to⟩ := t.out
  exact tri_mem (p := fun y => ∃ o, h.get? y = some o ∧ ∀ v, o.data ≠ .cell v) hx ⟨_, t.zip, fun v e => nomatch e⟩ ⟨_, t.ins, fun v e => nomatch e⟩ ⟨_, to, fun v e => nomatch e⟩ (it t.one) (it t.two) (it t.three)
theorem TriAt.keep {h h' : Heap} {n : Nat} (t : TriAt h z TI TO j k l a b c n) (q : ∀ x ∈ [z, TI, TO, j, k, l], ∀ o, h.get? x = some o → h'.get? x = some o) : TriAt h' z TI TO j k l a b c n := by
  obtain ⟨t1, t2, ⟨p, r, s, t3⟩, t4, t5, t6⟩ := t
  exact ⟨q _ (by simp) _ t1, q _ (by simp) _ t2, ⟨p, r, s, q _ (by simp) _ t3⟩, t4.at (q _ (by simp)), t5.at (q _ (by simp)), t6.at (q _ (by simp))⟩
theorem turn_tri {elts : List Expr} {kk : Nat} {tpos : Pos} (S : ZipSep3 z TI TO j k l [j, a] [k, b] [l, c]) (na : a ≠ j) (nb : b ≠ k) (nc : c ≠ l) :
    Turn P w K (.Tuple elts kk tpos) (ItTri K a b c) [z, TI, TO, j, k, l] z (fun n h => TriAt h z TI TO j k l a b c n) where
  mem := by simp
  obj := fun n h t x hx => t.obj hx
  keep := fun n h h' t q => t.keep q
  item := by
    intro X hP hw hK hc n pins s σ H E I hf t hg
    subst hP hw hK
    obtain ⟨xs, ys, us, g, gx, gy, gu⟩ := hg
    obtain ⟨is1, r1, p1, _⟩ := I.list g.one
    obtain ⟨is2, r2, p2, _⟩ := I.list g.two
    obtain ⟨is3, r3, p3, _⟩ := I.list g.three
    have hd : X.A.in1.handled = none := I.ok.hd hc
    obtain ⟨t1, t2, ⟨q1, q2, q3, t3⟩, t4, t5, t6⟩ := id t
    refine wpAny_pyNext_zipD3_item (n1 := is1.toArray.size) (n2 := is2.toArray.size) (n3 := is3.toArray.size) (i := n) S (Draws.list hd j a na is1.toArray) (Draws.list hd k b nb is2.toArray) (Draws.list hd l c nc is3.toArray) t1 t2 t3
      ⟨t4, p1.isList⟩ ⟨t5, p2.isList⟩ ⟨t6, p3.isList⟩ (by have := r1.length; simp; omega) (by have := r2.length; simp; omega) (by have := r3.length; simp; omega) fun x y u h1 tk ex ey eu z1 o1 s1 s2 s3 new sz kp => ?_
    have ex' : is1[n]? = some x := by simpa using ex
    have ey' : is2[n]? = some y := by simpa using ey
    have eu' : is3[n]? = some u := by simpa using eu
    obtain ⟨x0, hx0, rx⟩ := r1.get (List.getElem?_eq_getElem gx)
    obtain ⟨y0, hy0, ry⟩ := r2.get (List.getElem?_eq_getElem gy)
    obtain ⟨u0, hu0, ru⟩ := r3.get (List.getElem?_eq_getElem gu)
    rw [ex'] at hx0; rw [ey'] at hy0; rw [eu'] at hu0
    cases hx0; cases hy0; cases hu0
    refine ⟨_, rfl, wpAny_letOwnedTupleGo_zip (s := { s with heap := h1, toks := tk }) z1 fun h2 z2 sb => ?_⟩
    have up : ∀ d o, d ∉ [z, TI, TO, j, k, l] → s.heap.get? d = some o → h2.get? d = some o := fun d o hn e => by
      simp only [List.mem_cons, List.mem_nil_iff, or_false, not_or] at hn
      exact (sb.2 d hn.1).trans (kp d o hn.1 hn.2.2.1 hn.2.2.2.1 hn.2.2.2.2.1 hn.2.2.2.2.2 e)
    have zlt : z < s.heap.objs.size := Heap.lt_size t1
    have cell : ObjOk X.prog X.w (upd H s.heap.objs.size (.tup [xs[n], ys[n], us[n]])) h2 s.heap.objs.size (.tup [xs[n], ys[n], us[n]]) :=
      ⟨by show 3 ≤ sizeLine; decide, [x, y, u], .cons rx (.cons ry (.cons ru .nil)), ⟨_, (sb.2 _ (Nat.ne_of_gt zlt)).trans new, rfl, _, rfl⟩⟩
    refine ⟨.ref s.heap.objs.size, _, I.turnedNew (t' := tk) (ch := [z, TI, TO, j, k, l]) up hf (Nat.le_refl _) cell, rfl, ⟨_, _, _, _, rfl, I.hok.fresh (Nat.le_refl _), rfl, fun xs' ys' us' g' => ?_⟩, ⟨z2, ?_, ⟨x, y, u, ?_⟩, ?_, ?_, ?_⟩, fun d hdm => ?_⟩
    · rw [I.list_inj g'.one g.one, I.list_inj g'.two g.two, I.list_inj g'.three g.three]
      exact ⟨List.getElem?_eq_getElem gx, List.getElem?_eq_getElem gy, List.getElem?_eq_getElem gu⟩
    · exact (sb.2 _ S.TIz).trans (kp _ _ S.TIz S.TITO S.TIi1 S.TIi2 S.TIi3 t2)
    · exact (sb.2 _ S.TOz).trans o1
    · exact s1.1.at fun o e => (sb.2 _ S.zi1.symm).trans e
    · exact s2.1.at fun o e => (sb.2 _ S.zi2.symm).trans e
    · exact s3.1.at fun o e => (sb.2 _ S.zi3.symm).trans e
    · obtain ⟨o, eo, _⟩ := t.obj hdm
      rw [upd_ne (Nat.ne_of_lt (Heap.lt_size eo))]
      exact (hf d hdm).1
  done := by
    intro X hP hw hK hc n pins s σ H E I hf t hg
    subst hP hw hK
    obtain ⟨xs, ys, us, g, gx, gy, gu⟩ := hg
    obtain ⟨is1, r1, p1, _⟩ := I.list g.one
    obtain ⟨is2, r2, p2, _⟩ := I.list g.two
    obtain ⟨is3, r3, p3, _⟩ := I.list g.three
    have hd : X.A.in1.handled = none := I.ok.hd hc
    obtain ⟨t1, t2, ⟨q1, q2, q3, t3⟩, t4, t5, t6⟩ := t
    refine wpAny_pyNext_zipD3_end (n1 := is1.toArray.size) (n2 := is2.toArray.size) (n3 := is3.toArray.size) (i := n) S (Draws.list hd j a na is1.toArray) (Draws.list hd k b nb is2.toArray) (Draws.list hd l c nc is3.toArray) t1 t2 t3
      ⟨t4, p1.isList⟩ ⟨t5, p2.isList⟩ ⟨t6, p3.isList⟩ (by have := r1.length; simp; omega) (by have := r2.length; simp; omega) (by have := r3.length; simp; omega) (.inl (by have := r1.length; simp; omega)) fun h1 tk kp => ⟨rfl, ?_⟩
    refine I.turnedL (t' := tk) (ch := [z, TI, TO, j, k, l]) (fun d o hn e => ?_) hf
    simp only [List.mem_cons, List.mem_nil_iff, or_false, not_or] at hn
    exact kp d o hn.1 hn.2.2.1 hn.2.2.2.1 hn.2.2.2.2.1 hn.2.2.2.2.2 e
  self := fun A n s Q E t q => wpAny_pyIter_zip t.zip q
end
/-- what three arguments give: the lists at their places -/
def TriQ (K : PySem.W.Frag) (R : It → Hp → Prop) (vs : List V) (H : Hp) : Prop := ∃ a b c xs ys us, vs = [V.ref a, V.ref b, V.ref c] ∧ Tri K H a b c xs ys us ∧ R (ItTri K a b c) H
def iTri (K : PySem.W.Frag) (ta : TA) : TI := fun σ H R => ta σ H (TriQ K R)
theorem piTri {X : Cx} {K : PySem.W.Frag} {e1 e2 e3 : Expr} {ta : TA} {p pos tpos : Pos} {elts : List Expr} {kk : Nat} (hg : Gl X "zip") (hm : X.mg "zip" = none) (ha : PA X [e1, e2, e3] ta) (eK : X.K = K := by rfl)
    (hs : starEach [e1, e2, e3] X.env = (false, eval e1 X.env) :: starEach [e2, e3] X.env := by rfl) (hb : ((backTo pos (starEach [e2, e3] X.env)).any fun x => x.fst) = false := by rfl) :
    PI X (.Tuple elts kk tpos) (.Call (.Name "zip" p) [e1, e2, e3] [] pos) (iTri K ta) := by
  subst eK
  refine ⟨fun pins s σ H R I h => Call_ (ld_blt I hg hm PyProof.Rows.boot_zip (PyProof.Rows.callWith_type1 (thn (ha.run pos pins s σ H _ I h) fun vs' s1 q => ?_) hs hb))⟩
  obtain ⟨vs, H1, I1, rel, a, b, c, xs, ys, us, ev, t, q⟩ := q
  subst ev
  cases rel with
  | cons ra rel =>
    cases rel with
    | cons rb rel =>
      cases rel with
      | cons rc rel =>
        cases rel; cases ra; cases rb; cases rc
        obtain ⟨is1, _, p1, _⟩ := I1.list t.one
        obtain ⟨is2, _, p2, _⟩ := I1.list t.two
        obtain ⟨is3, _, p3, _⟩ := I1.list t.three
        refine zip_begins3 (begins_list a is1.toArray) (begins_list b is2.toArray) (begins_list c is3.toArray) p1.isList p2.isList p3.isList fun h' hz hi ho h1 h2 h3 hsz hk => wpAny_pyIter_zip hz ?_
        have below : ∀ {d : Addr}, d < s1.heap.objs.size → ∀ x ∈ [d], x < s1.heap.objs.size := fun hd x hx => by rw [List.mem_singleton.mp hx]; exact hd
        have ne : ∀ {d : Addr} (m : Nat), d < s1.heap.objs.size → d ≠ s1.heap.objs.size + m := fun m hd e => by
          have e' : (_ : Nat) = s1.heap.objs.size + m := e
          have hd' : (_ : Nat) < s1.heap.objs.size := hd
          omega
        refine ⟨_, _, _, _, H1, rfl, I1.kept (t' := s1.toks) hk, turn_tri (zip_sep3 (below p1.lt) (below p2.lt) (below p3.lt)) (ne 0 p1.lt) (ne 1 p2.lt) (ne 2 p3.lt), ⟨hz, hi, ⟨_, _, _, ho⟩, ⟨_, h1, rfl, rfl⟩, ⟨_, h2, rfl, rfl⟩, ⟨_, h3, rfl, rfl⟩⟩, fun x hx => ?_, q⟩
        have up : ∀ m : Nat, s1.heap.objs.size ≤ s1.heap.objs.size + m := fun m => Nat.le_add_right _ _
        have le : s1.heap.objs.size ≤ x := tri_mem (p := fun x => s1.heap.objs.size ≤ x) hx (up 5) (up 3) (up 4) (up 0) (up 1) (up 2)
        exact I1.fpOk le (I1.hok.fresh le)
theorem i_tri {K : PySem.W.Frag} {R : It → Hp → Prop} {H : Hp} {a b c : Addr} {xs ys us : List V} (t : Tri K H a b c xs ys us) (q : R (ItTri K a b c) H) : TriQ K R [.ref a, .ref b, .ref c] H := ⟨a, b, c, xs, ys, us, rfl, t, q⟩
/-- a new triple of what stands at a turn in each -/
def YTri (xs ys us : List V) : Nat → Hp → V → Hp → Prop := fun n H v H' => ∃ T x y u, v = .ref T ∧ H T = none ∧ H' = upd H T (.tup [x, y, u]) ∧ xs[n]? = some x ∧ ys[n]? = some y ∧ us[n]? = some u
theorem walk_tri {K : PySem.W.Frag} {a b c : Addr} {xs ys us : List V} {n : Nat} (e1 : xs.length = n) (e2 : ys.length = n) (e3 : us.length = n) : Walk (ItTri K a b c) n (fun H => Tri K H a b c xs ys us) (YTri xs ys us) where
  goes := fun i H hi t => ⟨xs, ys, us, t, by omega, by omega, by omega⟩
  stops := fun H t => ⟨xs, ys, us, t, e1, e2, e3⟩
  yields := fun i H v H' _ t ⟨T, x, y, u, ev, hT, eH, g⟩ => ⟨T, x, y, u, ev, hT, eH, g xs ys us t⟩
end Vw

set_option Elab.async false
set_option linter.all false
set_option maxRecDepth 100000
set_option maxHeartbeats 1000000
namespace Vw
open PySem PySem.Spec PyProof.Rows L2 RT
/-! ### isinstance of a caught error, whether it has fields or none -/
section
open PySem.W PySem.Calls
variable {prog : Program} {w : World} {A : Around} {E : Value → Shared → Prop} {K : Frag} {x D : Addr} {ox : Obj} {od : Option Obj}
theorem own_class (C : ExcC K D) : findObj K D od "__class__" = some (.bind (.builtin "getset_descriptor.__get__") (.builtin "object.__class__")) := by
  obtain ⟨cd, ec, _⟩ := any_some C.hd
  unfold findObj
  rw [show (clsIn K D).bind _ = _ from congrArg (Option.bind · _) ec, Option.bind_some, C.ha, Option.bind_some]
  simp only [C.hn, C.ht, Option.bind_some]
theorem err_class {s : Shared} {Q : Option Value → Shared → Prop} (C : ExcC K D) (kin : K.In s.heap) (at_ : InstAt s.heap x ox D od) (q : Q (some (.ref D)) { s with toks := s.toks + 1 }) : wpAny (model prog w) A (getAttr? (.ref x) "__class__") Q E s := by
  obtain ⟨hp, g, d, t, os⟩ := s
  have type_is := at_.type (M := model prog w)
  have finds := looks_find (M := model prog w) kin at_ (own_class (od := od) C)
  have base : Looks (model prog w) hp (isInstance (.ref x) (.type "BaseException")) true := type_is.andThen (looks_subIn kin C.hs)
  have differ : (Value.builtin "BaseException.__getattribute__" == Value.builtin "object.__getattribute__") = false := by decide +kernel
  unfold getAttr? getAttrBy? getAttrBy
  refine wpAny_bind (wpAny_mkText (wpAny_bind (wpAny_attempt (wpAny_holding (wpAny_bind (type_is.at (wpAny_bind ((looks_findIn (M := model prog w) kin C.hg).at ?_))))))))
  dsimp only
  rw [show (onTheHeap (Value.ref D) && Value.builtin "BaseException.__getattribute__" == Value.builtin "object.__getattribute__") = false by rw [differ]; rfl, if_neg Bool.false_ne_true]
  unfold getAttrByItsOwn hookBefore
  rw [if_pos (show onTheHeap (Value.ref D) = true from rfl)]
  refine wpAny_bind ((looks_findIn (M := model prog w) kin C.hk).at (wpAny_bind (wpAny_attempt (wpAny_holding ?_))))
  unfold callGetattribute
  rw [show (false && onTheHeap (Value.builtin "BaseException.__getattribute__")) = false from rfl, if_neg Bool.false_ne_true]
  unfold boundAndCalled
  rw [PySem.F.excAttr_ValueError.ga.bind (.ref x)]
  refine wpAny_bind (wpAny_pure ?_)
  dsimp only
  refine (wpAny_call (codeAny_call_builtin PySem.F.excAttr_ValueError.ga.plain PySem.F.entry_bexc_ga ?_))
  refine @check_slot (model prog w) _ _ ⟨hp, g, d, t + 1, os⟩ _ "BaseException" "__getattribute__" (.ref x) [.str "__class__" t] [] _ (by decide +kernel) (by decide +kernel) base (PySem.F.args_bexc_ga (.ref x) (.str "__class__" t)) ?_
  unfold Builtin.«object.__getattribute__»
  refine wpAny_bind (wpAny_of_eq (a := ((Value.ref x : Value), [Value.str "__class__" t])) (by first | rfl | (simp only [slotArgs]; rfl)) (wpAny_bind (wpAny_pure (wpAny_bind (type_is.at (wpAny_bind (finds.at ?_)))))))
  dsimp only
  refine wpAny_bind (wpAny_holding (wpAny_call (class_get (s := ⟨hp, g, d, t + 1, os⟩) (ox := ox) (od := od) kin at_ C.hm (wpAny_pure ?_))))
  show wpAny _ _ (handedOut (.ref D)) _ _ _
  rw [handedOut_of (v := .ref D) rfl]
  first
    | exact wpAny_pure (wpAny_pure q)
    | exact wpAny_pure q
    | exact wpAny_pure (wpAny_bind (wpAny_pure (wpAny_pure q)))
theorem kit_any (C : ExcC K D) : KitX K (.ref x) (.ref D) (fun h => InstAt h x ox D od) where
  ty := fun _ _ _ at_ => at_.type
  it := fun M h kin _ => by
    obtain ⟨cd, ec, _⟩ := any_some C.hd
    unfold clsIn at ec
    split at ec
    · rename_i c' d' cd' sl' ho
      intro A' Q' E' s' k q
      unfold isType loadHead
      exact wpAny_bind (wpAny_loadPart (k _ _ (kin _ _ ho)) (wpAny_pure q))
    · cases ec
  ne := fun h tp dd its n sl kin htp => by
    refine Bool.eq_false_iff.mpr fun q => ?_
    obtain rfl : D = tp := Value.ref.inj (beq_iff_eq.mp q)
    obtain ⟨cd, ec, _⟩ := any_some C.hd
    unfold clsIn at ec
    split at ec
    · rename_i c' d' cd' sl' ho
      exact absurd ((kin _ _ ho).symm.trans htp) (fun z => nomatch z)
    · cases ec
  ca := fun kin at_ q => err_class C kin at_ q
end
/-- isinstance(e, c), e the caught error, d its dict's place -/
def rIsEA (K : PySem.W.Frag) (D a : Addr) (d : Option Addr) : List V → Hp → VK → Prop := fun xs H Q => ∃ (c : V) (cv : Value) (b : Bool), xs = [.ref a, c] ∧ (∀ u, RelV c u → u = cv) ∧ PySem.W.kitOne K (.ref D) cv = some b ∧ (∀ dd, d = some dd → ∃ fs, H dd = some (.xd fs)) ∧ Q (.bl b) H
theorem call_isEA {X : Cx} {a D : Addr} {d : Option Addr} {oe : Obj} {pn : List (Addr × Obj)} (C : ExcC X.K D) (hz : Zc (.ref D) d oe) (hf : ∃ vs, oe.data = .fields vs) : CallR (X.suite a ((a, oe) :: pn)) (.builtin "isinstance") (rIsEA X.K D a d) := by
  intro pins s σ H xs us Q I rel h
  obtain ⟨c, cv, b, rfl, hcv, e, hd, q⟩ := h
  cases rel with
  | cons rx rel =>
    cases rel with
    | cons rt rel =>
      cases rel; cases rx
      obtain rfl := hcv _ rt
      obtain ⟨hget, _⟩ := I.pin (a, oe) (List.mem_append_left _ List.mem_cons_self)
      obtain ⟨vs, hv⟩ := hf
      have J : ∃ od, PySem.W.InstAt s.heap a oe D od := by
        obtain ⟨z1, z2⟩ := hz
        cases d with
        | none =>
          refine ⟨none, hget, z1, by unfold PySem.W.notCls; rw [hv] <;> rfl, ?_⟩
          rw [z2]; trivial
        | some dd =>
          obtain ⟨fs, ex⟩ := hd dd rfl
          obtain ⟨mA, hns, _⟩ : ObjOk X.prog X.w H s.heap dd (.xd fs) := I.hok dd _ ex
          obtain ⟨od, ho, _⟩ := lookIn_ns hns
          exact ⟨some od, hget, z1, by unfold PySem.W.notCls; rw [hv] <;> rfl, by rw [z2]; exact ho⟩
      obtain ⟨od, J⟩ := J
      exact PySem.W.kia_one (kit_any (od := od) C) I.kIn J e (fun z => nomatch z) fun tk => ⟨.bl b, H, I.kept (t' := tk) fun _ _ z => z, rfl, q⟩
/-- the same, the class learnt from the reading -/
def rIsEK (K : PySem.W.Frag) (D a : Addr) (k : Value) (d : Option Addr) : List V → Hp → VK → Prop := fun xs H Q => k = .ref D ∧ rIsEA K D a d xs H Q
theorem call_isEK {X : Cx} {a D : Addr} {k : Value} {d : Option Addr} {oe : Obj} {pn : List (Addr × Obj)} (C : ExcC X.K D) (hz : Zc k d oe) (hf : ∃ vs, oe.data = .fields vs) : CallR (X.suite a ((a, oe) :: pn)) (.builtin "isinstance") (rIsEK X.K D a k d) := by
  intro pins s σ H xs us Q I rel h
  obtain ⟨rfl, h⟩ := h
  exact call_isEA C hz hf pins s σ H xs us Q I rel h
end Vw

set_option Elab.async false
set_option linter.all false
set_option maxRecDepth 100000
set_option maxHeartbeats 1000000
namespace Vw
open PySem PySem.Spec PyProof.Rows L2 RT
/-! ### what repr shows is a text of good signs -/
theorem sOk_app {a b : Str} (ha : PyData.strOk a = true) (hb : PyData.strOk b = true) : PyData.strOk (a ++ b) = true := by
  show (a.cps ++ b.cps).all _ = true
  rw [Array.all_append]
  have ha : a.cps.all (· < 0x110000) = true := ha
  have hb : b.cps.all (· < 0x110000) = true := hb
  rw [ha, hb]; rfl
theorem sOk_from : ∀ (ts : List Str) (k : Nat) (acc : Str), PyData.strOk acc = true → (∀ t ∈ ts, PyData.strOk t = true) → PyData.strOk (textFrom k acc ts) = true
  | [], _, _, h, _ => h
  | t :: r, k, acc, h, ht => by
    refine sOk_from r (k + 1) _ (sOk_app (sOk_app h ?_) (ht t List.mem_cons_self)) fun u hu => ht u (List.mem_cons_of_mem _ hu)
    split <;> decide +kernel
theorem sOk_join : ∀ (ts : List Str), (∀ t ∈ ts, PyData.strOk t = true) → PyData.strOk (Str.join ", " ts) = true
  | [], _ => by decide +kernel
  | [x], h => h x List.mem_cons_self
  | x :: y :: r, h => by
    have ih := sOk_join (y :: r) fun u hu => h u (List.mem_cons_of_mem _ hu)
    show PyData.strOk (x ++ ", " ++ Str.join ", " (y :: r)) = true
    exact sOk_app (sOk_app (h x List.mem_cons_self) (by decide +kernel)) ih
theorem sOk_int (i : Int) : PyData.strOk (PyData.int i).shown = true := by
  show Array.all _ _ = true
  rw [Array.all_eq_true_iff_forall_mem]
  intro k hk
  by_cases q : k ≠ 45 ∧ (k < 48 ∨ 57 < k)
  · exact absurd (Array.mem_toList_iff.mpr hk) (shown_int_free' q i)
  · exact decide_eq_true (by omega)
mutual
/-- data whose texts show well -/
inductive TxD : PyData → Prop
  | non : TxD .none
  | bl (b : Bool) : TxD (.bool b)
  | int (i : Int) : TxD (.int i)
  | str (x : Str) : PyData.strOk (PyData.str x).shown = true → TxD (.str x)
  | lst (xs : List PyData) : TxA xs → TxD (.list xs)
  | tup (xs : List PyData) : TxA xs → TxD (.tuple xs)
  | dct (D : List (PyData × PyData)) : TxA (D.map (·.1)) → TxA (D.map (·.2)) → TxD (.dict D)
inductive TxA : List PyData → Prop
  | nil : TxA []
  | cons {d : PyData} {ds : List PyData} : TxD d → TxA ds → TxA (d :: ds)
end
mutual
theorem tx_ok : ∀ d : PyData, TxD d → PyData.strOk d.shown = true
  | .none, _ => by decide +kernel
  | .bool b, _ => by cases b <;> decide +kernel
  | .int i, _ => sOk_int i
  | .str x, h => by cases h; assumption
  | .list xs, h => by
    cases h with
    | lst _ h => exact sOk_app (sOk_from _ 0 _ (by decide +kernel) (tx_all xs h)) (by decide +kernel)
  | .tuple xs, h => by
    cases h with
    | tup _ h =>
      refine sOk_app (sOk_app (by decide +kernel) (sOk_join _ (tx_all xs h))) ?_
      split <;> decide +kernel
  | .dict D, h => by
    cases h with
    | dct _ h1 h2 => exact sOk_app (sOk_app (by decide +kernel) (sOk_join _ (tx_kv D h1 h2))) (by decide +kernel)
theorem tx_all : ∀ ds : List PyData, TxA ds → ∀ t ∈ PyData.shownAll ds, PyData.strOk t = true
  | [], _, t, ht => nomatch ht
  | d :: ds, h, t, ht => by
    cases h with
    | cons h1 h2 =>
      rcases List.mem_cons.mp ht with e | e
      · rw [e]; exact tx_ok d h1
      · exact tx_all ds h2 t e
theorem tx_kv : ∀ D : List (PyData × PyData), TxA (D.map (·.1)) → TxA (D.map (·.2)) → ∀ t ∈ PyData.shownKv D, PyData.strOk t = true
  | [], _, _, t, ht => nomatch ht
  | (k, v) :: D, h1, h2, t, ht => by
    cases h1 with
    | cons a1 b1 =>
      cases h2 with
      | cons a2 b2 =>
        rcases List.mem_cons.mp ht with e | e
        · rw [e]; exact sOk_app (sOk_app (tx_ok k a1) (by decide +kernel)) (tx_ok v a2)
        · exact tx_kv D b1 b2 t e
end
/-! ### small data -/
mutual
def smB : PyData → Bool
  | .none => true
  | .bool _ => true
  | .int i => decide (i.natAbs < 10 ^ 41)
  | .str x => PyData.strOk (PyData.str x).shown && x.cps.toList.all fun c => decide (c < 16 ^ 8)
  | .list xs => smA xs
  | .tuple xs => smA xs
  | .dict D => smK D
def smA : List PyData → Bool
  | [] => true
  | d :: ds => smB d && smA ds
def smK : List (PyData × PyData) → Bool
  | [] => true
  | (k, v) :: D => smB k && smB v && smK D
end
theorem log_lt41 {n : Nat} (h : n < 10 ^ 41) : n.log2 < 1920 := by
  by_cases z : n = 0
  · subst z; decide
  · refine (Nat.log2_lt z).mpr (Nat.lt_of_lt_of_le h ?_)
    decide +kernel
mutual
theorem sm_facts : ∀ d : PyData, smB d = true → TxD d ∧ d.showable = true ∧ d.leavesShort 50 = true
  | .none, _ => ⟨.non, by simp only [PyData.showable], rfl⟩
  | .bool b, _ => ⟨.bl b, by simp only [PyData.showable], rfl⟩
  | .int i, h => by
    have h : i.natAbs < 10 ^ 41 := of_decide_eq_true h
    refine ⟨.int i, by simp only [PyData.showable, decide_eq_true (log_lt41 h)], ?_⟩
    show decide ((PyData.shown (.int i)).length ≤ 50) = true
    refine decide_eq_true (Nat.le_trans (m := 42) ?_ (by decide))
    show (Str.ofString (toString i)).length ≤ 42
    rw [PySem.ofString_length]
    exact int_text_length_le10 (k := 41) (by decide) h
  | .str x, h => by
    have h : (PyData.strOk (PyData.str x).shown && x.cps.toList.all fun c => decide (c < 16 ^ 8)) = true := h
    rw [Bool.and_eq_true] at h
    exact ⟨.str x h.1, by simp only [PyData.showable], h.2⟩
  | .list xs, h => by
    obtain ⟨a, b, c⟩ := sm_all xs h
    exact ⟨.lst xs a, by simpa only [PyData.showable] using b, by simpa only [PyData.leavesShort] using c⟩
  | .tuple xs, h => by
    obtain ⟨a, b, c⟩ := sm_all xs h
    exact ⟨.tup xs a, by simpa only [PyData.showable] using b, by simpa only [PyData.leavesShort] using c⟩
  | .dict D, h => by
    obtain ⟨a1, a2, b, c⟩ := sm_kv D h
    exact ⟨.dct D a1 a2, by simpa only [PyData.showable] using b, by simpa only [PyData.leavesShort] using c⟩
theorem sm_all : ∀ ds : List PyData, smA ds = true → TxA ds ∧ PyData.showableAll ds = true ∧ PyData.leavesShortAll 50 ds = true
  | [], _ => ⟨.nil, by simp only [PyData.showableAll], rfl⟩
  | d :: ds, h => by
    have h : (smB d && smA ds) = true := h
    rw [Bool.and_eq_true] at h
    obtain ⟨a, b, c⟩ := sm_facts d h.1
    obtain ⟨a2, b2, c2⟩ := sm_all ds h.2
    exact ⟨.cons a a2, by simp only [PyData.showableAll, b, b2, Bool.and_self], by simp only [PyData.leavesShortAll, c, c2, Bool.and_self]⟩
theorem sm_kv : ∀ D : List (PyData × PyData), smK D = true → TxA (D.map (·.1)) ∧ TxA (D.map (·.2)) ∧ PyData.showableKv D = true ∧ PyData.leavesShortKv 50 D = true
  | [], _ => ⟨.nil, .nil, by simp only [PyData.showableKv], rfl⟩
  | (k, v) :: D, h => by
    have h : ((smB k && smB v) && smK D) = true := h
    rw [Bool.and_eq_true, Bool.and_eq_true] at h
    obtain ⟨a, b, c⟩ := sm_facts k h.1.1
    obtain ⟨a2, b2, c2⟩ := sm_facts v h.1.2
    obtain ⟨a3, a4, b3, c3⟩ := sm_kv D h.2
    exact ⟨.cons a a3, .cons a2 a4, by simp only [PyData.showableKv, b, b2, b3, Bool.and_self], by simp only [PyData.leavesShortKv, c, c2, c3, Bool.and_self]⟩
end
theorem sm_fits {d : PyData} (h : smB d = true) (w : d.weight ≤ 300000) : d.shown.length ≤ sizeLine := by
  have := PyData.shown_le 50 (by decide) d (sm_facts d h).2.2
  have e : sizeLine = 16777216 := by decide +kernel
  rw [e]
  omega
theorem smA_of {ds : List PyData} (h : ∀ d ∈ ds, smB d = true) : smA ds = true := by
  induction ds with
  | nil => rfl
  | cons d ds ih =>
    show (smB d && smA ds) = true
    rw [h d List.mem_cons_self, ih fun y hy => h y (List.mem_cons_of_mem _ hy)]; rfl
/-! ### data over more addresses -/
section
variable {K : PySem.W.Frag} {N N' : Addr → Prop} {H : Hp}
mutual
theorem dq_mono (h : ∀ a, N a → N' a) : ∀ (d : PyData) (x : V), Dq K N H x d → Dq K N' H x d
  | .none, _, q => by cases q; exact .non
  | .bool _, _, q => by cases q; exact .bl _
  | .int _, _, q => by cases q; exact .int _
  | .str _, _, q => by cases q; exact .str _
  | .list ds, _, q => by
    cases q with
    | lst a n b => exact .lst a (h _ n) (dq_monoA h ds _ b)
  | .tuple ds, _, q => by
    cases q with
    | tup a b => exact .tup a (dq_monoA h ds _ b)
  | .dict D, _, q => by
    cases q with
    | dct a n b c => exact .dct a (h _ n) b (dq_monoK h D _ c)
theorem dq_monoK (h : ∀ a, N a → N' a) : ∀ (D : List (PyData × PyData)) (xs : List V), DqAll K N H xs (D.map (·.2)) → DqAll K N' H xs (D.map (·.2))
  | [], _, q => by cases q; exact .nil
  | (_, d) :: D, _, q => by
    cases q with
    | cons a b => exact .cons (dq_mono h d _ a) (dq_monoK h D _ b)
theorem dq_monoA (h : ∀ a, N a → N' a) : ∀ (ds : List PyData) (xs : List V), DqAll K N H xs ds → DqAll K N' H xs ds
  | [], _, q => by cases q; exact .nil
  | d :: ds, _, q => by
    cases q with
    | cons a b => exact .cons (dq_mono h d _ a) (dq_monoA h ds _ b)
end
end
end Vw

set_option Elab.async false
set_option linter.all false
set_option maxRecDepth 100000
set_option maxHeartbeats 4000000
namespace Vw
open PySem PySem.Spec PyProof.Rows L2 RT
/-! ### an own error kept as a value -/
/-- C(e, ..) as a value: the error stays -/
def tVkO (C : Addr) (sp : Sp) (dvs : List V) (ta : TA) : TE := fun σ H Q => ta σ H fun vs H1 => vs.length ≤ 1000 ∧ ∀ a, H1 a = none → sp (.ref a :: (vs ++ dvs)) (upd H1 a (exo a C none)) (fun v H2 => v = .non ∧ Q (.ref a) H2) (fun _ _ _ => False)
def tVkN (C : Addr) (sp : Sp) : TE := fun σ H Q => ∀ a, H a = none → sp [.ref a] (upd H a (exo a C none)) (fun v H2 => v = .non ∧ Q (.ref a) H2) (fun _ _ _ => False)
theorem value_end {X : Cx} {pins : List (Addr × Obj)} {σ : L2.St} {H : Hp} {s s' : Shared} {Q : VK} {u : Value} {a : Addr} (I : Inv X pins σ H s) (h : CE X.stack X.prog X.w H s (fun v H2 => v = .non ∧ Q (.ref a) H2) u s') : u = .none ∧ EP X pins σ Q (.ref a) s' := by
  obtain ⟨v, H2, J, r, rfl, q⟩ := I.after h
  exact ⟨r, .ref a, H2, J, rfl, q⟩
section
variable {X : Cx} {CX : CXT} {x : Str} {C m : Addr} {k : Nat} {fd : FuncData} {ps : List Str} {sp : Sp} {ds : List Value} {dvs : List V} {e : Expr} {es : List Expr} {ta : TA} {p pos : Pos}
/-- the class called: its instance is laid, tracked while __init__ runs on it, and stays tracked -/
theorem class_called {pins : List (Addr × Obj)} {σ : L2.St} {H : Hp} {s : Shared} {Q : VK} {us : List Value} {vs : List V} (T : OexC X.K C) (has : PySem.W.findIn X.K (.ref C) "__init__" = some (some (.ref m))) (isf : PySem.W.typeIn X.K (.ref m) = some (.type "function"))
    (it : FnOk X.prog X.w X.K X.mg X.base CX k m fd ps sp) (room : Room (k + 1) X.A) (bd : Binds X.K fd ps ds) (dd : Vals dvs ds) (calm : Passes CX X (fun _ _ _ => False)) (I : Inv X pins σ H s) (rel : Vals vs us) (few : vs.length ≤ 1000)
    (ask : ∀ a, H a = none → sp (.ref a :: (vs ++ dvs)) (upd H a (exo a C none)) (fun v H2 => v = .non ∧ Q (.ref a) H2) (fun _ _ _ => False)) : wpAny (model X.prog X.w) X.A (call (.ref C) us) (EP X pins σ Q) X.xe s := by
  obtain ⟨h, gs, dr, tk, os⟩ := s
  obtain ⟨_, _, _, _, bm, _, _, _, _, _, _, _, _, _, _, look, refs⟩ := T.cls
  -- the instance lies behind the tuple of what was passed
  obtain ⟨b, eb⟩ : ∃ b, b = h.objs.size + 1 := ⟨_, rfl⟩
  obtain ⟨h2, e2⟩ : ∃ h2 : Heap, h2 = (h.push (PySem.W.kdv_tup us)).push (PySem.HandSPX.excO C h.objs.size) := ⟨_, rfl⟩
  have above : h.objs.size ≤ b := by omega
  have old : ∀ c o, h.get? c = some o → h2.get? c = some o := fun c o q => by
    rw [e2]
    exact Heap.get?_push_of_some _ (Heap.get?_push_of_some _ q)
  have there : h2.get? b = some (PySem.HandSPX.excO C h.objs.size) := by
    rw [e2, eb]
    heap_get
  have J : Inv X pins σ (upd H b (exo b C none)) ⟨h2, gs, dr, tk, os⟩ := I.laid (t' := tk) old above (exo_ok there)
  have due := ask b (I.hok.fresh above)
  have all : Vals (V.ref b :: (vs ++ dvs)) (Value.ref b :: (us ++ ds)) := .cons rfl (rel.append dd)
  have count : (Value.ref b :: us ++ ds).length = ps.length := all.length.symm.trans (it.len _ _ _ _ due)
  have short : us.length ≤ sizeLine := by
    have := Paired.length rel
    rw [sizeLine_eq]; omega
  subst eb e2
  refine wpAny_call (PySem.HandSPX.call_own F.excBase_ValueError (fun Y => PySem.HandSPX.refsVE_contains Y bm refs) (I.kIn _ _ look) (PySem.W.looks_findIn I.kIn has) (fun self => PySem.W.bind_fn I.kIn self isf) short ?_)
  refine codeAny_mono (it.run _ X.stack _ _ ⟨_ :: us, []⟩ _ _ _ _ (room.make C us []) (J.env0.make C us []) (bd _ (_ :: us) J.kIn count) all due) fun res s' got => ?_
  match res, got with
  | .error er, got => exact calm pins σ _ _ er s' J got
  | .ok (.ret u), got => exact value_end J got
  | .ok .next, got => exact got.elim
  | .ok .brk, got => exact got.elim
  | .ok .cont, got => exact got.elim
theorem pe_vko (T : OexC X.K C) (has : PySem.W.findIn X.K (.ref C) "__init__" = some (some (.ref m))) (isf : PySem.W.typeIn X.K (.ref m) = some (.type "function")) (F : FnOk X.prog X.w X.K X.mg X.base CX k m fd ps sp) (room : Room (k + 1) X.A) (bd : Binds X.K fd ps ds) (dd : Vals dvs ds)
    (calm : Passes CX X (fun _ _ _ => False)) (glob : Gl X x) (names : X.mg x = some (.ref C)) (args : PA X (e :: es) ta) (nd : (x == ("__debug__" : Str)) = false := by decide) (st1 : starEach (e :: es) X.env = (false, eval e X.env) :: starEach es X.env := by rfl) (st2 : (backTo pos (starEach es X.env)).any (·.1) = false := by rfl) :
    PE X (.Call (.Name x p) (e :: es) [] pos) (tVkO C sp dvs ta) :=
  ⟨fun pins s σ H Q I h => wpAny_Call_Name_kw (ld_glob I glob names (PySem.W.callWith_K (h₀ := X.base) I.mod.kin T.kC (thn (args.run pos pins s σ H _ I h) fun _ _ ⟨_, _, J, r, few, q⟩ => ⟨J.kIn, class_called T has isf F room bd dd calm J r few q⟩) st1 st2) nd)⟩
theorem pe_vkn (T : OexC X.K C) (has : PySem.W.findIn X.K (.ref C) "__init__" = some (some (.ref m))) (isf : PySem.W.typeIn X.K (.ref m) = some (.type "function")) (F : FnOk X.prog X.w X.K X.mg X.base CX k m fd ps sp) (room : Room (k + 1) X.A) (bd : Binds X.K fd ps [])
    (calm : Passes CX X (fun _ _ _ => False)) (glob : Gl X x) (names : X.mg x = some (.ref C)) (nd : (x == ("__debug__" : Str)) = false := by decide) : PE X (.Call (.Name x p) [] [] pos) (tVkN C sp) :=
  ⟨fun pins s σ H Q I h => wpAny_Call_Name_kw (ld_glob I glob names (PySem.W.callWith_K0 I.kIn T.kC (class_called (vs := []) (us := []) (dvs := []) T has isf F room bd .nil calm I .nil (Nat.zero_le _) h)) nd)⟩
/-- e.f, e an error that is kept -/
def tXv (C : Addr) (f : Str) (te : TE) : TE := fun σ H Q => te σ H fun x H1 => ∃ (a d : Addr) (fs : List (Str × V)) (v : V), x = .ref a ∧ H1 a = some (exo a C (some d)) ∧ H1 d = some (exd d fs) ∧ fs.lookup f = some v ∧ Q v H1
theorem pe_xv {C : Addr} {te : TE} {pos : Pos} {n : Str} (T : XfC X.K C) (hno : PySem.W.findIn X.K (.ref C) n = some none) (he : PE X e te) (hb : attributeBase e n X.env (eval e X.env) = eval e X.env := by rfl) :
    PE X (.Attribute e n pos) (tXv C n te) := by
  refine ⟨fun pins s σ H Q I h => ?_⟩
  refine attr_of hb (thn (he.run pins s σ H _ I h) fun _ s1 ⟨_, H1, J, same, a, d, fs, v, ex, err, row, is, q⟩ => ?_)
  subst ex
  cases same
  obtain ⟨_, lies⟩ := exo_at J.hok err
  obtain ⟨names, space, told⟩ := exd_at J.hok row
  obtain ⟨od, dict, looks⟩ := lookIn_ns space
  obtain ⟨w1, e1, rel⟩ := RelO.some_of (v := v) (o := names n) (is ▸ told n)
  have inst : PySem.W.InstAt s1.heap a _ C (some od) := ⟨lies, rfl, rfl, dict⟩
  have own := PySem.W.findObj_own (K := X.K) (od := od) T.hdC hno rfl ((looks n).trans (congrArg some e1))
  exact HandSPX.exc_get J.kIn inst T.ga T.gg T.exC own (handed_of rel) ⟨v, H1, J.tok _, rel, q⟩
/-- isinstance(e, c), e an error that is kept -/
def rIsV (K : PySem.W.Frag) : List V → Hp → VK → Prop := fun xs H Q => ∃ (a D : Addr) (d : Option Addr) (c : V) (cv : Value) (b : Bool), xs = [.ref a, c] ∧ ExcC K D ∧ H a = some (exo a D d) ∧ (∀ dd, d = some dd → ∃ fs, H dd = some (exd dd fs)) ∧ (∀ u, RelV c u → u = cv) ∧ PySem.W.kitOne K (.ref D) cv = some b ∧ Q (.bl b) H
theorem call_isV : CallR X (.builtin "isinstance") (rIsV X.K) := by
  intro pins s σ H xs us Q I rel h
  obtain ⟨a, D, d, c, cv, b, rfl, C, ha, hd, hcv, e, q⟩ := h
  cases rel with
  | cons rx rel =>
    cases rel with
    | cons rt rel =>
      cases rel; cases rx
      obtain rfl := hcv _ rt
      obtain ⟨t1, ho⟩ := exo_at I.hok ha
      have J : ∃ ox od, PySem.W.InstAt s.heap a ox D od := by
        cases d with
        | none => exact ⟨_, none, ho, rfl, rfl, trivial⟩
        | some dd =>
          obtain ⟨fs, ex⟩ := hd dd rfl
          obtain ⟨mA, hns, _⟩ := exd_at I.hok ex
          obtain ⟨od, hod, _⟩ := lookIn_ns hns
          exact ⟨_, some od, ho, rfl, rfl, hod⟩
      obtain ⟨ox, od, J⟩ := J
      exact PySem.W.kia_one (kit_any (ox := ox) (od := od) C) I.kIn J e (fun z => nomatch z) fun tk => ⟨.bl b, H, I.kept (t' := tk) fun _ _ z => z, rfl, q⟩
theorem cIsV {K : PySem.W.Frag} (e : X.K = K := by rfl) : CallR X (.builtin "isinstance") (rIsV K) := by cases e; exact call_isV
end
end Vw
namespace Vw
open PySem PySem.Spec PyProof.Rows L2 RT
/-! ### len of a set of ints -/
def rLenS (w : World) : List V → Hp → VK → Prop := fun xs H Q => ∃ (ns : List Int) (a : Addr) (n : Nat), xs = [.ref a] ∧ H a = some (SetO w a (fun j => decide (j ∈ ns)) n) ∧ ns.Nodup ∧ Q (.int (ns.length : Nat)) H
theorem card_eq {ns ms : List Int} (h1 : ns.Nodup) (h2 : ms.Nodup) (h : ∀ k, decide (k ∈ ns) = true ↔ k ∈ ms) : ms.length = ns.length := by
  have e : ms.Perm ns := (List.perm_ext_iff_of_nodup h2 h1).mpr fun k => (h k).symm.trans (by simp)
  exact e.length_eq
theorem cLenS {X : Cx} {w : World} (ew : X.w = w := by rfl) : CallR X (.builtin "len") (rLenS w) := by
  cases ew
  intro pins s σ H xs us Q I r h
  obtain ⟨ns, a, n, rfl, ha, nd, q⟩ := h
  rw [Vals.ref1 r]
  obtain ⟨o, es, ep, t, ho, hx, hd, _, nde, hS, hb, hf, rfl, _⟩ := setO_get I ha
  have el : es.size = ns.length := by
    have := card_eq nd nde hS
    rw [List.length_map, Array.length_toList] at this
    exact this
  refine call_len_set ho hx hd hf (by unfold scanBound at hb; omega) ?_
  exact ⟨.int (ns.length : Nat), H, I.tok _, ⟨_, by rw [← el]⟩, q⟩
/-- what the classes of errors must say -/
def xcB (K : PySem.W.Frag) (D : Addr) : Bool :=
  decide (PySem.W.findIn K (.ref D) "__getattribute__" = some (some (.builtin "BaseException.__getattribute__"))) && (decide (PySem.W.findIn K (.ref D) "__getattr__" = some none) && (decide (PySem.W.subIn K (.ref D) (.type "BaseException") = some true) && (PySem.W.hasDictIn K D &&
  (decide (PySem.W.findIn K (.ref D) "__class__" = some (some (.builtin "object.__class__"))) && (decide (PySem.W.specialIn K (.builtin "object.__class__") "__get__" = some (some (.builtin "getset_descriptor.__get__"))) && (decide (PySem.W.takesIn K (.builtin "object.__class__") = some true) && decide (PySem.W.mroIn K D (.type "object") = some true)))))))
theorem xcB_ok {K : PySem.W.Frag} {D : Addr} (h : xcB K D = true) : ExcC K D := by
  unfold xcB at h
  simp only [Bool.and_eq_true, decide_eq_true_eq] at h
  obtain ⟨h1, h2, h3, h4, h5, h6, h7, h8⟩ := h
  exact ⟨h1, h2, h3, h4, h5, h6, h7, h8⟩
def xcAll (K : PySem.W.Frag) (L : List Addr) : Bool := L.all (xcB K)
def kitAll (K : PySem.W.Frag) (L : List Addr) (v : Value) : Bool := L.all fun D => decide (PySem.W.kitOne K (.ref D) v = some true)
def kitRow (K : PySem.W.Frag) (D : Addr) (i : Nat) : Nat → List Addr → Bool
  | _, [] => true
  | j, C :: L => decide (PySem.W.kitOne K (.ref D) (.ref C) = some (decide (i = j))) && kitRow K D i (j + 1) L
def kitRows (K : PySem.W.Frag) (A : List Addr) : Nat → List Addr → Bool
  | _, [] => true
  | i, D :: L => kitRow K D i 0 A && kitRows K A (i + 1) L
def kitTab (K : PySem.W.Frag) (L : List Addr) : Bool := kitRows K L 0 L
theorem kitRow_at {K : PySem.W.Frag} {D : Addr} {i : Nat} : ∀ {L : List Addr} {n j : Nat} {C : Addr}, kitRow K D i n L = true → L[j]? = some C → PySem.W.kitOne K (.ref D) (.ref C) = some (decide (i = n + j))
  | [], _, _, _, _, e => by simp at e
  | B :: L, n, 0, C, h, e => by
    unfold kitRow at h
    rw [Bool.and_eq_true] at h
    have : B = C := Option.some.inj e
    subst this
    exact of_decide_eq_true h.1
  | B :: L, n, j + 1, C, h, e => by
    unfold kitRow at h
    rw [Bool.and_eq_true] at h
    have := kitRow_at (L := L) (n := n + 1) (j := j) (C := C) h.2 e
    rw [this, show n + 1 + j = n + (j + 1) by omega]
theorem kitRows_at {K : PySem.W.Frag} {A : List Addr} : ∀ {L : List Addr} {n i : Nat} {D : Addr}, kitRows K A n L = true → L[i]? = some D → kitRow K D (n + i) 0 A = true
  | [], _, _, _, _, e => by simp at e
  | B :: L, n, 0, D, h, e => by
    unfold kitRows at h
    rw [Bool.and_eq_true] at h
    have : B = D := Option.some.inj e
    subst this
    exact h.1
  | B :: L, n, i + 1, D, h, e => by
    unfold kitRows at h
    rw [Bool.and_eq_true] at h
    have := kitRows_at (L := L) (n := n + 1) (i := i) (D := D) h.2 e
    rw [show n + (i + 1) = n + 1 + i by omega]
    exact this
theorem kitTab_at {K : PySem.W.Frag} {L : List Addr} {i j : Nat} {D C : Addr} (h : kitTab K L = true) (d : L[i]? = some D) (c : L[j]? = some C) : PySem.W.kitOne K (.ref D) (.ref C) = some (decide (i = j)) := by
  have := kitRow_at (kitRows_at h d) c
  rw [Nat.zero_add, Nat.zero_add] at this
  exact this
theorem kitAll_at {K : PySem.W.Frag} {L : List Addr} {v : Value} {i : Nat} {D : Addr} (h : kitAll K L v = true) (d : L[i]? = some D) : PySem.W.kitOne K (.ref D) v = some true := of_decide_eq_true (List.all_eq_true.mp h D (List.mem_of_getElem? d))
theorem xcAll_at {K : PySem.W.Frag} {L : List Addr} {i : Nat} {D : Addr} (h : xcAll K L = true) (d : L[i]? = some D) : ExcC K D := xcB_ok (List.all_eq_true.mp h D (List.mem_of_getElem? d))
end Vw

set_option Elab.async false
set_option linter.all false
set_option maxRecDepth 100000
set_option maxHeartbeats 4000000
namespace Vw
open PySem PySem.Spec PyProof.Rows L2 RT LamX NdefX
/-! ### a function that is kept, and the one cell that it captured -/
def CelO (c : Addr) (v : V) : HO := .ext fun h => ∃ u, RelV v u ∧ h.IsCell c (some u)
theorem cel_ok {P : Program} {w : World} {H : Hp} {h : Heap} {c : Addr} {v : V} {u : Value} (r : RelV v u) (e : h.IsCell c (some u)) : ObjOk P w H h c (CelO c v) := by
  obtain ⟨o, ho, hd⟩ := e
  exact ⟨⟨u, r, o, ho, hd⟩, ⟨o, ho⟩, fun h1 h2 z k => by
    obtain ⟨u, r, o, q, d⟩ := z
    exact ⟨u, r, o, k _ q, d⟩⟩
theorem cel_at {P : Program} {w : World} {H : Hp} {h : Heap} {c : Addr} {v : V} (hok : HOk P w H h) (e : H c = some (CelO c v)) : ∃ u, RelV v u ∧ h.IsCell c (some u) := by
  have x : ObjOk P w H h c (.ext fun h => ∃ u, RelV v u ∧ h.IsCell c (some u)) := hok c _ e
  exact x.1
theorem cel_own {c x : Addr} {v : V} : CelO c v ≠ .own x := fun z => by
  have z' : HO.ext _ = HO.own x := z
  cases z'
theorem cel_tup {c : Addr} {v : V} {xs : List V} : CelO c v ≠ .tup xs := fun z => by
  have z' : HO.ext _ = HO.tup xs := z
  cases z'
theorem cel_frz {c : Addr} {v : V} {o : Obj} {u : HO} : CelO c v ≠ .frz o u := fun z => by
  have z' : HO.ext _ = HO.frz o u := z
  cases z'
theorem cel_tbl {c : Addr} {v : V} {ps : Array Value} : CelO c v ≠ .tbl ps := fun z => by
  have z' : HO.ext _ = HO.tbl ps := z
  cases z'
theorem hok_del {P : Program} {w : World} {H : Hp} {h : Heap} {c : Addr} {v : V} (hok : HOk P w H h) (e : H c = some (CelO c v)) : HOk P w (del H c) h := fun b o z => by
  have hb : b ≠ c := fun q => by rw [q, del_same] at z; cases z
  rw [del_ne hb] at z
  exact (hok b o z).stay (fun _ _ _ y => y) (fun d hd => by rw [del_ne (at_ne e hd cel_own)]; exact hd) (fun d xs hd => by rw [del_ne (at_ne e hd cel_tup)]; exact hd)
theorem hok_add {P : Program} {w : World} {H : Hp} {h : Heap} {c : Addr} {v : V} {u : Value} (hok : HOk P w H h) (n : H c = none) (r : RelV v u) (e : h.IsCell c (some u)) : HOk P w (upd H c (CelO c v)) h := fun b o z => by
  by_cases hb : b = c
  · subst hb
    rw [upd_same] at z
    cases z
    exact cel_ok r e
  · rw [upd_ne hb] at z
    exact (hok b o z).stay (fun _ _ _ y => y) (fun d hd => by rw [upd_ne (ne_of_none hd n)]; exact hd) (fun d xs hd => by rw [upd_ne (ne_of_none hd n)]; exact hd)
theorem un_back {fs : List Addr} {H H2 : Hp} {h h2 : Heap} {c : Addr} {v : V} (u : Un fs [] (del H c) H2 h h2) (e : H c = some (CelO c v)) : Un fs [] H (upd H2 c (CelO c v)) h h2 where
  keep := fun b o z n hf hx => u.keep b o z (by rw [del_ne (ne_of_none e n).symm]; exact n) hf hx
  slot := fun b o z n hf hx => u.slot b o z (by rw [del_ne (ne_of_none e n).symm]; exact n) hf hx
  free := fun b o z n hx => by rw [upd_ne (ne_of_none e n).symm]; exact u.free b o z (by rw [del_ne (ne_of_none e n).symm]; exact n) hx
  there := fun b o z hx => u.there b o z hx
  tups := fun b xs z => by
    have hb : b ≠ c := at_ne e z cel_tup
    rw [upd_ne hb]; exact u.tups b xs (by rw [del_ne hb]; exact z)
  frzs := fun b o y z => by
    have hb : b ≠ c := at_ne e z cel_frz
    rw [upd_ne hb]; exact u.frzs b o y (by rw [del_ne hb]; exact z)
  tbls := fun b ps z => by
    have hb : b ≠ c := at_ne e z cel_tbl
    rw [upd_ne hb]; exact u.tbls b ps (by rw [del_ne hb]; exact z)
/-! ### a lambda with parameters -/
def FnL (f : Addr) (F : NF) (b : Expr) : HO := .ext fun h => ∃ pm ctv : Value, h.get? f = some (PySem.W.kla_obj "<lambda>" F.qual F.params b F.scope F.cl pm F.c ctv)
theorem fnL_at {P : Program} {w : World} {H : Hp} {h : Heap} {f : Addr} {F : NF} {b : Expr} (hok : HOk P w H h) (e : H f = some (FnL f F b)) : ∃ pm ctv : Value, h.get? f = some (PySem.W.kla_obj "<lambda>" F.qual F.params b F.scope F.cl pm F.c ctv) := by
  have x : ObjOk P w H h f (.ext fun h => ∃ pm ctv : Value, h.get? f = some (PySem.W.kla_obj "<lambda>" F.qual F.params b F.scope F.cl pm F.c ctv)) := hok f _ e
  exact x.1
structure NOkL (P : Program) (w : World) (K : PySem.W.Frag) (mg : Str → Option Value) (base : Heap) (k : Nat) (f : Addr) (F : NF) (b : Expr) (ps fr : List Str) (sp : List (Option V) → Sp) : Prop where
  len : ∀ ws vs H Q E, sp ws vs H Q E → vs.length = ps.length
  run : ∀ (A : Around) (outer : List Env) (s : Shared) (H : Hp) (us : List Value) (vs : List V) (ws : List (Option V)) (Q : VK) (E : XK), Room k A → Env0 P w K mg base A outer s H → H f = some (FnL f F b) → H F.c = some (CodeO F.c F.qual) →
    CellsAt F.cl fr ws s.heap H → Vals vs us → sp ws vs H Q E → codeAny (model P w) A (.call (.ref f) ⟨us, []⟩) (CR CX0 outer P w H s Q E) s
section
variable {P : Program} {w : World} {K : PySem.W.Frag} {mg : Str → Option Value} {base : Heap} {N ps fr : List Str} {F : NF} {b : Expr} {f : Addr} {k j : Nat} {sp : List (Option V) → Sp}
theorem nokL_of (S : NScope N ps fr F.scope) (hb : ∀ (pm ctv : Value) (us : List Value), us.length = ps.length → bindArgs (PySem.W.kla_fn "<lambda>" F.qual F.params b F.scope F.cl pm (.ref F.c) ctv) ⟨us, []⟩ = pure (ps.zip us)) (len : ∀ ws vs H Q E, sp ws vs H Q E → vs.length = ps.length)
    (hbody : ∀ (A : Around) (outer : List Env) (s : Shared) (H : Hp) (vs : List V) (ws : List (Option V)) (Q : VK) (E : XK), Room k (A.deeper (envF F f s.heap.objs.size)) → ws.length = fr.length → sp ws vs H Q E →
      ∃ te, PE (ncx CX0 P w K mg base N F f A outer s H E) b te ∧ te (startF N vs ws) H Q) :
    NOkL P w K mg base (k + 1) f F b ps fr sp := by
  refine ⟨len, fun A outer s H us vs ws Q E hr e0 hf hc C r hsp => ?_⟩
  have hl := len _ _ _ _ _ hsp
  have lim : s.heap.NoLimit := e0.mod.nolimit.keeps fun b o e => (e0.bs b o e).1
  obtain ⟨pm, ctv, ho⟩ := fnL_at e0.hok hf
  refine PySem.W.kla_callFunE hr.depth ho rfl S.co S.gen rfl (codeO_at e0.hok hc) ?_
  rw [hb pm ctv us (by rw [← r.length]; exact hl)]
  refine wpAny_pure (wpAny_newFunctionEnv S.nocell (fun ⟨n, _⟩ hy => S.par n (List.of_mem_zip hy).1) (fun h₁ hns hsb => ⟨lim.fresh _ hsb, ?_⟩) S.kind)
  show codeAny _ _ (.expr b (envF F f s.heap.objs.size)) _ _
  have kp : ∀ b o, s.heap.get? b = some o → h₁.get? b = some o := fun b o e => hsb.extBut b o (Nat.ne_of_lt (Heap.lt_size e)) (Heap.get?_push_of_some _ e)
  obtain ⟨te, ht, hq⟩ := hbody A outer s H vs ws Q E (hr.deeper _) C.len hsp
  have I : Inv (ncx CX0 P w K mg base N F f A outer s H E) [] (startF N vs ws) H { s with heap := h₁, toks := s.toks + (ps.zip us).length } := inv_startN S hr.hd e0 hl r C hns kp
  refine PySem.W.kla_codeExpr (wpAny_mono (ht.run [] _ (startF N vs ws) H _ I hq) (fun v s' hs => ?_) fun e s' hs => hs)
  obtain ⟨w', H', J, rv, q⟩ := hs
  exact ⟨w', H', J.os, J.bare, J.base, J.hok, rv, q⟩
end
section
variable {X : Cx} {k : Nat} {f c : Addr} {F : NF} {b : Expr} {ps : List Str} {y0 : Str} {v0 : V} {sp : List (Option V) → Sp}
theorem run_kept {pins : List (Addr × Obj)} {σ : L2.St} {H : Hp} {s : Shared} {Q : VK} {us : List Value} {vs : List V} (Fn : NOkL X.prog X.w X.K X.mg X.base k f F b ps [y0] sp) (hr : Room k X.A) (hcl : F.cl = [(y0, c)]) (I : Inv X pins σ H s)
    (hf : H f = some (FnL f F b)) (hc : H F.c = some (CodeO F.c F.qual)) (hv : H c = some (CelO c v0)) (r : Vals vs us) (q : sp [some v0] vs (del H c) (fun v H2 => H2 c = none → Q v (upd H2 c (CelO c v0))) (fun _ _ _ => False)) :
    wpAny (model X.prog X.w) X.A (call (.ref f) us) (EP X pins σ Q) X.xe s := by
  obtain ⟨u0, r0, o0, ho0, hd0⟩ := cel_at I.hok hv
  have fc : f ≠ c := fun z => by
    obtain ⟨pm, ctv, ho⟩ := fnL_at I.hok hf
    rw [z, ho0] at ho
    cases ho
    cases hd0
  have cc : F.c ≠ c := fun z => by
    obtain ⟨c1, oc, us, t, ec, ho, hd, _⟩ := codeO_at I.hok hc
    cases ec
    rw [z, ho0] at ho
    cases ho
    rw [hd0] at hd
    cases hd
  have e0 := I.env0
  have e1 : Env0 X.prog X.w X.K X.mg X.base X.A X.stack s (del H c) := ⟨e0.frames, e0.mod, fun b o z => ⟨(e0.bs b o z).1, by
      have n := (e0.bs b o z).2
      rw [del_ne (ne_of_none hv n).symm]; exact n⟩, e0.bsz, e0.funs, fun b hb => by
      have n := e0.frf b hb
      rw [del_ne (ne_of_none hv n).symm]; exact n, hok_del e0.hok hv, e0.bare⟩
  have C : CellsAt F.cl [y0] [some v0] s.heap (del H c) := by
    rw [hcl]
    refine ⟨rfl, fun y a e => ?_, fun x y a e1 e2 => ?_, fun i y e => ?_⟩
    · have : y = y0 ∧ a = c := by
        rw [List.lookup_cons] at e
        split at e
        · next h => exact ⟨eq_of_beq h, (Option.some.inj e).symm⟩
        · cases e
      rw [this.2]
      exact ⟨del_same, _, o0, ho0, hd0⟩
    · have one : ∀ {z : Str}, ([(y0, c)] : List (Str × Addr)).lookup z = some a → z = y0 := fun {z} e => by
        rw [List.lookup_cons] at e
        split at e
        · next h => exact eq_of_beq h
        · cases e
      rw [one e1, one e2]
    · cases i with
      | zero =>
        cases e
        refine ⟨c, by rw [List.lookup_cons, beq_self_eq_true], fun v ev => ?_⟩
        cases ev
        exact ⟨u0, r0, o0, ho0, hd0⟩
      | succ i => simp at e
  have cf : c ∉ frs X.stack := fun hb => by
    rw [e0.frf c hb] at hv; cases hv
  refine wpAny_call (codeAny_mono (Fn.run X.A X.stack s (del H c) us vs _ _ _ hr e1 (by rw [del_ne fc]; exact hf) (by rw [del_ne cc]; exact hc) C r q) fun res s' hq => ?_)
  cases res with
  | error e => exact False.elim hq
  | ok fl =>
    cases fl with
    | ret u =>
      obtain ⟨v, H2, os, bare, un, hok2, rv, q2⟩ := hq
      have n2 : H2 c = none := un.free c o0 ho0 del_same (List.not_mem_nil)
      have k2 := un.keep c o0 ho0 del_same cf (List.not_mem_nil)
      exact I.after ⟨v, _, os, bare, un_back un hv, hok_add hok2 n2 r0 ⟨o0, k2, hd0⟩, rv, q2 n2⟩
    | next => exact False.elim hq
    | brk => exact False.elim hq
    | cont => exact False.elim hq
end
/-- f(..), the slot i holds a kept lambda; told: its function, its code, its cell -/
def tCallKp (mk : Addr → Addr → NF) (b : Expr) (i : Nat) (sp : List (Option V) → Sp) (t : TA) : TE := fun σ H Q => ∃ (f q c : Addr) (v0 : V), σ[i]? = some (some (.ref f)) ∧ H f = some (FnL f (mk q c) b) ∧
  t σ H fun vs H1 => H1 f = some (FnL f (mk q c) b) ∧ H1 (mk q c).c = some (CodeO (mk q c).c (mk q c).qual) ∧ H1 c = some (CelO c v0) ∧ sp [some v0] vs (del H1 c) (fun v H2 => H2 c = none → Q v (upd H2 c (CelO c v0))) (fun _ _ _ => False)
section
variable {X : Cx} {mk : Addr → Addr → NF} {b : Expr} {i k : Nat} {x y0 : Str} {ps : List Str} {sp : List (Option V) → Sp} {t : TA} {e : Expr} {es : List Expr} {p pos : Pos}
theorem fnL_place {pins : List (Addr × Obj)} {σ : L2.St} {H : Hp} {s : Shared} {f : Addr} {F : NF} (I : Inv X pins σ H s) (at_ : H f = some (FnL f F b)) : PySem.W.FnAt f s.heap := by
  obtain ⟨_, _, ho⟩ := fnL_at I.hok at_
  exact ⟨_, _, _, _, ho⟩
theorem pe_callKp (Fn : ∀ f q c, NOkL X.prog X.w X.K X.mg X.base k f (mk q c) b ps [y0] sp) (hcl : ∀ q c, (mk q c).cl = [(y0, c)]) (room : Room k X.A) (nm : X.N[i]? = some x) (vis : Vis X.env.scope x) (args : PA X (e :: es) t)
    (nd : (x == ("__debug__" : Str)) = false := by decide) (nc : (x == ("__classdict__" : Str)) = false := by decide)
    (st1 : starEach (e :: es) X.env = (false, eval e X.env) :: starEach es X.env := by rfl) (st2 : (backTo pos (starEach es X.env)).any (·.1) = false := by rfl) :
    PE X (.Call (.Name x p) (e :: es) [] pos) (tCallKp mk b i sp t) := by
  refine ⟨fun pins s σ H Q I h => ?_⟩
  obtain ⟨f, q, c, v0, slot, fn, h⟩ := h
  refine wpAny_Call_Name_kw (thn ((pe_var (pos := p) nm vis nd nc).run pins s σ H (fun v H1 => v = .ref f ∧ H1 = H) I ⟨.ref f, slot, rfl, rfl⟩) fun w1 s1 found => ?_)
  obtain ⟨_, H1, J, r1, rfl, rfl⟩ := found
  cases r1
  exact PySem.W.callWith_F (first := []) (fnL_place J fn) (thn (args.run pos pins s1 σ _ _ J h) fun us s2 ⟨vs, H2, J2, rel, k1, k2, k3, ask⟩ => ⟨fnL_place J2 k1, run_kept (Fn f q c) room (hcl q c) J2 k1 k2 k3 rel ask⟩) st1 st2
end
end Vw
namespace Vw
open PySem PySem.Spec PyProof.Rows L2 RT LamX NdefX
/-! ### a lambda made and kept -/
section
variable {X : Cx} {pins : List (Addr × Obj)} {σ : L2.St} {H : Hp} {s : Shared} {T : List (Addr × Str)} {P c : Addr} {q : Str}
theorem fnL_ok {Pg : Program} {w : World} {H : Hp} {h : Heap} {f : Addr} {F : NF} {b : Expr} {pm ctv : Value} (e : h.get? f = some (PySem.W.kla_obj "<lambda>" F.qual F.params b F.scope F.cl pm F.c ctv)) : ObjOk Pg w H h f (FnL f F b) :=
  ⟨⟨pm, ctv, e⟩, ⟨_, e⟩, fun h1 h2 z k => by
    obtain ⟨pm, ctv, z⟩ := z
    exact ⟨pm, ctv, k _ z⟩⟩
/-- the function made by a lambda -/
abbrev lamF (q : Str) (params : Arguments) (scope : Scope) (cl : List (Str × Addr)) (c' : Addr) : NF := ⟨"<lambda>", q, params, [], scope, cl, c'⟩
/-- a code object more in the table of its maker -/
theorem tabs_more {ps : Array Value} {pos : Pos} {c' : Addr} (all : Tabs T H) (at_ : H P = some (.tbl ps)) (ok : TriplesOk ps.toList) (told : ∀ (p' : Pos) (cv : Value), codeAmong p' ps.toList = some cv → ∃ c, cv = .ref c ∧ H c = some (CodeO c q)) (one : ∀ p ∈ T, p.1 = P → p.2 = q) (new : H c' = none) :
    ExtN H (upd (upd H P (.tbl (ps ++ #[rawInt pos.line, rawInt pos.col, .ref c']))) c' (CodeO c' q)) ∧ Tabs T (upd (upd H P (.tbl (ps ++ #[rawInt pos.line, rawInt pos.col, .ref c']))) c' (CodeO c' q)) := by
  have ext : ExtN H (upd (upd H P (.tbl (ps ++ #[rawInt pos.line, rawInt pos.col, .ref c']))) c' (CodeO c' q)) := fun d o z no => by
    have dP : d ≠ P := fun y => by
      rw [y, at_] at z
      exact no ps (Option.some.inj z).symm
    rw [upd_ne (ne_of_none z new), upd_ne dP]
    exact z
  refine ⟨ext, fun p hp => ?_⟩
  obtain ⟨rs, r1, r2, r3⟩ := all p hp
  by_cases same : p.1 = P
  · have eq_ := one p hp same
    rw [same, eq_]
    have split : (ps ++ #[rawInt pos.line, rawInt pos.col, .ref c']).toList = ps.toList ++ [rawInt pos.line, rawInt pos.col, .ref c'] := Array.toList_append
    refine ⟨_, (upd_ne (ne_of_none at_ new)).trans upd_same, split ▸ PySem.TriplesOk_snoc _ _ _ _ ok, fun p' cv found => ?_⟩
    rw [split] at found
    rcases among_app _ ok found with y | y
    · obtain ⟨d, e1, e2⟩ := told p' cv y
      exact ⟨d, e1, ext _ _ e2 codeO_ne⟩
    · exact ⟨c', y, upd_same⟩
  · refine ⟨rs, (upd_ne (ne_of_none r1 new)).trans ((upd_ne same).trans r1), r2, fun p' cv found => ?_⟩
    obtain ⟨d, e1, e2⟩ := r3 p' cv found
    exact ⟨d, e1, ext _ _ e2 codeO_ne⟩
theorem keep_upd {H : Hp} {f : Addr} {u : HO} (n : H f = none) : ∀ d o, H d = some o → upd H f u d = some o := fun d o z => (upd_ne (ne_of_none z n)).trans z
/-- the lambda's function is new, tracked, and stays -/
theorem lam_kept {params : Arguments} {body : Expr} {scope : Scope} {pos : Pos} {E : Value → Shared → Prop} {Q : Value → Shared → Prop} (I : Inv X pins σ H s) (B : LamX.TabB X.base X.mg c P) (code : X.env.code = .ref c) (eq_ : X.env.qual ++ "<lambda>" = q)
    (mine : (P, q) ∈ T) (one : ∀ p ∈ T, p.1 = P → p.2 = q) (all : Tabs T H) (plain : defaultsOf params X.env = ([], [])) (has : ∀ y ∈ scope.names, y.2 = .free → ∃ c, X.env.cells.lookup y.1 = some c)
    (h : ∀ (f c' : Addr) (H1 : Hp) (s' : Shared), Inv X pins σ H1 s' → ExtN H H1 → Tabs T H1 → H f = none → H1 f = some (FnL f (lamF q params scope (cloFrom X.env.cells scope.names []) c') body) → H1 c' = some (CodeO c' q) → Q (.ref f) s') :
    wpAny (model X.prog X.w) X.A (eval (.Lambda params body scope pos) X.env) Q E s := by
  subst eq_
  obtain ⟨ps, at_, ok, told⟩ := all _ mine
  refine PySem.W.kla_eval plain ?_
  have lies := I.hok P _ at_
  have bm : s.heap.BuiltinsAt X.mg P := B.bm.keeps I.bk
  cases found : codeAmong pos ps.toList with
  | some cv =>
    obtain ⟨c', rfl, known⟩ := told pos cv found
    refine PySem.W.kla_makeFunctionHit (mg := X.mg) (c := c) (P := P) (ps := ps) (closure_ok has) I.ok.glob (I.mod.glob.keeps I.bk) code (B.code.keeps I.bk) lies ok found bm fun ctv g tk kept grown => ?_
    have J : Inv X pins σ (upd H g.objs.size (FnL g.objs.size (lamF (X.env.qual ++ "<lambda>") params scope (cloFrom X.env.cells scope.names []) c') body)) _ :=
      I.laid (t' := tk) (fun d o z => Heap.get?_push_of_some (PySem.W.kla_obj "<lambda>" (X.env.qual ++ "<lambda>") params body scope (cloFrom X.env.cells scope.names []) ((X.mg "__name__").getD .none) c' ctv) (kept d o z)) grown (fnL_ok (Heap.get?_push_size _ rfl))
    have new : H g.objs.size = none := I.hok.fresh grown
    have ext : ∀ d o, H d = some o → upd H g.objs.size (FnL g.objs.size (lamF (X.env.qual ++ "<lambda>") params scope (cloFrom X.env.cells scope.names []) c') body) d = some o := fun d o z => (upd_ne (ne_of_none z new)).trans z
    exact h _ c' _ _ J (ExtN.of ext) (all.ext ext) new upd_same (ext _ _ known)
  | none =>
    refine PySem.W.kla_makeFunction (mg := X.mg) (c := c) (P := P) (ps := ps) (closure_ok has) I.ok.glob (I.mod.glob.keeps I.bk) code (B.code.keeps I.bk) lies ok found B.gP bm fun c' ctv g tk kept above below record table => ?_
    obtain ⟨c2, oc, us, t, ec, r1, r2, r3⟩ := record
    cases ec
    have J := inv_table (t' := tk) (q := X.env.qual ++ "<lambda>") (more := #[rawInt pos.line, rawInt pos.col, .ref c']) I at_ kept table above ⟨oc, us, t, r1, r2, r3⟩
    obtain ⟨ext, tabs⟩ := tabs_more (pos := pos) all at_ ok told one (I.hok.fresh above)
    have new := J.hok.fresh (Nat.le_refl g.objs.size)
    have J2 := J.laid (t' := tk) (a := g.objs.size) (o := FnL g.objs.size (lamF (X.env.qual ++ "<lambda>") params scope (cloFrom X.env.cells scope.names []) c') body) (fun d o z => Heap.get?_push_of_some (PySem.W.kla_obj "<lambda>" (X.env.qual ++ "<lambda>") params body scope (cloFrom X.env.cells scope.names []) ((X.mg "__name__").getD .none) c' ctv) z) (Nat.le_refl _) (fnL_ok (Heap.get?_push_size _ rfl))
    exact h _ c' _ _ J2 (ext.trans (ExtN.of (keep_upd new))) (tabs.ext (keep_upd new)) (I.hok.fresh (Nat.le_trans above (Nat.le_of_lt below))) upd_same (keep_upd new _ _ upd_same)
end
end Vw
namespace Vw
open PySem PySem.Spec PyProof.Rows L2 RT LamX NdefX
section
variable {X : Cx} {T : List (Addr × Str)} {P c : Addr} {q : Str}
/-- the reading of a lambda that is kept -/
def tLamK (T : List (Addr × Str)) (q : Str) (params : Arguments) (scope : Scope) (cl : List (Str × Addr)) (b : Expr) : TE := fun _ H Q => Tabs T H ∧ ∀ (f c' : Addr) (H1 : Hp), ExtN H H1 → Tabs T H1 → H f = none → H1 f = some (FnL f (lamF q params scope cl c') b) → H1 c' = some (CodeO c' q) → Q (.ref f) H1
theorem pe_lamK {params : Arguments} {body : Expr} {scope : Scope} {pos : Pos} {cl : List (Str × Addr)} (B : LamX.TabB X.base X.mg c P) (code : X.env.code = .ref c) (eq_ : X.env.qual ++ "<lambda>" = q)
    (mine : (P, q) ∈ T) (one : ∀ p ∈ T, p.1 = P → p.2 = q) (plain : defaultsOf params X.env = ([], [])) (has : ∀ y ∈ scope.names, y.2 = .free → ∃ c, X.env.cells.lookup y.1 = some c) (caps : cloFrom X.env.cells scope.names [] = cl) :
    PE X (.Lambda params body scope pos) (tLamK T q params scope cl body) := by
  subst caps
  exact ⟨fun pins s σ H Q I h => lam_kept I B code eq_ mine one h.1 plain has fun f c' H1 s2 J e1 e2 e3 e4 e5 => ⟨.ref f, H1, J, rfl, h.2 f c' H1 e1 e2 e3 e4 e5⟩⟩
end
/-! ### a def of one return, whose captured parameter is known from its end on -/
theorem un_add {fs ex : List Addr} {H H2 : Hp} {h h2 : Heap} {c : Addr} {o : HO} (u : Un fs ex H H2 h h2) (new : h.objs.size ≤ c) (n : H2 c = none) : Un fs ex H (upd H2 c o) h h2 where
  keep := u.keep
  slot := u.slot
  free := fun b v z k x => by
    have : b ≠ c := fun e => absurd (e ▸ Heap.lt_size z) (Nat.not_lt.mpr new)
    rw [upd_ne this]; exact u.free b v z k x
  there := u.there
  tups := fun b xs z => keep_upd n _ _ (u.tups b xs z)
  frzs := fun b v y z => keep_upd n _ _ (u.frzs b v y z)
  tbls := fun b ps z => (u.tbls b ps z).imp fun _ r => keep_upd n _ _ r
theorem ret_run {X : Cx} {e : Expr} {te : TE} {pos : Pos} {σ : L2.St} {H : Hp} {s : Shared} {R : VK} {Q : Flow → Shared → Prop} (pe : PE X e te) (J : Inv X [] σ H s) (z : te σ H R) (k : ∀ (v : V) (u : Value) (H2 : Hp) (s2 : Shared), Inv X [] σ H2 s2 → RelV v u → R v H2 → Q (.ret u) s2) :
    wpAny (model X.prog X.w) X.A (execs [.Return (some e) pos] X.env) Q X.xe s :=
  wpAny_execs_cons (thn (wpAny_Return_some (Q := fun fl s2 => ∃ u, fl = .ret u ∧ Q (.ret u) s2) (thn (pe.run [] s σ H R J z) fun u s2 ⟨v, H2, J2, r, q⟩ => ⟨u, rfl, k v u H2 s2 J2 r q⟩)) fun fl s2 ⟨u, efl, q⟩ => by
    subst efl
    exact q)
end Vw
namespace Vw
open PySem PySem.Spec PyProof.Rows L2 RT LamX NdefX
section
variable {P : Program} {w : World} {K : PySem.W.Frag} {mg : Str → Option Value} {base : Heap}
theorem fnK_of {CX : CXT} {k : Nat} {f : Addr} {nm ql : Str} {pr : Arguments} {sc : Scope} {dV kV dc pm cv ct oc : Value} {an od : Option Addr} {osl : Array (Option Value)} {N ps : List Str} {sp : Sp} {e : Expr} {pos : Pos} {y : Str}
    (lk : K.lookup f = some ⟨oc, od, .func (PySem.W.fnOf nm ql pr [.Return (some e) pos] sc dV kV dc pm an cv ct), osl⟩) (cd : PySem.W.codeIn K cv ql = true) (S : FnScope N ps sc) (cel : sc.names.lookup y = some .cell) (len : ∀ vs H Q E, sp vs H Q E → vs.length = ps.length)
    (body : ∀ (A : Around) (outer : List Env) (s : Shared) (H : Hp) (vs : List V) (Q : VK) (E : XK), Room k (A.deeper (envOfC ql sc s.heap.objs.size f cv)) → sp vs H Q E →
      ∃ (te : TE) (i : Nat) (v0 : V), PE (cxOf CX P w K mg base N ql sc f cv A outer s H E) e te ∧ N[i]? = some y ∧ (start N vs)[i]? = some (some v0) ∧
        te (start N vs) H (fun v H2 => ∀ c, (cxOf CX P w K mg base N ql sc f cv A outer s H E).env.cells.lookup y = some c → H2 c = none → Q v (upd H2 c (CelO c v0)))) :
    FnOk P w K mg base CX (k + 1) f (PySem.W.fnOf nm ql pr [.Return (some e) pos] sc dV kV dc pm an cv ct) ps sp := by
  refine ⟨len, fun A outer s H args us vs Q E rm e0 bt rv hs => ?_⟩
  have keepK : K.In s.heap := e0.mod.kin.keeps fun b o z => (e0.bs b o z).1
  have limK : s.heap.NoLimit := e0.mod.nolimit.keeps fun b o z => (e0.bs b o z).1
  have par : ∀ y ∈ ps.zip us, sc.names.lookup y.1 = some .local ∨ (sc.names.lookup y.1 = some .cell ∧ ((cellsFrom (s.heap.objs.size + 1) sc.names []).lookup y.1).isSome = true) := by
    rintro ⟨n, v⟩ hy
    exact (S.par n (List.of_mem_zip hy).1).imp id fun q => ⟨q, PySem.W.cellsFrom_some _ _ _ (.inl q)⟩
  refine codeAny_call_function rm.depth (keepK _ _ lk) rfl S.co S.gen rfl (PySem.W.codeRec_of keepK cd) (bt _ _ _ _ (wpAny_newFunctionEnv_cells S.kind par fun env he s1 x => ?_))
  subst he
  refine ⟨limK.keeps x.toInCall.keep, codeAny_func ?_⟩
  obtain ⟨te, i, v0, pe, at_, slot, z⟩ := body A outer s H vs Q E (rm.deeper _) hs
  have J : Inv (cxOf CX P w K mg base N ql sc f cv A outer s H E) [] (start N vs) H s1 := inv_start S rm.hd e0 (len _ _ _ _ hs) rv x
  refine wpAny_mono (ret_run (Q := fun fl s2 => ∃ u, fl = .ret u ∧ CE outer P w H s Q u s2) pe J z fun v u H2 s2 J2 r q => ⟨u, rfl, ?_⟩) (fun fl s2 ⟨u, efl, q⟩ => by
    subst efl
    exact q) fun _ _ q => q
  obtain ⟨m, _, look⟩ := J2.loc
  obtain ⟨u0, r0, l⟩ := look i y v0 at_ slot (.inr (.inl cel))
  rcases l with ⟨l, _⟩ | ⟨_, c, hc, hcell⟩
  · have l : sc.names.lookup y = some .local := l
    rw [cel] at l; cases l
  · have n := J2.freeC y c hc
    exact ⟨v, _, J2.os, J2.bare, un_add J2.base (J2.ok.cab y c rfl hc) n, hok_add J2.hok n r0 hcell, r, q c hc n⟩
end
end Vw
namespace Vw
open PySem PySem.Spec PyProof.Rows L2 RT LamX NdefX
section
variable {P : Program} {w : World} {K : PySem.W.Frag} {mg : Str → Option Value} {base : Heap}
/-- the maker as it stands in the text: one return, y the captured parameter -/
theorem DefAtL.okK {x qual : Str} {st : Stmt} {N ps : List Str} {k : Nat} {sp : Sp} {e : Expr} {pos : Pos} {y : Str} (D : DefAtL K mg x qual st ps) (S : FnScope N ps (defScope st)) (one : defBody st = [.Return (some e) pos]) (cel : (defScope st).names.lookup y = some .cell) (len : ∀ vs H Q E, sp vs H Q E → vs.length = ps.length)
    (body : ∀ (A : Around) (outer : List Env) (s : Shared) (H : Hp) (vs : List V) (Q : VK) (E : XK), Room k (A.deeper (envOfC qual (defScope st) s.heap.objs.size D.f (.ref D.c))) → sp vs H Q E →
      ∃ (te : TE) (i : Nat) (v0 : V), PE (cxOf CX0 P w K mg base N qual (defScope st) D.f (.ref D.c) A outer s H E) e te ∧ N[i]? = some y ∧ (start N vs)[i]? = some (some v0) ∧
        te (start N vs) H (fun v H2 => ∀ c, (cxOf CX0 P w K mg base N qual (defScope st) D.f (.ref D.c) A outer s H E).env.cells.lookup y = some c → H2 c = none → Q v (upd H2 c (CelO c v0)))) :
    FnOk P w K mg base CX0 (k + 1) D.f D.fd ps sp := by
  obtain ⟨_, _, _, _, _, _, _, _, e1, lk, cd⟩ := D.ex
  rw [e1] at lk ⊢
  rw [one] at lk ⊢
  exact fnK_of lk cd S cel len body
end
end Vw

set_option Elab.async false
set_option linter.all false
set_option maxRecDepth 100000
set_option maxHeartbeats 4000000
namespace Vw
open PySem PySem.Spec PyProof.Rows L2 RT
/-! ### dicts keyed by tuples within tuples: their keys are told of, their values are not -/
mutual
inductive Nk (H : Hp) : NestedKey → V → Prop
  | non : Nk H .none .non
  | int (i : Int) : Nk H (.num i) (.int i)
  | str (x : Str) : Nk H (.text x) (.str x)
  | tup {a : Addr} {xs : List V} {ks : List NestedKey} : H a = some (.tup xs) → NkA H ks xs → Nk H (.tup ks) (.ref a)
inductive NkA (H : Hp) : List NestedKey → List V → Prop
  | nil : NkA H [] []
  | cons {k : NestedKey} {ks : List NestedKey} {x : V} {xs : List V} : Nk H k x → NkA H ks xs → NkA H (k :: ks) (x :: xs)
end
section
variable {P : Program} {w : World} {H : Hp} {h : Heap}
mutual
theorem nk_is (ok : HOk P w H h) : ∀ (k : NestedKey) (x : V) (u : Value), Nk H k x → RelV x u → NestedIs h k u
  | .none, _, _, n, r => by
    cases n; cases r
    exact .none
  | .num i, _, _, n, r => by
    cases n
    obtain ⟨t, rfl⟩ := r
    exact .int i t
  | .text x, _, _, n, r => by
    cases n
    obtain ⟨t, rfl⟩ := r
    exact .text x t
  | .tup ks, _, _, n, r => by
    cases n with
    | tup at_ all =>
      cases r
      obtain ⟨_, its, rel, o, ho, hc, m, hd⟩ := (show ObjOk P w H h _ (.tup _) from ok _ _ at_)
      exact .tup ho hc hd (nk_all ok ks _ _ all (by simpa using rel))
theorem nk_all (ok : HOk P w H h) : ∀ (ks : List NestedKey) (xs : List V) (us : List Value), NkA H ks xs → Vals xs us → NestedAll h ks us
  | [], _, _, n, r => by
    cases n; cases r
    exact .nil
  | k :: ks, _, _, n, r => by
    cases n with
    | cons n1 n2 =>
      cases r with
      | cons r1 r2 => exact .cons (nk_is ok k _ _ n1 r1) (nk_all ok ks _ _ n2 r2)
end
end
/-- the dict at a: the keys, and where they lie, in their order -/
def dnO (P : Program) (w : World) (a : Addr) (ents : List (NestedKey × Addr)) : HO := .ext fun h => ∃ (xs : List (NestedKey × Addr × Value)) (o : Obj) (es : Array DictEntry) (ep : Nat), h.get? a = some o ∧ o.ExactDict ∧ o.data = .dict es ep ∧ es.toList = xs.map (entryOfKey (nestedKind P w)) ∧ xs.map (fun x => (x.1, x.2.1)) = ents ∧ (a == sysModules) = false
structure DnAt (P : Program) (w : World) (H : Hp) (a : Addr) (ents : List (NestedKey × Addr)) : Prop where
  at_ : H a = some (dnO P w a ents) ∨ (H a = some (.dK []) ∧ ents = [])
  len : ents.length ≤ 100000
  nd : (ents.map (·.1)).Nodup
  keys : ∀ p ∈ ents, Nk H p.1 (.ref p.2) ∧ p.1.depth ≤ 8
def putN (ents : List (NestedKey × Addr)) (k : NestedKey) (b : Addr) : List (NestedKey × Addr) := if k ∈ ents.map (·.1) then ents else ents ++ [(k, b)]
section
variable {P : Program} {w : World} {H : Hp} {h : Heap} {a b : Addr} {ents : List (NestedKey × Addr)}
theorem dn_of (ok : HOk P w H h) (D : DnAt P w H a ents) : ∃ xs, xs.map (fun x => (x.1, x.2.1)) = ents ∧ (a == sysModules) = false ∧ h.DictOfH (nestedKind P w) a xs := by
  rcases D.at_ with e | ⟨e, rfl⟩
  · obtain ⟨xs, o, es, ep, h1, h2, h3, h4, h5, h6⟩ : ∃ (xs : List (NestedKey × Addr × Value)) (o : Obj) (es : Array DictEntry) (ep : Nat), h.get? a = some o ∧ o.ExactDict ∧ o.data = .dict es ep ∧ es.toList = xs.map (entryOfKey (nestedKind P w)) ∧ xs.map (fun x => (x.1, x.2.1)) = ents ∧ (a == sysModules) = false := by
      have x : ObjOk P w H h a (dnO P w a ents) := ok a _ e
      exact x.1
    refine ⟨xs, h5, h6, o, es, ep, h1, h2, h3, h4, fun x hx => ?_, ?_⟩
    · have hp : (x.1, x.2.1) ∈ ents := h5 ▸ List.mem_map.mpr ⟨x, hx, rfl⟩
      have q := D.keys _ hp
      exact ⟨nk_is ok _ _ _ q.1 rfl, q.2⟩
    · have := D.nd
      rw [← h5, List.map_map] at this
      exact this
  · obtain ⟨_, h6, vs, kv, o, es, ep, h1, h2, h3, _, h4, _⟩ := dk_of ok e
    cases kv
    refine ⟨[], rfl, h6, o, es, ep, h1, h2, h3, ?_, (fun x hx => nomatch hx), List.nodup_nil⟩
    generalize es.toList = l at *
    cases h4
    rfl
theorem keys_put {xs : List (NestedKey × Addr × Value)} {k : NestedKey} {v : Value} : (storedH xs k b v).map (fun x => (x.1, x.2.1)) = putN (xs.map fun x => (x.1, x.2.1)) k b := by
  have e : (xs.map fun x => (x.1, x.2.1)).map (·.1) = xs.map (·.1) := by rw [List.map_map]; rfl
  unfold storedH putN
  rw [e]
  by_cases q : k ∈ xs.map (·.1)
  · have s : (atKey xs k).isSome = true := by
      obtain ⟨x, hx, rfl⟩ := List.mem_map.mp q
      unfold atKey
      rw [Option.isSome_map, List.find?_isSome]
      exact ⟨x, hx, decide_eq_true rfl⟩
    rw [if_pos s, if_pos q, List.map_map]
    refine List.map_congr_left fun x _ => ?_
    show ((putAt k v x).1, (putAt k v x).2.1) = _
    unfold putAt
    split <;> rfl
  · have s : ¬ (atKey xs k).isSome = true := fun s => by
      unfold atKey at s
      rw [Option.isSome_map, List.find?_isSome] at s
      obtain ⟨x, hx, e⟩ := s
      exact q (List.mem_map.mpr ⟨x, hx, of_decide_eq_true e⟩)
    rw [if_neg s, if_neg q, List.map_append]
    rfl
end
section
variable {X : Cx} {pins : List (Addr × Obj)} {σ : L2.St} {H : Hp} {s : Shared} {a b : Addr} {ents : List (NestedKey × Addr)} {k : NestedKey} {v : V} {r : Value}
theorem in1_room {A : Around} (h : A.units + 16 < cLine) : A.in1.units + 8 < cLine := by
  show A.units + 1 + 8 < cLine
  omega
theorem n_setItem {Q : Unit → Shared → Prop} {E : Value → Shared → Prop} (room : X.A.units + 16 < cLine) (I : Inv X pins σ H s) (D : DnAt X.prog X.w H a ents) (n : Nk H k (.ref b)) (dp : k.depth ≤ 8)
    (h : ∀ s2, Inv X pins σ (upd H a (dnO X.prog X.w a (putN ents k b))) s2 → Q () s2) : wpAny (model X.prog X.w) X.A (setItem (.ref a) (.ref b) r) Q E s := by
  obtain ⟨xs, e, ns, dd⟩ := dn_of I.hok D
  have few : xs.length ≤ sizeLine := by
    have e2 : xs.length = ents.length := by rw [← e, List.length_map]
    rw [e2, sizeLine_eq]
    have := D.len
    omega
  refine wpAny_setItem_heap (knd := nestedKind X.prog X.w) (k := k) (hsz := few) (in1_room room) ⟨nk_is I.hok _ _ _ n rfl, dp⟩ dd fun g dd2 same => h _ ?_
  obtain ⟨o, es, ep, h1, h2, h3, h4, _, _⟩ := dd2
  have mu : Mut (H a) := by
    rcases D.at_ with q | ⟨q, _⟩ <;> rw [q] <;> exact True.intro
  refine d_write I mu same ⟨o, h1⟩ ⟨⟨_, o, es, ep, h1, h2, h3, h4, by rw [keys_put, e], ns⟩, ⟨o, h1⟩, fun g1 g2 z st => ?_⟩
  obtain ⟨ys, o, es, ep, z1, z2⟩ := z
  exact ⟨ys, o, es, ep, st _ z1, z2⟩
/-- d[k] = v, d keyed by tuples within tuples -/
def sNPut (P : Program) (w : World) (td ty tv : TE) : TS := fun D σ H => tv σ H fun _ H1 => td σ H1 fun x H2 => ty σ H2 fun y H3 => ∃ (a b : Addr) (ents : List (NestedKey × Addr)) (k : NestedKey), x = .ref a ∧ y = .ref b ∧ DnAt P w H3 a ents ∧ Nk H3 k (.ref b) ∧ k.depth ≤ 8 ∧ D.nx σ (upd H3 a (dnO P w a (putN ents k b)))
theorem ps_nput {o i value : Expr} {td ty tv : TE} {p1 pos : Pos} (room : X.A.units + 16 < cLine) (ho : PE X o td) (hi : PE X i ty) (hv : PE X value tv) (one : swapsWith value (some (.Subscript o i p1)) pos.line X.env = pure false) :
    PS X (.Assign [.Subscript o i p1] value pos) (sNPut X.prog X.w td ty tv) := by
  refine ⟨fun pins s σ H D I h => wpAny_Assign_Subscript (thn (hv.run pins s σ H _ I h) fun r s1 ⟨_, H1, I1, _, q1⟩ => thn (ho.run pins s1 σ H1 _ I1 q1) fun u s2 ⟨x, H2, I2, rx, q2⟩ => thn (hi.run pins s2 σ H2 _ I2 q2) fun iv s3 ⟨y, H3, I3, ry, a, b, ents, k, ex, ey, dn, nk, dp, q⟩ => ?_) one⟩
  subst ex ey
  cases rx; cases ry
  exact n_setItem room I3 dn nk dp fun s4 I4 => ⟨σ, _, I4, q⟩
end
section
variable {P : Program} {w : World} {H : Hp} {a b : Addr} {o : HO} {ents : List (NestedKey × Addr)} {k : NestedKey}
mutual
theorem Nk.upd (no : ∀ xs, H a ≠ some (.tup xs)) : ∀ (k : NestedKey) (x : V), Nk H k x → Nk (upd H a o) k x
  | .none, _, n => by cases n; exact .non
  | .num _, _, n => by cases n; exact .int _
  | .text _, _, n => by cases n; exact .str _
  | .tup ks, _, n => by
    cases n with
    | tup at_ all => exact .tup ((upd_ne fun e => no _ (e ▸ at_)).trans at_) (NkA.upd no ks _ all)
theorem NkA.upd (no : ∀ xs, H a ≠ some (.tup xs)) : ∀ (ks : List NestedKey) (xs : List V), NkA H ks xs → NkA (upd H a o) ks xs
  | [], _, n => by cases n; exact .nil
  | k :: ks, _, n => by
    cases n with
    | cons n1 n2 => exact .cons (Nk.upd no k _ n1) (NkA.upd no ks _ n2)
end
theorem DnAt.no (D : DnAt P w H a ents) (xs : List V) : H a ≠ some (.tup xs) := fun e => by
  rcases D.at_ with q | ⟨q, _⟩
  · have z : dnO P w a ents = HO.tup xs := Option.some.inj (q.symm.trans e)
    have z : HO.ext _ = HO.tup xs := z
    cases z
  · rw [q] at e; cases e
/-- what stands in it behind the writing -/
theorem DnAt.put (D : DnAt P w H a ents) (n : Nk H k (.ref b)) (dp : k.depth ≤ 8) (few : ents.length < 100000) : DnAt P w (L2.upd H a (dnO P w a (putN ents k b))) a (putN ents k b) := by
  refine ⟨.inl upd_same, ?_, ?_, fun p hp => ?_⟩
  · unfold putN
    split
    · exact D.len
    · rw [List.length_append]; exact few
  · unfold putN
    split
    · exact D.nd
    · next q =>
      rw [List.map_append]
      exact List.nodup_append.mpr ⟨D.nd, (List.nodup_cons.mpr ⟨List.not_mem_nil, List.nodup_nil⟩), fun x hx y hy e => q (by
        rw [List.map_singleton, List.mem_singleton] at hy
        have hy : y = k := hy
        rw [← hy, ← e]; exact hx)⟩
  · have old : ∀ p ∈ ents, Nk (L2.upd H a (dnO P w a (putN ents k b))) p.1 (.ref p.2) ∧ p.1.depth ≤ 8 := fun p hp => ⟨Nk.upd D.no _ _ (D.keys p hp).1, (D.keys p hp).2⟩
    unfold putN at hp
    split at hp
    · exact old p hp
    · rcases List.mem_append.mp hp with hp | hp
      · exact old p hp
      · rw [List.mem_singleton.mp hp]
        exact ⟨Nk.upd D.no _ _ n, dp⟩
end
end Vw

set_option Elab.async false
set_option linter.all false
set_option maxRecDepth 100000
set_option maxHeartbeats 4000000
namespace Vw
open PySem PySem.Spec PyProof.Rows L2 RT
local macro_rules | `(tactic| walk_at "s") => `(tactic| with_reducible first
  | refine' s_seq ?_ | refine' s_next ?_ | refine' s_set ?_ | refine' s_ret ?_ | refine' s_retN ?_ | refine' s_drop ?_ | refine' s_if ?_ | refine' s_ipI ?_
  | refine' e_c ?_ | refine' e_op ?_ | refine' e_un ?_ | refine' e_neg ?_ | refine' e_test ?_ | refine' e_tB ?_ | refine' e_bl ?_ | refine' e_and ?_ | refine' e_or ?_ | refine' e_not ?_
  | refine' e_andV ?_ | refine' e_orV ?_ | refine' e_notV ?_ | refine' e_kV ?_ | refine' e_ife ?_ | refine' e_nil ?_ | refine' e_cons ?_ | refine' e_cb ?_ | refine' e_call ?_ | refine' e_chain ?_
  | refine' o_addI ?_ | refine' o_eqI ?_ | refine' o_neI ?_ | refine' o_I0 ?_ | refine' o_pow16 ?_ | refine' o_pow17 ?_ | refine' o_pow18 ?_ | refine' o_pow19 ?_ | refine' o_pow30 ?_ | refine' o_pow31 ?_ | refine' o_pow1 ?_ | refine' o_pow2 ?_ | refine' o_pow3 ?_ | refine' o_pow4 ?_ | refine' o_pow5 ?_ | refine' o_pow6 ?_ | refine' o_pow9 ?_ | refine' o_pow10 ?_ | refine' o_pow12 ?_ | refine' o_pow15 ?_ | refine' o_pow20 ?_ | refine' e_lst ?_ | refine' e_tup ?_ | refine' iteT ?_ | refine' i_nt ?_ | refine' i_nf ?_ | refine' iteF ?_ | refine' c_int ?_ | refine' c_abs ?_ | refine' c_min2 ?_ | refine' c_max2 ?_ | refine' e_tru ?_ | refine' t_bl ?_ | refine' t_non ?_ | refine' t_int ?_ | refine' isN_non ?_ | refine' isN_int ?_ | refine' isN_ref ?_ | refine' isN_str ?_ | refine' isN_bl ?_ | refine' noN_non ?_ | refine' noN_int ?_ | refine' noN_ref ?_ | refine' noN_str ?_ | refine' noN_bl ?_
  | refine' s_brk ?_ | refine' s_cont ?_ | refine' s_for ?_ | refine' e_lc ?_ | refine' e_dc ?_ | refine' e_yes ?_ | refine' i_rng1 ?_ | refine' i_lst0 ?_ | refine' i_tup0 ?_ | refine' e_bm ?_ | refine' e_sl ?_ | refine' e_np ?_ | refine' e_pt ?_ | refine' e_ptI ?_ | refine' e_din ?_ | refine' e_dnin ?_ | refine' e_methE ?_ | refine' p_cons ?_ | refine' p_nil ?_ | refine' s_dput ?_ | refine' e_dget2 ?_ | refine' e_dpop1 ?_ | refine' i_enum0 ?_ | refine' i_rev0 ?_ | refine' g_sub ?_ | refine' s_asg ?_ | refine' i_zip0 ?_ | refine' e_revT ?_ | refine' isB_bl ?_ | refine' notB_bl ?_ | refine' o_neB ?_ | refine' i_nrr ?_ | refine' e_meth ?_ | refine' s_setf ?_ | refine' e_fld ?_ | refine' e_bm0 ?_ | refine' r_tx ?_ | refine' o_eqStr ?_ | refine' o_neStr ?_)
local macro_rules | `(tactic| walk_at "v") => `(tactic| ((with_reducible refine' e_var ?hv ?_); (case hv => exact rfl)))
local macro_rules | `(tactic| walk_at "a") => `(tactic| ((with_reducible refine' s_aug ?hv ?_); (case hv => exact rfl)))
local macro_rules | `(tactic| walk_at "m") => `(tactic| first
  | ((with_reducible refine' o_mod ?hv ?_); (case hv => first | decide | omega))
  | ((with_reducible refine' o_mulR ?hv ?_); (case hv => omega))
  | ((with_reducible refine' o_mulL ?hv ?_); (case hv => omega))
  | ((with_reducible refine' o_div ?hv ?hw ?_); (case hv => omega); (case hw => omega))
  | ((with_reducible refine' o_pow _ ?hv ?hw ?hx ?_); (case hv => exact rfl); (case hw => decide); (case hx => decide)))
local macro_rules | `(tactic| walk_at "i") => `(tactic| (first
  | ((with_reducible refine' isi_int true ?hv ?_); (case hv => exact (by decide +kernel)))
  | ((with_reducible refine' isi_int false ?hv ?_); (case hv => exact (by decide +kernel)))
  | ((with_reducible refine' isi_non true ?hv ?_); (case hv => exact (by decide +kernel)))
  | ((with_reducible refine' isi_non false ?hv ?_); (case hv => exact (by decide +kernel)))
  | ((with_reducible refine' isi_str true ?hv ?_); (case hv => exact (by decide +kernel)))
  | ((with_reducible refine' isi_str false ?hv ?_); (case hv => exact (by decide +kernel)))
  | ((with_reducible refine' isi_bl true ?hv ?_); (case hv => exact (by decide +kernel)))
  | ((with_reducible refine' isi_bl false ?hv ?_); (case hv => exact (by decide +kernel)))
  | ((with_reducible refine' isi_t true ?hw ?hv ?_); (case hw => assumption); (case hv => exact (by decide +kernel)))
  | ((with_reducible refine' isi_t false ?hw ?hv ?_); (case hw => assumption); (case hv => exact (by decide +kernel)))
  | ((with_reducible refine' isi_l true ?hw ?hv ?_); (case hw => assumption); (case hv => exact (by decide +kernel)))
  | ((with_reducible refine' isi_l false ?hw ?hv ?_); (case hw => assumption); (case hv => exact (by decide +kernel)))
  | ((with_reducible refine' isi_tup true ?hw ?hv ?_); (case hw => assumption); (case hv => exact (by decide +kernel)))
  | ((with_reducible refine' isi_tup false ?hw ?hv ?_); (case hw => assumption); (case hv => exact (by decide +kernel)))
  | ((with_reducible refine' isi_lst true ?hw ?hv ?_); (case hw => assumption); (case hv => exact (by decide +kernel)))
  | ((with_reducible refine' isi_lst false ?hw ?hv ?_); (case hw => assumption); (case hv => exact (by decide +kernel)))))
local macro_rules | `(tactic| walk_at "om") => `(tactic| first | omega | (simp only [List.length_cons, List.length_nil, List.length_map, List.length_append, List.length_range]; omega))
local macro_rules | `(tactic| walk_at "d") => `(tactic| (first
  | ((with_reducible refine' i_dt ?hv ?_); (case hv => walk_at "om"))
  | ((with_reducible refine' i_df ?hv ?_); (case hv => walk_at "om"))
  | ((with_reducible refine' i_ndt ?hv ?_); (case hv => walk_at "om"))
  | ((with_reducible refine' i_ndf ?hv ?_); (case hv => walk_at "om"))))
local macro_rules | `(tactic| walk_at "x") => `(tactic| first
  | ((with_reducible refine' o_ixA ?hv ?hw ?_); (case hv => assumption); (case hw => exact rfl))
  | ((with_reducible refine' o_ixU ?hv ?hw ?_); (case hv => assumption); (case hw => exact rfl))
  | ((with_reducible refine' o_ixL ?hv ?hw ?_); (case hv => assumption); (case hw => exact rfl))
  | ((with_reducible refine' o_ixT ?hv ?hw ?_); (case hv => assumption); (case hw => exact rfl))
  | ((with_reducible refine' set_ ?hv ?hw ?_); (case hv => assumption); (case hw => exact rfl))
  | ((with_reducible refine' e_lenM ?hv ?_); (case hv => first | assumption | exact slO (by assumption)))
  | ((with_reducible refine' e_lenN ?hv ?_); (case hv => first | assumption | exact stO (by assumption)))
  | ((with_reducible refine' e_lenL ?hv ?_); (case hv => first | assumption | exact slO (by assumption)))
  | ((with_reducible refine' e_lenT ?hv ?_); (case hv => first | assumption | exact stO (by assumption))))
local macro_rules | `(tactic| walk_at "c") => `(tactic| first
  | ((with_reducible refine' c_listL ?hv ?_); (case hv => assumption))
  | ((with_reducible refine' c_listT ?hv ?_); (case hv => assumption))
  | ((with_reducible refine' c_tupL ?hv ?_); (case hv => first | assumption | exact slO (by assumption)))
  | ((with_reducible refine' c_tupT ?hv ?_); (case hv => assumption))
  | ((with_reducible refine' t_lst ?hv ?_); (case hv => first | assumption | exact slO (by assumption)))
  | ((with_reducible refine' t_tup ?hv ?_); (case hv => assumption))
  | ((with_reducible refine' r_sl ?hv ?_); (case hv => first | assumption | exact slO (by assumption)))
  | ((with_reducible refine' o_inL ?hv ?_); (case hv => first | assumption | exact slO (by assumption)))
  | ((with_reducible refine' o_inT ?hv ?_); (case hv => first | assumption | exact stO (by assumption)))
  | ((with_reducible refine' o_niL ?hv ?_); (case hv => first | assumption | exact slO (by assumption)))
  | ((with_reducible refine' o_niT ?hv ?_); (case hv => first | assumption | exact stO (by assumption)))
  | ((with_reducible refine' ty_lst ?hv ?_); (case hv => assumption)))
local macro_rules | `(tactic| walk_at "mo") => `(tactic| repeat' (first | exact m_yes | exact m_var | exact m_c | exact m_I0 | exact m_I | exact m_ix | exact m_add | exact m_in | exact m_int1 | exact m_abs | exact m_nil | refine' m_and ?_ ?_ | refine' m_test ?_ | refine' m_tB ?_ | refine' m_op ?_ ?_ ?_ | refine' m_cons ?_ ?_ | refine' m_cb ?_ ?_))
local macro_rules | `(tactic| walk_at "go") => `(tactic| repeat' (first | walk_at "s" | walk_at "v" | walk_at "a" | walk_at "x" | walk_at "m" | walk_at "c" | walk_at "i" | walk_at "d"))

def topS (i : Nat) : Stmt := PySem.Challenge.pw_wholeways_k29_whole_transactions_over_a.main.body.getD i (.Pass ⟨0, 0, 0, 0⟩)
abbrev s_wall : Stmt := (topS 0)
abbrev n_wall : List Str := ["k"]
theorem sc_wall : FnScope n_wall ["k"] (defScope s_wall) := ⟨rfl, rfl, rfl, by decide +kernel, rfl, by decide +kernel, by decide +kernel⟩
abbrev s_StoreError_init : Stmt := (inClass (topS 2) 0)
abbrev n_StoreError_init : List Str := ["self"]
theorem sc_StoreError_init : FnScope n_StoreError_init ["self"] (defScope s_StoreError_init) := ⟨rfl, rfl, rfl, by decide +kernel, rfl, by decide +kernel, by decide +kernel⟩
abbrev s_is_integer : Stmt := (topS 9)
abbrev n_is_integer : List Str := ["thing"]
theorem sc_is_integer : FnScope n_is_integer ["thing"] (defScope s_is_integer) := ⟨rfl, rfl, rfl, by decide +kernel, rfl, by decide +kernel, by decide +kernel⟩
abbrev s_is_within : Stmt := (topS 10)
abbrev n_is_within : List Str := ["thing", "low", "high"]
theorem sc_is_within : FnScope n_is_within ["thing", "low", "high"] (defScope s_is_within) := ⟨rfl, rfl, rfl, by decide +kernel, rfl, by decide +kernel, by decide +kernel⟩
abbrev s_is_word : Stmt := (topS 11)
abbrev n_is_word : List Str := ["thing"]
theorem sc_is_word : FnScope n_is_word ["thing"] (defScope s_is_word) := ⟨rfl, rfl, rfl, by decide +kernel, rfl, by decide +kernel, by decide +kernel⟩
abbrev s_is_key : Stmt := (topS 12)
abbrev n_is_key : List Str := ["thing"]
theorem sc_is_key : FnScope n_is_key ["thing"] (defScope s_is_key) := ⟨rfl, rfl, rfl, by decide +kernel, rfl, by decide +kernel, by decide +kernel⟩
abbrev s_is_worth : Stmt := (topS 13)
abbrev n_is_worth : List Str := ["thing"]
theorem sc_is_worth : FnScope n_is_worth ["thing"] (defScope s_is_worth) := ⟨rfl, rfl, rfl, by decide +kernel, rfl, by decide +kernel, by decide +kernel⟩
abbrev s_need_key : Stmt := (topS 15)
abbrev n_need_key : List Str := ["key"]
theorem sc_need_key : FnScope n_need_key ["key"] (defScope s_need_key) := ⟨rfl, rfl, rfl, by decide +kernel, rfl, by decide +kernel, by decide +kernel⟩
abbrev s_Transaction_init : Stmt := (inClass (topS 17) 0)
abbrev n_Transaction_init : List Str := ["self", "snapshot", "look", "walk"]
theorem sc_Transaction_init : FnScope n_Transaction_init ["self", "snapshot", "look", "walk"] (defScope s_Transaction_init) := ⟨rfl, rfl, rfl, by decide +kernel, rfl, by decide +kernel, by decide +kernel⟩
abbrev s_Transaction_stands_at : Stmt := (inClass (topS 17) 1)
abbrev n_Transaction_stands_at : List Str := ["self"]
theorem sc_Transaction_stands_at : FnScope n_Transaction_stands_at ["self"] (defScope s_Transaction_stands_at) := ⟨rfl, rfl, rfl, by decide +kernel, rfl, by decide +kernel, by decide +kernel⟩
abbrev s_Transaction_get : Stmt := (inClass (topS 17) 2)
abbrev n_Transaction_get : List Str := ["self", "key", "look", "worth"]
theorem sc_Transaction_get : FnScope n_Transaction_get ["self", "key"] (defScope s_Transaction_get) := ⟨rfl, rfl, rfl, by decide +kernel, rfl, by decide +kernel, by decide +kernel⟩
abbrev s_Transaction_between : Stmt := (inClass (topS 17) 3)
abbrev n_Transaction_between : List Str := ["self", "low", "high", "walk", "found", "own", "key"]
theorem sc_Transaction_between : FnScope n_Transaction_between ["self", "low", "high"] (defScope s_Transaction_between) := ⟨rfl, rfl, rfl, by decide +kernel, rfl, by decide +kernel, by decide +kernel⟩
abbrev s_Transaction_put : Stmt := (inClass (topS 17) 4)
abbrev n_Transaction_put : List Str := ["self", "key", "worth"]
theorem sc_Transaction_put : FnScope n_Transaction_put ["self", "key", "worth"] (defScope s_Transaction_put) := ⟨rfl, rfl, rfl, by decide +kernel, rfl, by decide +kernel, by decide +kernel⟩
abbrev s_Transaction_drop : Stmt := (inClass (topS 17) 5)
abbrev n_Transaction_drop : List Str := ["self", "key"]
theorem sc_Transaction_drop : FnScope n_Transaction_drop ["self", "key"] (defScope s_Transaction_drop) := ⟨rfl, rfl, rfl, by decide +kernel, rfl, by decide +kernel, by decide +kernel⟩
abbrev s_Transaction_end : Stmt := (inClass (topS 17) 6)
abbrev n_Transaction_end : List Str := ["self"]
theorem sc_Transaction_end : FnScope n_Transaction_end ["self"] (defScope s_Transaction_end) := ⟨rfl, rfl, rfl, by decide +kernel, rfl, by decide +kernel, by decide +kernel⟩
abbrev s_Transaction_is_open : Stmt := (inClass (topS 17) 7)
abbrev n_Transaction_is_open : List Str := ["self"]
theorem sc_Transaction_is_open : FnScope n_Transaction_is_open ["self"] (defScope s_Transaction_is_open) := ⟨rfl, rfl, rfl, by decide +kernel, rfl, by decide +kernel, by decide +kernel⟩
abbrev s_Transaction_also_saw : Stmt := (inClass (topS 17) 8)
abbrev n_Transaction_also_saw : List Str := ["self", "keys", "ranges"]
theorem sc_Transaction_also_saw : FnScope n_Transaction_also_saw ["self", "keys", "ranges"] (defScope s_Transaction_also_saw) := ⟨rfl, rfl, rfl, by decide +kernel, rfl, by decide +kernel, by decide +kernel⟩
abbrev s_Transaction_saw_keys : Stmt := (inClass (topS 17) 9)
abbrev n_Transaction_saw_keys : List Str := ["self"]
theorem sc_Transaction_saw_keys : FnScope n_Transaction_saw_keys ["self"] (defScope s_Transaction_saw_keys) := ⟨rfl, rfl, rfl, by decide +kernel, rfl, by decide +kernel, by decide +kernel⟩
abbrev s_Transaction_saw_ranges : Stmt := (inClass (topS 17) 10)
abbrev n_Transaction_saw_ranges : List Str := ["self"]
theorem sc_Transaction_saw_ranges : FnScope n_Transaction_saw_ranges ["self"] (defScope s_Transaction_saw_ranges) := ⟨rfl, rfl, rfl, by decide +kernel, rfl, by decide +kernel, by decide +kernel⟩
abbrev s_Transaction_wrote : Stmt := (inClass (topS 17) 11)
abbrev n_Transaction_wrote : List Str := ["self"]
theorem sc_Transaction_wrote : FnScope n_Transaction_wrote ["self"] (defScope s_Transaction_wrote) := ⟨rfl, rfl, rfl, by decide +kernel, rfl, by decide +kernel, by decide +kernel⟩
abbrev s_Transaction_dealing : Stmt := (inClass (topS 17) 12)
abbrev n_Transaction_dealing : List Str := ["self", "number"]
theorem sc_Transaction_dealing : FnScope n_Transaction_dealing ["self", "number"] (defScope s_Transaction_dealing) := ⟨rfl, rfl, rfl, by decide +kernel, rfl, by decide +kernel, by decide +kernel⟩
abbrev s_Transaction__need_under_way : Stmt := (inClass (topS 17) 13)
abbrev n_Transaction__need_under_way : List Str := ["self"]
theorem sc_Transaction__need_under_way : FnScope n_Transaction__need_under_way ["self"] (defScope s_Transaction__need_under_way) := ⟨rfl, rfl, rfl, by decide +kernel, rfl, by decide +kernel, by decide +kernel⟩
abbrev s_law_hand : Stmt := (topS 19)
abbrev n_law_hand : List Str := ["script", "cells", "cell"]
theorem sc_law_hand : FnScope n_law_hand ["script"] (defScope s_law_hand) := ⟨rfl, rfl, rfl, by decide +kernel, rfl, by decide +kernel, by decide +kernel⟩
abbrev s_law_draw : Stmt := (topS 20)
abbrev n_law_draw : List Str := ["hand", "many", "cell", "digit", "number"]
theorem sc_law_draw : FnScope n_law_draw ["hand", "many"] (defScope s_law_draw) := ⟨rfl, rfl, rfl, by decide +kernel, rfl, by decide +kernel, by decide +kernel⟩
abbrev s_law_any : Stmt := (topS 21)
abbrev n_law_any : List Str := ["hand", "some"]
theorem sc_law_any : FnScope n_law_any ["hand", "some"] (defScope s_law_any) := ⟨rfl, rfl, rfl, by decide +kernel, rfl, by decide +kernel, by decide +kernel⟩
abbrev s_law_key : Stmt := (topS 22)
abbrev n_law_key : List Str := ["hand"]
theorem sc_law_key : FnScope n_law_key ["hand"] (defScope s_law_key) := ⟨rfl, rfl, rfl, by decide +kernel, rfl, by decide +kernel, by decide +kernel⟩
abbrev s_law_worth : Stmt := (topS 23)
abbrev n_law_worth : List Str := ["hand"]
theorem sc_law_worth : FnScope n_law_worth ["hand"] (defScope s_law_worth) := ⟨rfl, rfl, rfl, by decide +kernel, rfl, by decide +kernel, by decide +kernel⟩
abbrev s_law_snapshot : Stmt := (topS 24)
abbrev n_law_snapshot : List Str := ["hand", "found", "turn"]
theorem sc_law_snapshot : FnScope n_law_snapshot ["hand"] (defScope s_law_snapshot) := ⟨rfl, rfl, rfl, by decide +kernel, rfl, by decide +kernel, by decide +kernel⟩
abbrev s_law_walked : Stmt := (topS 25)
abbrev n_law_walked : List Str := ["state", "low", "high", "key"]
theorem sc_law_walked : FnScope n_law_walked ["state", "low", "high"] (defScope s_law_walked) := ⟨rfl, rfl, rfl, by decide +kernel, rfl, by decide +kernel, by decide +kernel⟩
abbrev s_law_made_over : Stmt := (topS 26)
abbrev n_law_made_over : List Str := ["state", "number"]
theorem sc_law_made_over : FnScope n_law_made_over ["state", "number"] (defScope s_law_made_over) := ⟨rfl, rfl, rfl, by decide +kernel, rfl, by decide +kernel, by decide +kernel⟩
abbrev s_law : Stmt := (topS 27)
abbrev n_law : List Str := ["script", "hand", "turn", "number", "state", "kept", "plain", "one", "again", "kind", "key", "other", "told"]
theorem sc_law : FnScope n_law ["script"] (defScope s_law) := ⟨rfl, rfl, rfl, by decide +kernel, rfl, by decide +kernel, by decide +kernel⟩
structure Txt (K : PySem.W.Frag) (mg : Str → Option Value) where
  is_integer : DefAt K mg "is_integer" "is_integer" s_is_integer ["thing"]
  is_within : DefAt K mg "is_within" "is_within" s_is_within ["thing", "low", "high"]
  is_word : DefAt K mg "is_word" "is_word" s_is_word ["thing"]
  is_key : DefAt K mg "is_key" "is_key" s_is_key ["thing"]
  is_worth : DefAt K mg "is_worth" "is_worth" s_is_worth ["thing"]
  need_key : DefAt K mg "need_key" "need_key" s_need_key ["key"]
  law_hand : DefAt K mg "_law_hand" "_law_hand" s_law_hand ["script"]
  law_draw : DefAt K mg "_law_draw" "_law_draw" s_law_draw ["hand", "many"]
  law_any : DefAt K mg "_law_any" "_law_any" s_law_any ["hand", "some"]
  law_key : DefAt K mg "_law_key" "_law_key" s_law_key ["hand"]
  law_worth : DefAt K mg "_law_worth" "_law_worth" s_law_worth ["hand"]
  law_snapshot : DefAt K mg "_law_snapshot" "_law_snapshot" s_law_snapshot ["hand"]
  law_walked : DefAt K mg "_law_walked" "_law_walked" s_law_walked ["state", "low", "high"]
  law_made_over : DefAtL K mg "_law_made_over" "_law_made_over" s_law_made_over ["state", "number"]
  C_Transaction : Addr
  k_Transaction : ClsAt K mg "Transaction" C_Transaction
  m_Transaction_init : MethAt K C_Transaction "__init__" "Transaction.__init__" s_Transaction_init ["self", "snapshot", "look", "walk"]
  m_Transaction_stands_at : MethAt K C_Transaction "stands_at" "Transaction.stands_at" s_Transaction_stands_at ["self"]
  m_Transaction_get : MethAt K C_Transaction "get" "Transaction.get" s_Transaction_get ["self", "key"]
  m_Transaction_between : MethAt K C_Transaction "between" "Transaction.between" s_Transaction_between ["self", "low", "high"]
  m_Transaction_put : MethAt K C_Transaction "put" "Transaction.put" s_Transaction_put ["self", "key", "worth"]
  m_Transaction_drop : MethAt K C_Transaction "drop" "Transaction.drop" s_Transaction_drop ["self", "key"]
  m_Transaction_end : MethAt K C_Transaction "end" "Transaction.end" s_Transaction_end ["self"]
  m_Transaction_is_open : MethAt K C_Transaction "is_open" "Transaction.is_open" s_Transaction_is_open ["self"]
  m_Transaction__need_under_way : MethAt K C_Transaction "_need_under_way" "Transaction._need_under_way" s_Transaction__need_under_way ["self"]
  m_StoreError_init : InitAt K "__init__" "StoreError.__init__" s_StoreError_init ["self"]
  vV : PySem.W.findCls K (.type "ValueError") (.type "type") "__init__" = some (.val (.builtin "ValueError.__init__"))
  e_NoKey : ExcAt K mg "NoKey" m_StoreError_init.f
  e_Ended : ExcAt K mg "Ended" m_StoreError_init.f
  e_NoWorth : ExcAt K mg "NoWorth" m_StoreError_init.f
  n_Transaction__snapshot : NoAttr K C_Transaction "_snapshot"
  n_Transaction__look : NoAttr K C_Transaction "_look"
  n_Transaction__walk : NoAttr K C_Transaction "_walk"
  n_Transaction__is_over : NoAttr K C_Transaction "_is_over"
  n_Transaction__own : NoAttr K C_Transaction "_own"
  n_Transaction__keys : NoAttr K C_Transaction "_keys"
  n_Transaction__ranges : NoAttr K C_Transaction "_ranges"
  dst : ([law_made_over.P] : List Addr).Nodup
  z_ValueError : mg "ValueError" = none
  z_abs : mg "abs" = none
  z_bool : mg "bool" = none
  z_dict : mg "dict" = none
  z_int : mg "int" = none
  z_isinstance : mg "isinstance" = none
  z_len : mg "len" = none
  z_list : mg "list" = none
  z_range : mg "range" = none
  z_sorted : mg "sorted" = none
  z_str : mg "str" = none
  z_tuple : mg "tuple" = none
  c_GREATEST_WORTH : CAt mg "GREATEST_WORTH" (.int (1000000000000000000))
  c_LONGEST_WORD : CAt mg "LONGEST_WORD" (.int (12))
abbrev tabsL {K : PySem.W.Frag} {mg : Str → Option Value} (T : Txt K mg) : List (Addr × Str) := [(T.law_made_over.P, (("_law_made_over" : Str) ++ ".<locals>.") ++ "<lambda>")]
theorem tabsM_law_made_over {K : PySem.W.Frag} {mg : Str → Option Value} (T : Txt K mg) : (T.law_made_over.P, (("_law_made_over" : Str) ++ ".<locals>.") ++ "<lambda>") ∈ tabsL T := .head _



section
variable {P : Program} {w : World} {K : PySem.W.Frag} {mg : Str → Option Value} {base : Heap}
theorem ok_StoreError_init (M : InitAt K "__init__" "StoreError.__init__" s_StoreError_init ["self"]) (z : mg "ValueError" = none) (vV : PySem.W.findCls K (.type "ValueError") (.type "type") "__init__" = some (.val (.builtin "ValueError.__init__"))) : FnOk P w K mg base CX0 1 M.f M.fd ["self"] (sp_exc_init K) := by
  refine M.F.ok sc_StoreError_init (fun vs H Q E h => ?_) (fun cdv A outer s H vs Q E hr h => ?_)
  · obtain ⟨a, C, rfl, _⟩ := h
    rfl
  · obtain ⟨a, C, rfl, o, ha, k⟩ := h
    exact ⟨_, pss_one (ps_expr (pe_veinit (by rfl) z vV (pa_cons (pv 0) pa_nil))), _, rfl, a, C, [], rfl, by decide, o, ha, k⟩
end



section
variable {P : Program} {w : World} {K : PySem.W.Frag} {mg : Str → Option Value} {base : Heap}
/-! ### kinds of numbers -/
abbrev isI : V → Bool
  | .int _ => true
  | _ => false
abbrev isN : V → Bool
  | .int i => decide (0 ≤ i)
  | _ => false
abbrev plainV : V → Bool
  | .int _ => true | .non => true | .bl _ => true | .str _ => true
  | _ => false
abbrev within (x : V) (lo hi : Int) : Bool := match x with
  | .int i => decide (lo ≤ i) && decide (i ≤ hi)
  | _ => false
abbrev markB : V → Bool
  | .non => true
  | x => within x (-1000000000000000000) 1000000000000000000
/-- something that is no scalar: a tuple (b), or something else -/
structure Kd (K : PySem.W.Frag) (H : Hp) (v : V) (b : Bool) : Prop where
  ex : ∃ (a : Addr) (t : Value), v = .ref a ∧ TyX K H v t ∧ PySem.W.kitOne K t (.type "int") = some false ∧ PySem.W.kitOne K t (.type "bool") = some false ∧ PySem.W.kitOne K t (.type "str") = some false ∧ PySem.W.kitOne K t (.type "tuple") = some b
theorem Kd.tup {H : Hp} {a : Addr} {xs : List V} (h : SqT K H a xs) : Kd K H (.ref a) true := ⟨a, _, rfl, tyx_st h, kit_ty (by decide +kernel), kit_ty (by decide +kernel), kit_ty (by decide +kernel), kit_ty (by decide +kernel)⟩
theorem Kd.lst {H : Hp} {a : Addr} {xs : List V} (h : H a = some (.lst xs)) : Kd K H (.ref a) false := ⟨a, _, rfl, .base (.lst h), kit_ty (by decide +kernel), kit_ty (by decide +kernel), kit_ty (by decide +kernel), kit_ty (by decide +kernel)⟩
theorem Kd.dct {H : Hp} {a : Addr} {kvs : List (Key × V)} (h : H a = some (.dK kvs)) : Kd K H (.ref a) false := ⟨a, _, rfl, .base (.dK h), kit_ty (by decide +kernel), kit_ty (by decide +kernel), kit_ty (by decide +kernel), kit_ty (by decide +kernel)⟩
section
variable {H : Hp} {v : V} {b : Bool} {Q : VK}
theorem Kd.int (h : Kd K H v b) (q : Q (.bl false) H) : rIsi K [v, .ty "int"] H Q := by
  obtain ⟨a, t, rfl, ty, h1, h2, h3, h4⟩ := h
  exact ⟨_, _, t, _, false, rfl, .ty _, ty, h1, q⟩
theorem Kd.str (h : Kd K H v b) (q : Q (.bl false) H) : rIsi K [v, .ty "str"] H Q := by
  obtain ⟨a, t, rfl, ty, h1, h2, h3, h4⟩ := h
  exact ⟨_, _, t, _, false, rfl, .ty _, ty, h3, q⟩
theorem Kd.tpl (h : Kd K H v b) (q : Q (.bl b) H) : rIsi K [v, .ty "tuple"] H Q := by
  obtain ⟨a, t, rfl, ty, h1, h2, h3, h4⟩ := h
  exact ⟨_, _, t, _, b, rfl, .ty _, ty, h4, q⟩
theorem Kd.ref (h : Kd K H v b) : ∃ a, v = .ref a := by
  obtain ⟨a, _, e, _⟩ := h.ex
  exact ⟨a, e⟩
end
/-- a scalar, or anything else -/
def Od (K : PySem.W.Frag) (H : Hp) (v : V) : Prop := plainV v = true ∨ ∃ b, Kd K H v b
def OdS (K : PySem.W.Frag) (H : Hp) (v : V) : Prop := (match v with | .str z => decide (z.length ≤ 100000) | x => plainV x) = true ∨ ∃ b, Kd K H v b
def sp_is_integer (K : PySem.W.Frag) : Sp := fun vs H Q _ => ∃ x, vs = [x] ∧ Od K H x ∧ Q (.bl (isI x)) H
theorem ok_is_integer (T : Txt K mg) : FnOk P w K mg base CX0 1 T.is_integer.f T.is_integer.fd ["thing"] (sp_is_integer K) := by
  refine T.is_integer.F.ok sc_is_integer (fun vs H Q E h => ?_) (fun cdv A outer s H vs Q E hr h => ?_)
  · obtain ⟨x, rfl, _⟩ := h
    rfl
  · obtain ⟨x, rfl, hp, k⟩ := h
    refine ⟨_, (pss_one (ps_ret (pe_and (pe_callB (cIsi (K := K)) (by rfl) T.z_isinstance (by decide +kernel) (pa_cons (pv 0) (pa_cons (pe_bltn (v := .ty "int") (by rfl) T.z_int (by decide +kernel) rfl) pa_nil))) (pe_one (pe_not (pe_callB (cIsi (K := K)) (by rfl) T.z_isinstance (by decide +kernel) (pa_cons (pv 0) (pa_cons (pe_bltn (v := .ty "bool") (by rfl) T.z_bool (by decide +kernel) rfl) pa_nil)))))))), ?_⟩
    rcases hp with hp | ⟨b, hp⟩
    rotate_left 1
    · walk_at "go"
      refine hp.int ?_
      obtain ⟨a, rfl⟩ := hp.ref
      walk_at "go"
      exact k
    cases x with
    | int a => walk_at "go"; exact k
    | non => walk_at "go"; exact k
    | bl b => walk_at "go"; exact k
    | str z => walk_at "go"; exact k
    | _ => cases hp
def sp_is_within (K : PySem.W.Frag) : Sp := fun vs H Q _ => ∃ x lo hi, vs = [x, .int lo, .int hi] ∧ Od K H x ∧ Q (.bl (within x lo hi)) H
theorem ok_is_within (T : Txt K mg) : FnOk P w K mg base CX0 2 T.is_within.f T.is_within.fd ["thing", "low", "high"] (sp_is_within K) := by
  refine T.is_within.F.ok sc_is_within (fun vs H Q E h => ?_) (fun cdv A outer s H vs Q E hr h => ?_)
  · obtain ⟨x, lo, hi, rfl, _⟩ := h
    rfl
  · obtain ⟨x, lo, hi, rfl, hp, k⟩ := h
    refine ⟨_, (pss_one (ps_ret (pe_and (pe_call (ok_is_integer T) (hr.mono (by decide)) (by rfl) T.is_integer.g T.is_integer.F.kp T.is_integer.b .nil pass0 (pa_cons (pv 0) pa_nil)) (pe_one (pe_chain op_le op_le (pv 1) (pv 0) (pv 2)))))), ?_⟩
    walk_at "go"
    refine ⟨x, rfl, hp, ?_⟩
    rcases hp with hp | ⟨b, hp⟩
    rotate_left 1
    · obtain ⟨a, rfl⟩ := hp.ref
      walk_at "go"
      exact k
    cases x with
    | int a =>
      walk_at "go"
      refine i_d (fun h1 => ?_) (fun h1 => ?_)
      · walk_at "go"
        simpa [within, h1] using k
      · walk_at "go"
        simpa [within, h1] using k
    | non => walk_at "go"; exact k
    | bl b => walk_at "go"; exact k
    | str z => walk_at "go"; exact k
    | _ => cases hp
/-! ### words and items -/
def wordB (z : Str) : Bool := decide (z.length ≤ 12) && (decide (z = "") || (Txt.isascii z && (Txt.isalpha z && Txt.islower z)))
abbrev smallV (x : V) : Bool := match x with
  | .str z => decide (z.length ≤ 100000)
  | x => plainV x
theorem small_plain {x : V} (h : smallV x = true) : plainV x = true := by
  cases x <;> first | rfl | exact h
abbrev isW : V → Bool
  | .str z => wordB z
  | _ => false
theorem OdS.od {H : Hp} {v : V} (h : OdS K H v) : Od K H v := h.imp (fun h => small_plain h) id
def sp_is_word (K : PySem.W.Frag) : Sp := fun vs H Q _ => ∃ x, vs = [x] ∧ OdS K H x ∧ Q (.bl (isW x)) H
theorem ok_is_word (T : Txt K mg) : FnOk P w K mg base CX0 1 T.is_word.f T.is_word.fd ["thing"] (sp_is_word K) := by
  refine T.is_word.F.ok sc_is_word (fun vs H Q E h => ?_) (fun cdv A outer s H vs Q E hr h => ?_)
  · obtain ⟨x, rfl, _⟩ := h
    rfl
  · obtain ⟨x, rfl, hp, k⟩ := h
    refine ⟨_, (pss_cons (ps_if (PW.pt (pw_or (pt_not (ptTruth (K := K) (pe_callB (cIsi (K := K)) (by rfl) T.z_isinstance (by decide +kernel) (pa_cons (pv 0) (pa_cons (pe_bltn (v := .ty "str") (by rfl) T.z_str (by decide +kernel) rfl) pa_nil))) (by intro _; rfl))) (pw_or1 (pt_cmpR op_gt (pe_callB (cLen (K := K)) (by rfl) T.z_len PySem.boot_len (pa_cons (pv 0) pa_nil)) (pe_glob (by rfl) T.c_LONGEST_WORD.h T.c_LONGEST_WORD.r) (nomark _))))) (pss_one (ps_ret pe_bl)) pss_nil)
    (pss_one (ps_ret (pe_or (pe_cmpR (oEq (K := K) hr.units) (pv 0) pe_str (nomark _)) (pe_one (pe_and (peIsascii (K := K) (pv 0)) (pe_and (peIsalpha (K := K) (pv 0)) (pe_one (peIslower (K := K) (pv 0)))))))))), ?_⟩
    rcases hp with hp | ⟨b, hp⟩
    rotate_left 1
    · walk_at "go"
      refine hp.str ?_
      obtain ⟨a, rfl⟩ := hp.ref
      walk_at "go"
      exact k
    cases x with
    | int a => walk_at "go"; exact k
    | non => walk_at "go"; exact k
    | bl b => walk_at "go"; exact k
    | str z =>
      have hz : z.length ≤ 100000 := of_decide_eq_true hp
      walk_at "go"
      refine e_lenS hz ?_
      walk_at "go"
      have k : Q (.bl (wordB z)) H := k
      unfold wordB at k
      refine i_d (fun q => ?_) (fun q => ?_)
      · rw [decide_eq_false (show ¬ z.length ≤ 12 by omega)] at k
        walk_at "go"
        exact k
      · rw [decide_eq_true (show z.length ≤ 12 by omega), Bool.true_and] at k
        walk_at "go"
        refine i_d (fun q2 => ?_) (fun q2 => ?_)
        · rw [decide_eq_true q2, Bool.true_or] at k
          walk_at "go"
          exact k
        · rw [decide_eq_false q2, Bool.false_or] at k
          walk_at "go"
          cases e1 : Txt.isascii z with
          | false =>
            rw [e1] at k
            walk_at "go"
            exact k
          | true =>
            rw [e1, Bool.true_and] at k
            walk_at "go"
            cases e2 : Txt.isalpha z with
            | false =>
              rw [e2] at k
              walk_at "go"
              exact k
            | true =>
              rw [e2, Bool.true_and] at k
              walk_at "go"
              exact k
    | _ => cases hp
abbrev isK : V → Bool
  | .str z => wordB z && !decide (z = "")
  | _ => false
def sp_is_key (K : PySem.W.Frag) : Sp := fun vs H Q _ => ∃ x, vs = [x] ∧ OdS K H x ∧ Q (.bl (isK x)) H
theorem ok_is_key (T : Txt K mg) : FnOk P w K mg base CX0 2 T.is_key.f T.is_key.fd ["thing"] (sp_is_key K) := by
  refine T.is_key.F.ok sc_is_key (fun vs H Q E h => ?_) (fun cdv A outer s H vs Q E hr h => ?_)
  · obtain ⟨x, rfl, _⟩ := h
    rfl
  · obtain ⟨x, rfl, hp, k⟩ := h
    refine ⟨_, (pss_one (ps_ret (pe_and (pe_call (ok_is_word T) (hr.mono (by decide)) (by rfl) T.is_word.g T.is_word.F.kp T.is_word.b .nil pass0 (pa_cons (pv 0) pa_nil)) (pe_one (pe_cmpR (oNe (K := K) hr.units) (pv 0) pe_str (nomark _)))))), ?_⟩
    walk_at "go"
    refine ⟨x, rfl, hp, ?_⟩
    rcases hp with hp | ⟨b, hp⟩
    rotate_left 1
    · obtain ⟨a, rfl⟩ := hp.ref
      walk_at "go"
      exact k
    cases x with
    | int a => walk_at "go"; exact k
    | non => walk_at "go"; exact k
    | bl b => walk_at "go"; exact k
    | str z =>
      walk_at "go"
      have k : Q (.bl (wordB z && !decide (z = ""))) H := k
      cases e1 : wordB z with
      | false =>
        rw [e1] at k
        rw [show isW (V.str z) = false from e1]
        exact k
      | true =>
        rw [e1, Bool.true_and] at k
        rw [show isW (V.str z) = true from e1, if_pos rfl]
        walk_at "go"
        rw [decide_not]
        exact k
    | _ => cases hp
def sp_is_worth (K : PySem.W.Frag) : Sp := fun vs H Q _ => ∃ x, vs = [x] ∧ Od K H x ∧ Q (.bl (within x (-1000000000000000000) 1000000000000000000)) H
theorem ok_is_worth (T : Txt K mg) : FnOk P w K mg base CX0 3 T.is_worth.f T.is_worth.fd ["thing"] (sp_is_worth K) := by
  refine T.is_worth.F.ok sc_is_worth (fun vs H Q E h => ?_) (fun cdv A outer s H vs Q E hr h => ?_)
  · obtain ⟨x, rfl, _⟩ := h
    rfl
  · obtain ⟨x, rfl, hp, k⟩ := h
    refine ⟨_, (pss_one (ps_ret (pe_call (ok_is_within T) (hr.mono (by decide)) (by rfl) T.is_within.g T.is_within.F.kp T.is_within.b .nil pass0 (pa_cons (pv 0) (pa_cons (pe_un un_neg (pe_glob (by rfl) T.c_GREATEST_WORTH.h T.c_GREATEST_WORTH.r)) (pa_cons (pe_glob (by rfl) T.c_GREATEST_WORTH.h T.c_GREATEST_WORTH.r) pa_nil)))))), ?_⟩
    walk_at "go"
    exact ⟨x, _, _, rfl, hp, k⟩
def sp_need_key (T : Txt K mg) : Sp := fun vs H Q E => ∃ x, vs = [x] ∧ OdS K H x ∧ (isK x = true → Q .non H) ∧ (isK x = false → E (.ref T.e_NoKey.C) none H)
theorem ok_need_key (T : Txt K mg) : FnOk P w K mg base (L2.CX P w) 3 T.need_key.f T.need_key.fd ["key"] (sp_need_key T) := by
  refine T.need_key.F.okX sc_need_key (fun vs H Q E h => ?_) (fun cdv A outer s H vs Q E hr h => ?_)
  · obtain ⟨x, rfl, _⟩ := h
    rfl
  · obtain ⟨x, rfl, hp, k1, k2⟩ := h
    refine ⟨_, (pss_one (ps_if (pt_not (ptTruth (K := K) (pe_call (ok_is_key T) (hr.mono (by decide)) (by rfl) T.is_key.g T.is_key.F.kp T.is_key.b .nil pass0 (pa_cons (pv 0) pa_nil)) (by intro _; rfl))) (pss_one (ps_raise rfl (takes_of rfl rfl rfl rfl) (pmk_oexN T.e_NoKey.o T.e_NoKey.i T.e_NoKey.t (ok_StoreError_init T.m_StoreError_init T.z_ValueError T.vV) (hr.mono (by decide)) T.m_StoreError_init.b pass0 (by rfl) T.e_NoKey.g))) pss_nil)), ?_⟩
    walk_at "go"
    refine ⟨x, rfl, hp, ?_⟩
    walk_at "go"
    cases e : isK x with
    | true =>
      walk_at "go"
      exact k1 e
    | false =>
      walk_at "go"
      exact e_raise T.e_NoKey.o (k2 e)
end



section
variable {P : Program} {w : World} {K : PySem.W.Frag} {mg : Str → Option Value} {base : Heap}
/-! ### the hand that draws -/
/-- its list, the list of cells, the cells -/
structure Bg where
  hd : Addr
  g : Addr
  ns : List Int
def BagAt (K : PySem.W.Frag) (H : Hp) (B : Bg) : Prop := ∃ i big mix c : Int, H B.hd = some (.lst [.ref B.g, .int i, .int big, .int mix, .int c]) ∧ H B.g = some (.lst (B.ns.map V.int)) ∧ B.g ≠ B.hd ∧ B.ns.length ≤ 63 ∧ (∀ z ∈ B.ns, 0 ≤ z) ∧ 0 ≤ i ∧ 0 ≤ big ∧ 0 ≤ mix ∧ mix < 2147483648 ∧ 0 ≤ c
structure Hs (K : PySem.W.Frag) (B : Bg) (H H' : Hp) : Prop where
  o : Oth B.hd H H'
  b : BagAt K H' B
theorem Hs.trans {B : Bg} {H H1 H2 : Hp} (a : Hs K B H H1) (b : Hs K B H1 H2) : Hs K B H H2 := ⟨a.o.trans b.o, b.b⟩
theorem bag_same {B : Bg} {H H' : Hp} (b : BagAt K H B) (s : Same H H') : BagAt K H' B := by
  obtain ⟨i, big, x, c, h1, h2, h3⟩ := b
  exact ⟨i, big, x, c, s _ _ h1, s _ _ h2, h3⟩
theorem Hs.of {B : Bg} {H H' : Hp} (b : BagAt K H B) (s : Same H H') : Hs K B H H' := ⟨fun c o _ h => s c o h, bag_same b s⟩
theorem Hs.sl {B : Bg} {a : Addr} {H H' : Hp} {xs : List V} (h : Hs K B H H') (n : a ≠ B.hd) (s : SqL K H a xs) : SqL K H' a xs := oth_sl h.o n s
theorem bag_lst {B : Bg} {H : Hp} (b : BagAt K H B) : ∃ xs, H B.hd = some (.lst xs) := by
  obtain ⟨i, big, x, c, h1, h2, h3⟩ := b
  exact ⟨_, h1⟩
theorem Hs.st {B : Bg} {a : Addr} {H H' : Hp} {xs : List V} (h : Hs K B H H') (b : BagAt K H B) (s : SqT K H a xs) : SqT K H' a xs := by
  obtain ⟨ys, q⟩ := bag_lst b
  exact oth_st h.o q s
theorem Hs.ls {B : Bg} {a : Addr} {H H' : Hp} {xs : List V} (h : Hs K B H H') (n : a ≠ B.hd) (s : H a = some (.lst xs)) : H' a = some (.lst xs) := h.o _ _ n s
theorem new_ne {B : Bg} {p : Addr} {H : Hp} (b : BagAt K H B) (n : H p = none) : p ≠ B.hd := by
  obtain ⟨xs, h⟩ := bag_lst b
  exact (ne_of_none h n).symm
theorem Hs.free {B : Bg} {p : Addr} {H H' : Hp} (h : Hs K B H H') (n : H' p = none) : H p = none := by
  cases e : H p with
  | none => rfl
  | some o =>
    by_cases z : p = B.hd
    · obtain ⟨xs, q⟩ := bag_lst h.b
      rw [← z, n] at q; cases q
    · rw [h.o p o z e] at n; cases n
/-- an object of one's own, not there at H, may change -/
theorem Hs.mut {B : Bg} {f : Addr} {H H3 H4 : Hp} (h : Hs K B H H3) (b : BagAt K H B) (n : H f = none) (o : Oth f H3 H4) : Hs K B H H4 := by
  refine ⟨fun c u nc z => o c u (ne_of_none z n) (h.o c u nc z), ?_⟩
  obtain ⟨i, big, x, c, h1, h2, h3⟩ := b
  obtain ⟨i', big', x', c', g1, g2, g3⟩ := h.b
  exact ⟨i', big', x', c', o _ _ (ne_of_none h1 n) g1, o _ _ (ne_of_none h2 n) g2, g3⟩
def sp_hand (K : PySem.W.Frag) : Sp := fun vs H Q _ => ∃ a, ∃ ns : List Int, vs = [.ref a] ∧ SqL K H a (ns.map V.int) ∧ ns.length ≤ 63 ∧ ∀ (B : Bg) H', H B.hd = none → Same H H' → BagAt K H' B → Q (.ref B.hd) H'
theorem ok_law_hand (T : Txt K mg) : FnOk P w K mg base CX0 1 T.law_hand.f T.law_hand.fd ["script"] (sp_hand K) := by
  refine T.law_hand.F.ok sc_law_hand (fun vs H Q E h => ?_) (fun cdv A outer s H vs Q E hr h => ?_)
  · obtain ⟨a, ns, rfl, _⟩ := h
    rfl
  · obtain ⟨a, ns, rfl, hS, hl, k⟩ := h
    refine ⟨_, (pss_cons (ps_setLc (i := 1) (own := [("cell", 2)]) rfl sc_law_hand.nd rfl rfl (sw_true rfl rfl rfl (by decide +kernel)) (piL (K := K) (pe_slice (slL (K := K)) (pv 0) po_none (po_some pe_int))) (blkOk_by (N := n_law_hand) (sc := defScope s_law_hand) (by decide +kernel)) (fun _ _ _ _ _ => (pg_name (i := 2) sc_law_hand.nd rfl (Or.inl rfl))) (fun _ _ _ _ _ => pts_nil) (fun _ _ _ _ _ => (pe_callB cAbs (by rfl) T.z_abs (by decide +kernel) (pa_cons (pe_callTy cInt (by rfl) T.z_int (by decide +kernel) (pa_cons (pv 2) pa_nil)) pa_nil))))
    (pss_one (ps_ret (pe_lst (pa_cons (pv 1) (pa_cons pe_int (pa_cons pe_int (pa_cons (pe_op oAdd pe_int (pe_callB (cLen (K := K)) (by rfl) T.z_len PySem.boot_len (pa_cons (pv 1) pa_nil))) (pa_cons pe_int pa_nil))))))))), ?_⟩
    walk_at "go"
    refine n_new0 fun p1 H1 n1 s1 h1 => ?_
    obtain ⟨ms, e1, e2, _⟩ := cut_map (f := V.int) ns none (some 63)
    rw [e1] at h1
    refine i_lst (slO h1) ?_
    refine c_lst (xs := ms.map V.int) (fun i acc H' => Same H1 H' ∧ acc = ((ms.take i).map fun z => if z < 0 then -z else z).map V.int) (fun D hD => ⟨upd_free (Same.refl _) hD, rfl⟩) (fun i acc H' hi p => slO (at_ p.1 h1)) (fun acc D H2 hD hp p => ?_) (fun _ => rfl) (fun i x acc H' D hx hD hp p => ?_)
    · obtain ⟨s2, rfl⟩ := p
      rw [List.length_map, List.take_length] at hp
      walk_at "go"
      refine n_new (le_size (by simp)) fun p3 H3 n3 s3 h3 => ?_
      have ss := s1.trans s2
      rw [List.length_map] at h3
      refine k ⟨p3, D, ms.map fun z => if z < 0 then -z else z⟩ H3 (free_ ss n3) (ss.trans s3) ⟨0, 0, 1 + (ms.length : Nat), 0, h3, at_ s3 hp, ne_new hp n3, by show (List.map _ ms).length ≤ 63; rw [List.length_map]; omega, fun z hz => ?_, by omega, by omega, by omega, by omega, by omega⟩
      obtain ⟨y, _, e⟩ := List.mem_map.mp hz
      rw [← e]; split <;> omega
    · obtain ⟨s2, rfl⟩ := p
      have hi : i < ms.length := by
        have := (List.getElem?_eq_some_iff.mp hx).1
        simpa using this
      have ex : x = .int ms[i] := by
        rw [List.getElem?_map, List.getElem?_eq_getElem hi] at hx
        exact (Option.some.inj hx).symm
      subst ex
      walk_at "go"
      refine ⟨_, hp, lt_size (by simp; omega), _, upd_same, upd_free s2 hD, ?_⟩
      rw [List.take_add_one, List.getElem?_eq_getElem hi, List.map_append, List.map_append]; rfl
def sp_draw (K : PySem.W.Frag) : Sp := fun vs H Q _ => ∃ (B : Bg) (m : Int), vs = [.ref B.hd, .int m] ∧ BagAt K H B ∧ 0 < m ∧ m < 2 ^ 100 ∧ ∀ r H', 0 ≤ r → r < m → Hs K B H H' → Q (.int r) H'
theorem ok_law_draw (T : Txt K mg) : FnOk P w K mg base CX0 1 T.law_draw.f T.law_draw.fd ["hand", "many"] (sp_draw K) := by
  refine T.law_draw.F.ok sc_law_draw (fun vs H Q E h => ?_) (fun cdv A outer s H vs Q E hr h => ?_)
  · obtain ⟨a, b, rfl, _⟩ := h
    rfl
  · obtain ⟨⟨hd, g, ns⟩, m, rfl, ⟨i, big, mix, c, h1, h2, h3, h4, hn, h5, h6, h7, h8, h9⟩, hm, hM, k⟩ := h
    dsimp only at h1 h2 h3 h4 hn k ⊢
    refine ⟨_, (Evl.pss_cut (ps_if (PW.pt (pw_and (pt_cmpR (oEq (K := K) hr.units) (pe_ix (ixLT (K := K)) (pv 0) pe_int (fun _ _ => rfl)) pe_int (nomark _)) (pw_and1 (pt_cmpR oLt (pe_ix (ixLT (K := K)) (pv 0) pe_int (fun _ _ => rfl)) (pe_callB (cLen (K := K)) (by rfl) T.z_len PySem.boot_len (pa_cons (pe_ix (ixLT (K := K)) (pv 0) pe_int (fun _ _ => rfl)) pa_nil)) (nomark _))))) (pss_cons (ps_set (i := 2) sc_law_draw.nd rfl (Or.inl rfl) (pe_ix (ixLT (K := K)) (pe_ix (ixLT (K := K)) (pv 0) pe_int (fun _ _ => rfl)) (pe_ix (ixLT (K := K)) (pv 0) pe_int (fun _ _ => rfl)) (fun _ _ => rfl)))
    (pss_cons (ps_asg (pe_op oAdd (pe_ix (ixLT (K := K)) (pv 0) pe_int (fun _ _ => rfl)) pe_int) (pg_sub (pv 0) pe_int set_list))
    (pss_cons (ps_asg (pe_op op_mod (pe_callTy cInt (by rfl) T.z_int (by decide +kernel) (pa_cons (pe_op oAdd (pe_op oAdd (pe_op oMul (pe_ix (ixLT (K := K)) (pv 0) pe_int (fun _ _ => rfl)) pe_int) (pv 2)) pe_int) pa_nil)) pe_int) (pg_sub (pv 0) pe_int set_list))
    (pss_one (ps_if (pt_cmpR op_ge (pv 2) (pe_op op_pow pe_int pe_int) (nomark _)) (pss_one (ps_asg (pv 2) (pg_sub (pv 0) pe_int set_list))) pss_nil))))) pss_nil)
    (pss_cons (ps_if (pt_cmpR op_gt (pe_ix (ixLT (K := K)) (pv 0) pe_int (fun _ _ => rfl)) pe_int (nomark _)) (pss_cons (ps_set (i := 3) sc_law_draw.nd rfl (Or.inl rfl) (pe_op op_mod (pe_callTy cInt (by rfl) T.z_int (by decide +kernel) (pa_cons (pe_ix (ixLT (K := K)) (pv 0) pe_int (fun _ _ => rfl)) pa_nil)) (pv 1)))
    (pss_cons (ps_asg (pe_op op_fdivW (pe_ix (ixLT (K := K)) (pv 0) pe_int (fun _ _ => rfl)) (pv 1)) (pg_sub (pv 0) pe_int set_list))
    (pss_one (ps_ret (pv 3))))) pss_nil)
    (pss_cons (ps_asg (pe_op oAdd (pe_ix (ixLT (K := K)) (pv 0) pe_int (fun _ _ => rfl)) pe_int) (pg_sub (pv 0) pe_int set_list))
    (pss_cons (ps_set (i := 4) sc_law_draw.nd rfl (Or.inl rfl) (pe_op op_mod (pe_callTy cInt (by rfl) T.z_int (by decide +kernel) (pa_cons (pe_op oMul (pe_callTy cInt (by rfl) T.z_int (by decide +kernel) (pa_cons (pe_op oAdd (pe_ix (ixLT (K := K)) (pv 0) pe_int (fun _ _ => rfl)) (pe_op oMul pe_int (pe_ix (ixLT (K := K)) (pv 0) pe_int (fun _ _ => rfl)))) pa_nil)) pe_int) pa_nil)) pe_int))
    (pss_cons (ps_set (i := 4) sc_law_draw.nd rfl (Or.inl rfl) (pe_op op_mod (pe_callTy cInt (by rfl) T.z_int (by decide +kernel) (pa_cons (pe_op oMul (pv 4) (pe_op oAdd (pe_op op_fdivW (pv 4) pe_int) pe_int)) pa_nil)) pe_int))
    (pss_cons (ps_set (i := 4) sc_law_draw.nd rfl (Or.inl rfl) (pe_op op_mod (pe_callTy cInt (by rfl) T.z_int (by decide +kernel) (pa_cons (pe_op oMul (pv 4) (pe_op oAdd (pe_op op_fdivW (pv 4) pe_int) pe_int)) pa_nil)) pe_int))
    (pss_one (ps_ret (pe_op op_mod (pe_callTy cInt (by rfl) T.z_int (by decide +kernel) (pa_cons (pe_op op_fdivW (pv 4) pe_int) pa_nil)) (pv 1)))))))))), ?_⟩
    walk_at "go"
    refine s_cut (fun σ2 H2 => Oth hd H H2 ∧ ∃ i' big' mix' : Int, ∃ y2, σ2 = [some (.ref hd), some (.int m), y2, none, none] ∧ H2 hd = some (.lst [.ref g, .int i', .int big', .int mix', .int c]) ∧ 0 ≤ i' ∧ 0 ≤ big' ∧ 0 ≤ mix' ∧ mix' < 2147483648) ?_ ?_
    · walk_at "go"
      have self : Oth hd H H := fun _ _ _ z => z
      refine i_d (fun q1 => ?_) (fun q1 => ?_)
      · walk_at "go"
        refine i_d (fun q2 => ?_) (fun q2 => ?_)
        · walk_at "go"
          have hj : i.toNat < ns.length := by omega
          refine o_ixL (slO h2) (atI_map i.toNat (by omega) hj) ?_
          have c0 := hn _ (getD_mem hj)
          generalize ns.getD i.toNat 0 = cell at *
          walk_at "go"
          intro H1 o1 e1
          walk_at "go"
          intro H2 o2 e2
          have m0 : 0 ≤ (mix * 69621 + cell + 11) % 2147483629 := Int.emod_nonneg _ (by omega)
          have m1 : (mix * 69621 + cell + 11) % 2147483629 < 2147483629 := Int.emod_lt_of_pos _ (by omega)
          generalize (mix * 69621 + cell + 11) % 2147483629 = mix2 at *
          walk_at "go"
          refine i_d (fun q3 => ?_) (fun q3 => ?_)
          · walk_at "go"
            intro H3 o3 e3
            exact ⟨o1.trans (o2.trans o3), i + 1, cell, mix2, _, rfl, e3, by omega, by omega, by omega, by omega⟩
          · walk_at "go"
            exact ⟨o1.trans o2, i + 1, big, mix2, _, rfl, e2, by omega, by omega, by omega, by omega⟩
        · walk_at "go"
          exact ⟨self, i, big, mix, none, rfl, h1, h5, h6, h7, h8⟩
      · walk_at "go"
        exact ⟨self, i, big, mix, none, rfl, h1, h5, h6, h7, h8⟩
    · rintro σ2 H2 ⟨o1, i', big', mix', y2, rfl, e1, g5, g6, g7, g8⟩
      have g1 : H2 g = some (.lst (ns.map V.int)) := o1 _ _ h3 h2
      clear h1 h5 h6 h7 h8
      walk_at "go"
      refine i_d (fun q1 => ?_) (fun q1 => ?_)
      · walk_at "go"
        intro H3 o3 e3
        walk_at "go"
        exact k _ _ (Int.emod_nonneg _ (by omega)) (Int.emod_lt_of_pos _ hm) ⟨o1.trans o3, i', big' / m, mix', c, e3, o3 _ _ h3 g1, h3, h4, hn, g5, Int.ediv_nonneg g6 (by omega), g7, g8, h9⟩
      · walk_at "go"
        intro H3 o3 e3
        walk_at "go"
        exact k _ _ (Int.emod_nonneg _ (by omega)) (Int.emod_lt_of_pos _ hm) ⟨o1.trans o3, i', big', mix', c + 1, e3, o3 _ _ h3 g1, h3, h4, hn, g5, g6, g7, g8, by omega⟩
def sp_any (K : PySem.W.Frag) : Sp := fun vs H Q _ => ∃ (B : Bg) (a : Addr) (xs : List V), vs = [.ref B.hd, .ref a] ∧ BagAt K H B ∧ SqL K H a xs ∧ a ≠ B.hd ∧ 0 < xs.length ∧ xs.length < 100000 ∧ ∀ x H', x ∈ xs → Hs K B H H' → Q x H'
theorem ok_law_any (T : Txt K mg) : FnOk P w K mg base CX0 2 T.law_any.f T.law_any.fd ["hand", "some"] (sp_any K) := by
  refine T.law_any.F.ok sc_law_any (fun vs H Q E h => ?_) (fun cdv A outer s H vs Q E hr h => ?_)
  · obtain ⟨B, a, xs, rfl, _⟩ := h
    rfl
  · obtain ⟨B, a, xs, rfl, b, hS, ha, h0, h1, k⟩ := h
    refine ⟨_, (pss_one (ps_ret (pe_ix (ixLT (K := K)) (pv 1) (pe_call (ok_law_draw T) (hr.mono (by decide)) (by rfl) T.law_draw.g T.law_draw.F.kp T.law_draw.b .nil pass0 (pa_cons (pv 0) (pa_cons (pe_callB (cLen (K := K)) (by rfl) T.z_len PySem.boot_len (pa_cons (pv 1) pa_nil)) pa_nil))) (fun _ _ => rfl)))), ?_⟩
    walk_at "go"
    refine ⟨B, _, rfl, b, by omega, by omega, fun r H1 r0 r1 hs => ?_⟩
    have hj : r.toNat < xs.length := by omega
    refine o_ixL (hs.sl ha hS) (atI_in (j := r.toNat) (by omega) (List.getElem?_eq_getElem hj)) ?_
    walk_at "go"
    exact k _ H1 (List.getElem_mem hj) hs
end



section
variable {P : Program} {w : World} {K : PySem.W.Frag} {mg : Str → Option Value} {base : Heap}
/-! ### a transaction's fields -/
def tf (n : Int) (l wk : Addr) (b : Bool) (o ky rg : Addr) : List (Str × V) := [("_snapshot", .int n), ("_look", .ref l), ("_walk", .ref wk), ("_is_over", .bl b), ("_own", .ref o), ("_keys", .ref ky), ("_ranges", .ref rg)]
section
variable (n : Int) (l wk o ky rg : Addr) (b c : Bool)
theorem tf_n : (tf n l wk b o ky rg).lookup ("_snapshot" : Str) = some (V.int n) := rfl
theorem tf_l : (tf n l wk b o ky rg).lookup ("_look" : Str) = some (V.ref l) := rfl
theorem tf_w : (tf n l wk b o ky rg).lookup ("_walk" : Str) = some (V.ref wk) := rfl
theorem tf_b : (tf n l wk b o ky rg).lookup ("_is_over" : Str) = some (V.bl b) := rfl
theorem tf_o : (tf n l wk b o ky rg).lookup ("_own" : Str) = some (V.ref o) := rfl
theorem tf_k : (tf n l wk b o ky rg).lookup ("_keys" : Str) = some (V.ref ky) := rfl
theorem tf_r : (tf n l wk b o ky rg).lookup ("_ranges" : Str) = some (V.ref rg) := rfl
theorem tf_pb : putF "_is_over" (.bl c) (tf n l wk b o ky rg) = tf n l wk c o ky rg := rfl
theorem tf_new : putF "_ranges" (.ref rg) (putF "_keys" (.ref ky) (putF "_own" (.ref o) (putF "_is_over" (.bl b) (putF "_walk" (.ref wk) (putF "_look" (.ref l) (putF "_snapshot" (.int n) [])))))) = tf n l wk b o ky rg := rfl
theorem tf_no {m : Str} (h : ((["_snapshot", "_look", "_walk", "_is_over", "_own", "_keys", "_ranges"] : List Str)).contains m = false) : (tf n l wk b o ky rg).lookup m = none := by
  unfold tf
  simp only [List.contains_cons, List.contains_nil, Bool.or_false, Bool.or_eq_false_iff] at h
  simp only [List.lookup, h.1, h.2.1, h.2.2.1, h.2.2.2.1, h.2.2.2.2.1, h.2.2.2.2.2.1, h.2.2.2.2.2.2]
end
/-- a transaction's own object -/
structure Tr where
  n : Int
  l : Addr
  wk : Addr
  b : Bool
  o : Addr
  ky : Addr
  rg : Addr
abbrev Tr.fs (t : Tr) : List (Str × V) := tf t.n t.l t.wk t.b t.o t.ky t.rg
def sp_stands_at (C : Addr) : Sp := fun vs H Q _ => ∃ p t, vs = [.ref p] ∧ InsAt C H p (Tr.fs t) ∧ Q (.int t.n) H
theorem ok_Transaction_stands_at (T : Txt K mg) : FnOk P w K mg base CX0 1 T.m_Transaction_stands_at.f T.m_Transaction_stands_at.fd ["self"] ((sp_stands_at T.C_Transaction)) := by
  refine T.m_Transaction_stands_at.F.ok sc_Transaction_stands_at (fun vs H Q E h => ?_) (fun cdv A outer s H vs Q E hr h => ?_)
  · obtain ⟨p, t, rfl, _⟩ := h
    rfl
  · obtain ⟨p, t, rfl, h, k⟩ := h
    refine ⟨_, (pss_one (ps_ret (peFld (K := K) (pv 0) rfl))), ?_⟩
    walk_at "go"
    refine o_fld h T.k_Transaction.cl T.n_Transaction__snapshot (tf_n _ _ _ _ _ _ _) ?_
    exact k
def sp_is_open (C : Addr) : Sp := fun vs H Q _ => ∃ p t, vs = [.ref p] ∧ InsAt C H p (Tr.fs t) ∧ Q (.bl (!t.b)) H
theorem ok_Transaction_is_open (T : Txt K mg) : FnOk P w K mg base CX0 1 T.m_Transaction_is_open.f T.m_Transaction_is_open.fd ["self"] ((sp_is_open T.C_Transaction)) := by
  refine T.m_Transaction_is_open.F.ok sc_Transaction_is_open (fun vs H Q E h => ?_) (fun cdv A outer s H vs Q E hr h => ?_)
  · obtain ⟨p, t, rfl, _⟩ := h
    rfl
  · obtain ⟨p, t, rfl, h, k⟩ := h
    refine ⟨_, (pss_one (ps_ret (pe_not (peFld (K := K) (pv 0) rfl)))), ?_⟩
    walk_at "go"
    refine o_fld h T.k_Transaction.cl T.n_Transaction__is_over (tf_b _ _ _ _ _ _ _) ?_
    walk_at "go"
    exact k
def sp_under_way (T : Txt K mg) : Sp := fun vs H Q E => ∃ p t, vs = [.ref p] ∧ InsAt T.C_Transaction H p (Tr.fs t) ∧ (t.b = false → Q .non H) ∧ (t.b = true → E (.ref T.e_Ended.C) none H)
theorem ok_Transaction__need_under_way (T : Txt K mg) : FnOk P w K mg base (L2.CX P w) 3 T.m_Transaction__need_under_way.f T.m_Transaction__need_under_way.fd ["self"] ((sp_under_way T)) := by
  refine T.m_Transaction__need_under_way.F.okX sc_Transaction__need_under_way (fun vs H Q E h => ?_) (fun cdv A outer s H vs Q E hr h => ?_)
  · obtain ⟨p, t, rfl, _⟩ := h
    rfl
  · obtain ⟨p, t, rfl, h, k1, k2⟩ := h
    refine ⟨_, (pss_one (ps_if (pt_val (peFld (K := K) (pv 0) rfl)) (pss_one (ps_raise rfl (takes_of rfl rfl rfl rfl) (pmk_oexN T.e_Ended.o T.e_Ended.i T.e_Ended.t (ok_StoreError_init T.m_StoreError_init T.z_ValueError T.vV) (hr.mono (by decide)) T.m_StoreError_init.b pass0 (by rfl) T.e_Ended.g))) pss_nil)), ?_⟩
    walk_at "go"
    refine o_fld h T.k_Transaction.cl T.n_Transaction__is_over (tf_b _ _ _ _ _ _ _) ?_
    walk_at "go"
    cases e : t.b with
    | true =>
      walk_at "go"
      exact e_raise T.e_Ended.o (k2 e)
    | false =>
      walk_at "go"
      exact k1 e
def sp_end (T : Txt K mg) : Sp := fun vs H Q E => ∃ p t, vs = [.ref p] ∧ InsAt T.C_Transaction H p (Tr.fs t) ∧ (t.b = false → ∀ H', Oth p H H' → InsAt T.C_Transaction H' p (Tr.fs { t with b := true }) → Q .non H') ∧ (t.b = true → E (.ref T.e_Ended.C) none H)
theorem ok_Transaction_end (T : Txt K mg) : FnOk P w K mg base (L2.CX P w) 4 T.m_Transaction_end.f T.m_Transaction_end.fd ["self"] ((sp_end T)) := by
  refine T.m_Transaction_end.F.okX sc_Transaction_end (fun vs H Q E h => ?_) (fun cdv A outer s H vs Q E hr h => ?_)
  · obtain ⟨p, t, rfl, _⟩ := h
    rfl
  · obtain ⟨p, t, rfl, h, k1, k2⟩ := h
    refine ⟨_, (pss_cons (ps_expr (pe_meth0 (pv 0) T.k_Transaction.cl T.m_Transaction__need_under_way.i (ok_Transaction__need_under_way T) (hr.mono (by decide)) T.m_Transaction__need_under_way.b .nil (passes_call (takes_of rfl rfl rfl rfl) (fun _ _ _ _ h => h))))
    (pss_one (psFld (K := K) (pv 0) pe_bl rfl))), ?_⟩
    walk_at "go"
    refine m_call0 h (tf_no _ _ _ _ _ _ _ (by decide +kernel)) ?_
    refine ⟨p, t, rfl, h, fun e => ?_, k2⟩
    walk_at "go"
    obtain ⟨dx, hob⟩ := h
    refine s_fld rfl hob T.k_Transaction.cl T.n_Transaction__is_over (by show 7 < 1000; decide) ?_
    rw [tf_pb]
    exact k1 e _ (fun b o n z => (upd_ne n).trans z) ⟨dx, upd_same⟩
end



section
variable {P : Program} {w : World} {K : PySem.W.Frag} {mg : Str → Option Value} {base : Heap}
theorem isK_str {v : V} (h : isK v = true) : ∃ x : Str, v = .str x := by
  cases v with
  | str x => exact ⟨x, rfl⟩
  | _ => cases h
abbrev isWo (v : V) : Bool := within v (-1000000000000000000) 1000000000000000000
def sp_put (K : PySem.W.Frag) (T : Txt K mg) : Sp := fun vs H Q E => ∃ (p : Addr) (t : Tr) (vx vy : V) (own : List (Key × V)), vs = [.ref p, vx, vy] ∧ InsAt T.C_Transaction H p (Tr.fs t) ∧ OdS K H vx ∧ Od K H vy ∧ H t.o = some (.dK own) ∧ own.length < 100000 ∧
  (t.b = true → E (.ref T.e_Ended.C) none H) ∧ (t.b = false → isK vx = false → E (.ref T.e_NoKey.C) none H) ∧ (t.b = false → isK vx = true → isWo vy = false → E (.ref T.e_NoWorth.C) none H) ∧
  (t.b = false → isWo vy = true → ∀ x, vx = .str x → isK vx = true → ∀ H', Oth t.o H H' → H' t.o = some (.dK (putK own (Sum.inr x) vy)) → Q .non H')
theorem ok_Transaction_put (T : Txt K mg) : FnOk P w K mg base (L2.CX P w) 4 T.m_Transaction_put.f T.m_Transaction_put.fd ["self", "key", "worth"] ((sp_put K T)) := by
  refine T.m_Transaction_put.F.okX sc_Transaction_put (fun vs H Q E h => ?_) (fun cdv A outer s H vs Q E hr h => ?_)
  · obtain ⟨p, t, vx, vy, own, rfl, _⟩ := h
    rfl
  · obtain ⟨p, t, vx, vy, own, rfl, h, hx, hy, ho, hl, k1, k2, k3, k4⟩ := h
    refine ⟨_, (pss_cons (ps_expr (pe_meth0 (pv 0) T.k_Transaction.cl T.m_Transaction__need_under_way.i (ok_Transaction__need_under_way T) (hr.mono (by decide)) T.m_Transaction__need_under_way.b .nil (passes_call (takes_of rfl rfl rfl rfl) (fun _ _ _ _ h => h))))
    (pss_cons (ps_expr (pe_call (ok_need_key T) (hr.mono (by decide)) (by rfl) T.need_key.g T.need_key.F.kp T.need_key.b .nil (passes_call (takes_of rfl rfl rfl rfl) (fun _ _ _ _ h => h)) (pa_cons (pv 1) pa_nil)))
    (pss_cons (ps_if (pt_not (ptTruth (K := K) (pe_call (ok_is_worth T) (hr.mono (by decide)) (by rfl) T.is_worth.g T.is_worth.F.kp T.is_worth.b .nil pass0 (pa_cons (pv 2) pa_nil)) (by intro _; rfl))) (pss_one (ps_raise rfl (takes_of rfl rfl rfl rfl) (pmk_oexN T.e_NoWorth.o T.e_NoWorth.i T.e_NoWorth.t (ok_StoreError_init T.m_StoreError_init T.z_ValueError T.vV) (hr.mono (by decide)) T.m_StoreError_init.b pass0 (by rfl) T.e_NoWorth.g))) pss_nil)
    (pss_one (ps_dput (hu_of hr) (peFld (K := K) (pv 0) rfl) (pv 1) (pv 2) rfl))))), ?_⟩
    walk_at "go"
    refine m_call0 h (tf_no _ _ _ _ _ _ _ (by decide +kernel)) ?_
    refine ⟨p, t, rfl, h, fun e => ?_, k1⟩
    walk_at "go"
    refine ⟨vx, rfl, hx, fun e2 => ?_, k2 e⟩
    walk_at "go"
    refine ⟨vy, rfl, hy, ?_⟩
    walk_at "go"
    cases e3 : isWo vy with
    | false =>
      rw [show within vy (-1000000000000000000) 1000000000000000000 = false from e3]
      walk_at "go"
      exact e_raise T.e_NoWorth.o (k3 e e2 e3)
    | true =>
      rw [show within vy (-1000000000000000000) 1000000000000000000 = true from e3]
      obtain ⟨x, rfl⟩ := isK_str e2
      walk_at "go"
      refine o_fld h T.k_Transaction.cl T.n_Transaction__own (tf_o _ _ _ _ _ _ _) ?_
      walk_at "go"
      refine ⟨t.o, _, rfl, DPut.k (k := Sum.inr x) ho (lt_size hl), ?_⟩
      exact k4 e e3 x rfl e2 _ (fun b o n z => (upd_ne n).trans z) upd_same
def sp_drop (K : PySem.W.Frag) (T : Txt K mg) : Sp := fun vs H Q E => ∃ (p : Addr) (t : Tr) (vx : V) (own : List (Key × V)), vs = [.ref p, vx] ∧ InsAt T.C_Transaction H p (Tr.fs t) ∧ OdS K H vx ∧ H t.o = some (.dK own) ∧ own.length < 100000 ∧
  (t.b = true → E (.ref T.e_Ended.C) none H) ∧ (t.b = false → isK vx = false → E (.ref T.e_NoKey.C) none H) ∧
  (t.b = false → ∀ x, vx = .str x → isK vx = true → ∀ H', Oth t.o H H' → H' t.o = some (.dK (putK own (Sum.inr x) .non)) → Q .non H')
theorem ok_Transaction_drop (T : Txt K mg) : FnOk P w K mg base (L2.CX P w) 4 T.m_Transaction_drop.f T.m_Transaction_drop.fd ["self", "key"] ((sp_drop K T)) := by
  refine T.m_Transaction_drop.F.okX sc_Transaction_drop (fun vs H Q E h => ?_) (fun cdv A outer s H vs Q E hr h => ?_)
  · obtain ⟨p, t, vx, own, rfl, _⟩ := h
    rfl
  · obtain ⟨p, t, vx, own, rfl, h, hx, ho, hl, k1, k2, k4⟩ := h
    refine ⟨_, (pss_cons (ps_expr (pe_meth0 (pv 0) T.k_Transaction.cl T.m_Transaction__need_under_way.i (ok_Transaction__need_under_way T) (hr.mono (by decide)) T.m_Transaction__need_under_way.b .nil (passes_call (takes_of rfl rfl rfl rfl) (fun _ _ _ _ h => h))))
    (pss_cons (ps_expr (pe_call (ok_need_key T) (hr.mono (by decide)) (by rfl) T.need_key.g T.need_key.F.kp T.need_key.b .nil (passes_call (takes_of rfl rfl rfl rfl) (fun _ _ _ _ h => h)) (pa_cons (pv 1) pa_nil)))
    (pss_one (ps_dput (hu_of hr) (peFld (K := K) (pv 0) rfl) (pv 1) pe_non rfl)))), ?_⟩
    walk_at "go"
    refine m_call0 h (tf_no _ _ _ _ _ _ _ (by decide +kernel)) ?_
    refine ⟨p, t, rfl, h, fun e => ?_, k1⟩
    walk_at "go"
    refine ⟨vx, rfl, hx, fun e2 => ?_, k2 e⟩
    obtain ⟨x, rfl⟩ := isK_str e2
    walk_at "go"
    refine o_fld h T.k_Transaction.cl T.n_Transaction__own (tf_o _ _ _ _ _ _ _) ?_
    walk_at "go"
    refine ⟨t.o, _, rfl, DPut.k (k := Sum.inr x) ho (lt_size hl), ?_⟩
    exact k4 e x rfl e2 _ (fun b o n z => (upd_ne n).trans z) upd_same
end



section
variable {P : Program} {w : World} {K : PySem.W.Frag} {mg : Str → Option Value} {base : Heap}
/-! ### the two lambdas of the maker -/
def argAt (st : Stmt) (i : Nat) : Expr := match defBody st with
  | [.Return (some (.Call _ es _ _)) _] => es.getD i (.Constant .none 0 ⟨0, 0, 0, 0⟩)
  | _ => .Constant .none 0 ⟨0, 0, 0, 0⟩
def lamP : Expr → Arguments
  | .Lambda p _ _ _ => p
  | _ => defArgs s_law_made_over
def lamB : Expr → Expr
  | .Lambda _ b _ _ => b
  | e => e
def lamS : Expr → Scope
  | .Lambda _ _ s _ => s
  | _ => defScope s_law_made_over
abbrev qLam : Str := ("_law_made_over.<locals>." : Str) ++ "<lambda>"
abbrev lkE : Expr := argAt s_law_made_over 1
abbrev wkE : Expr := argAt s_law_made_over 2
abbrev lkF (q c : Addr) : NdefX.NF := lamF qLam (lamP lkE) (lamS lkE) [("state", c)] q
abbrev wkF (q c : Addr) : NdefX.NF := lamF qLam (lamP wkE) (lamS wkE) [("state", c)] q
theorem lk_scope : NdefX.NScope ["key", "state"] ["key"] ["state"] (lamS lkE) := NdefX.nscope_by (by decide +kernel)
theorem wk_scope : NdefX.NScope ["low", "high", "state"] ["low", "high"] ["state"] (lamS wkE) := NdefX.nscope_by (by decide +kernel)
def sp_look : List (Option V) → Sp := fun ws vs H Q _ => ∃ (st : Addr) (x : Str) (kvs : List (Key × V)), ws = [some (.ref st)] ∧ vs = [.str x] ∧ H st = some (.dK kvs) ∧ Q ((valV kvs (Sum.inr x)).getD .non) H
theorem ok_look (f q c : Addr) : NOkL P w K mg base 2 f (lkF q c) (lamB lkE) ["key"] ["state"] sp_look := by
  refine nokL_of lk_scope (fun pm ctv us hl => match us, hl with | [_], _ => rfl) (fun ws vs H Q E h => ?_) (fun A outer s H vs ws Q E hr hl h => ?_)
  · obtain ⟨st, x, kvs, _, rfl, _⟩ := h
    rfl
  · obtain ⟨st, x, kvs, rfl, rfl, hs, k⟩ := h
    refine ⟨_, pe_dget1 (hu_of hr) (pv 1) (pv 0) ⟨by rfl, by rfl, by rfl, by rfl⟩, ?_⟩
    refine e_var rfl ⟨st, rfl, .inl ⟨kvs, .inl hs⟩, ?_⟩
    exact e_var rfl ⟨_, DGet.k (k := Sum.inr x) hs, k⟩
def KWs (kvs : List (Key × V)) : Prop := ∀ p ∈ kvs, (∃ x : Str, p.1 = Sum.inr x) ∧ smallV p.2 = true
end



section
variable {P : Program} {w : World} {K : PySem.W.Frag} {mg : Str → Option Value} {base : Heap}
theorem back_same {H : Hp} {c : Addr} {o : HO} (e : H c = some o) : upd (del H c) c o = H := by
  funext b
  by_cases q : b = c
  · rw [q, upd_same, e]
  · rw [upd_ne q, del_ne q]
theorem e_dgetT {td ty : TE} {σ : L2.St} {H : Hp} {Q : VK} (h : td σ H fun x H1 => ty σ H1 fun y H2 => ∃ a v, x = .ref a ∧ DGet H2 a y (some v) ∧ Q v H2) : tDGet td ty σ H Q := h
/-- the look that was kept, the dict that it looks into -/
structure LkAt (H : Hp) (l st : Addr) (kvs : List (Key × V)) : Prop where
  ex : ∃ q c : Addr, H l = some (FnL l (lkF q c) (lamB lkE)) ∧ H q = some (LamX.CodeO q qLam) ∧ H c = some (CelO c (.ref st))
  st : H st = some (.dK kvs)
theorem LkAt.mv {H H' : Hp} {l st : Addr} {kvs : List (Key × V)} (h : LkAt H l st kvs) (k : ∀ b o, H b = some o → (∀ kvs, o ≠ .dK kvs) → H' b = some o) (s : H' st = some (.dK kvs)) : LkAt H' l st kvs := by
  obtain ⟨⟨q, c, h1, h2, h3⟩, _⟩ := h
  exact ⟨⟨q, c, k _ _ h1 (fun kvs z => nomatch (show HO.ext _ = HO.dK kvs from z)), k _ _ h2 (fun kvs z => nomatch (show HO.ext _ = HO.dK kvs from z)), k _ _ h3 (fun kvs z => nomatch (show HO.ext _ = HO.dK kvs from z))⟩, s⟩
def sp_get (K : PySem.W.Frag) (T : Txt K mg) : Sp := fun vs H Q E => ∃ (p : Addr) (t : Tr) (vx : V) (own kys kvs : List (Key × V)) (st : Addr), vs = [.ref p, vx] ∧ InsAt T.C_Transaction H p (Tr.fs t) ∧ OdS K H vx ∧ H t.o = some (.dK own) ∧ H t.ky = some (.dK kys) ∧ kys.length < 100000 ∧ LkAt H t.l st kvs ∧
  (t.b = true → E (.ref T.e_Ended.C) none H) ∧ (t.b = false → isK vx = false → E (.ref T.e_NoKey.C) none H) ∧
  (t.b = false → ∀ x, vx = .str x → isK vx = true → (∀ v, valV own (Sum.inr x) = some v → Q v H) ∧
    (valV own (Sum.inr x) = none → ∀ H', Oth t.ky H H' → H' t.ky = some (.dK (putK kys (Sum.inr x) (.bl true))) → Q ((valV kvs (Sum.inr x)).getD .non) H'))
theorem ok_Transaction_get (T : Txt K mg) : FnOk P w K mg base (L2.CX P w) 4 T.m_Transaction_get.f T.m_Transaction_get.fd ["self", "key"] ((sp_get K T)) := by
  refine T.m_Transaction_get.F.okX sc_Transaction_get (fun vs H Q E h => ?_) (fun cdv A outer s H vs Q E hr h => ?_)
  · obtain ⟨p, t, vx, own, kys, kvs, st, rfl, _⟩ := h
    rfl
  · obtain ⟨p, t, vx, own, kys, kvs, st, rfl, h, hx, ho, hk, hl, lk, k1, k2, k3⟩ := h
    refine ⟨_, (pss_cons (ps_expr (pe_meth0 (pv 0) T.k_Transaction.cl T.m_Transaction__need_under_way.i (ok_Transaction__need_under_way T) (hr.mono (by decide)) T.m_Transaction__need_under_way.b .nil (passes_call (takes_of rfl rfl rfl rfl) (fun _ _ _ _ h => h))))
    (pss_cons (ps_expr (pe_call (ok_need_key T) (hr.mono (by decide)) (by rfl) T.need_key.g T.need_key.F.kp T.need_key.b .nil (passes_call (takes_of rfl rfl rfl rfl) (fun _ _ _ _ h => h)) (pa_cons (pv 1) pa_nil)))
    (pss_cons (ps_if (pt_cmp (pc_din (hu_of hr) (pv 1) (peFld (K := K) (pv 0) rfl))) (pss_one (ps_ret (pe_dget (hu_of hr) (peFld (K := K) (pv 0) rfl) (pv 1) (fun _ _ => rfl)))) pss_nil)
    (pss_cons (ps_set (i := 2) sc_Transaction_get.nd rfl (Or.inl rfl) (peFld (K := K) (pv 0) rfl))
    (pss_cons (ps_set (i := 3) sc_Transaction_get.nd rfl (Or.inl rfl) (pe_callKp (k := 2) (i := 2) (mk := lkF) (b := lamB lkE) (fun f q c => ok_look f q c) (fun _ _ => rfl) (hr.mono (by decide)) rfl (Or.inl rfl) (pa_cons (pv 1) pa_nil)))
    (pss_cons (ps_dput (hu_of hr) (peFld (K := K) (pv 0) rfl) (pv 1) pe_bl rfl)
    (pss_one (ps_ret (pv 3))))))))), ?_⟩
    walk_at "go"
    refine m_call0 h (tf_no _ _ _ _ _ _ _ (by decide +kernel)) ?_
    refine ⟨p, t, rfl, h, fun e => ?_, k1⟩
    walk_at "go"
    refine ⟨vx, rfl, hx, fun e2 => ?_, k2 e⟩
    obtain ⟨x, rfl⟩ := isK_str e2
    obtain ⟨k4, k5⟩ := k3 e x rfl e2
    walk_at "go"
    refine o_fld h T.k_Transaction.cl T.n_Transaction__own (tf_o _ _ _ _ _ _ _) ?_
    refine ⟨t.o, _, rfl, DGet.k (k := Sum.inr x) ho, ?_⟩
    cases e3 : valV own (Sum.inr x) with
    | some v =>
      refine ⟨true, rfl, ?_⟩
      rw [if_pos rfl]
      walk_at "go"
      refine e_dgetT ?_
      walk_at "go"
      refine o_fld h T.k_Transaction.cl T.n_Transaction__own (tf_o _ _ _ _ _ _ _) ?_
      walk_at "go"
      exact ⟨t.o, v, rfl, e3 ▸ DGet.k (k := Sum.inr x) ho, k4 v e3⟩
    | none =>
      refine ⟨false, rfl, ?_⟩
      rw [if_neg Bool.false_ne_true]
      walk_at "go"
      refine o_fld h T.k_Transaction.cl T.n_Transaction__look (tf_l _ _ _ _ _ _ _) ?_
      walk_at "go"
      obtain ⟨⟨q, c, h1, h2, h3⟩, h4⟩ := lk
      have sc : st ≠ c := fun z => by
        rw [z, h3] at h4
        exact nomatch (show HO.ext _ = HO.dK kvs from Option.some.inj h4)
      refine ⟨t.l, q, c, .ref st, rfl, h1, ?_⟩
      walk_at "go"
      refine ⟨h1, h2, h3, st, x, kvs, rfl, rfl, (del_ne sc).trans h4, fun _ => ?_⟩
      dsimp only
      rw [back_same h3]
      walk_at "go"
      refine o_fld h T.k_Transaction.cl T.n_Transaction__keys (tf_k _ _ _ _ _ _ _) ?_
      walk_at "go"
      refine ⟨t.ky, _, rfl, DPut.k (k := Sum.inr x) hk (lt_size hl), ?_⟩
      walk_at "go"
      exact k5 e3 _ (fun b o n z => (upd_ne n).trans z) upd_same
end



section
variable {P : Program} {w : World} {K : PySem.W.Frag} {mg : Str → Option Value} {base : Heap}
/-! ### what lies in a range, by the law's own walking -/
def leS (a b : Str) : Bool := !decide (b.cps.toList < a.cps.toList)
def inR (lo hi y : Str) : Bool := leS lo y && leS y hi
def pairOf (kvs : List (Key × V)) (y : Str) : Str × V := (y, (valV kvs (Sum.inr y)).getD .non)
/-- the list holds references to just these pairs -/
def PrsAt (H : Hp) (qs : List Addr) (zs : List (Str × V)) : Prop := qs.length = zs.length ∧ ∀ (i : Nat) (q : Addr) (z : Str × V), qs[i]? = some q → zs[i]? = some z → H q = some (.tup [.str z.1, z.2])
theorem PrsAt.mv {H H' : Hp} {qs : List Addr} {zs : List (Str × V)} (h : PrsAt H qs zs) (k : ∀ b xs, H b = some (.tup xs) → H' b = some (.tup xs)) : PrsAt H' qs zs := ⟨h.1, fun i q z a b => k _ _ (h.2 i q z a b)⟩
theorem PrsAt.app {H : Hp} {qs : List Addr} {zs : List (Str × V)} {q : Addr} {z : Str × V} (h : PrsAt H qs zs) (e : H q = some (.tup [.str z.1, z.2])) : PrsAt H (qs ++ [q]) (zs ++ [z]) := by
  have hl := h.1
  refine ⟨by simp [hl], fun i p y a b => ?_⟩
  rcases Nat.lt_or_ge i qs.length with hi | hi
  · rw [List.getElem?_append_left hi] at a
    rw [List.getElem?_append_left (by omega)] at b
    exact h.2 i p y a b
  · rw [List.getElem?_append_right hi] at a
    rw [List.getElem?_append_right (by omega), ← hl] at b
    cases ei : i - qs.length with
    | zero =>
      rw [ei] at a b
      cases a; cases b
      exact e
    | succ n => rw [ei] at a; cases a
theorem has_key : ∀ {kvs : List (Key × V)} {ks : List Str} {y : Str}, kvs.map (·.1) = ks.map Sum.inr → y ∈ ks → ∃ v, valV kvs (Sum.inr y) = some v := fun {kvs ks y} e h => by
  have m : (Sum.inr y : Key) ∈ kvs.map (·.1) := e ▸ List.mem_map.mpr ⟨y, h, rfl⟩
  obtain ⟨p, hp, ep⟩ := List.mem_map.mp m
  unfold valV
  have s : (kvs.find? fun kv => decide (kv.1 = (Sum.inr y : Key))).isSome = true := List.find?_isSome.mpr ⟨p, hp, decide_eq_true ep⟩
  obtain ⟨z, hz⟩ := Option.isSome_iff_exists.mp s
  exact ⟨z.2, by rw [hz]; rfl⟩
def sp_walked : Sp := fun vs H Q _ => ∃ (st : Addr) (kvs : List (Key × V)) (ks : List Str) (lo hi : Str), vs = [.ref st, .str lo, .str hi] ∧ H st = some (.dK kvs) ∧ kvs.map (·.1) = ks.map Sum.inr ∧ ks.length < 64 ∧
  ∀ ys p qs H', ys.Perm ks → sortedS ys = true → Same H H' → H' p = some (.lst (qs.map V.ref)) → PrsAt H' qs ((ys.filter (inR lo hi)).map (pairOf kvs)) → Q (.ref p) H'
theorem ok_law_walked (T : Txt K mg) : FnOk P w K mg base CX0 1 T.law_walked.f T.law_walked.fd ["state", "low", "high"] (sp_walked) := by
  refine T.law_walked.F.ok sc_law_walked (fun vs H Q E h => ?_) (fun cdv A outer s H vs Q E hr h => ?_)
  · obtain ⟨st, kvs, ks, lo, hi, rfl, _⟩ := h
    rfl
  · obtain ⟨st, kvs, ks, lo, hi, rfl, hs, hk, hl, k⟩ := h
    refine ⟨_, (pss_one (ps_ret (pe_lc (own := [("key", 3)]) rfl sc_law_walked.nd (piL (K := K) (pe_callB (call_sortedD rfl) (by rfl) T.z_sorted (by decide +kernel) (pa_cons (pv 0) pa_nil))) (blkOk_by (N := n_law_walked) (sc := defScope s_law_walked) (by decide +kernel)) (fun _ _ _ _ _ => (pg_name (i := 3) sc_law_walked.nd rfl (Or.inl rfl))) (fun _ _ _ _ _ => (pts_one (pt_chain op_le_str op_le_str (pv 1) (pv 3) (pv 2)))) (fun _ _ _ _ _ => (pe_tup (pa_cons (pv 3) (pa_cons (pe_dget (hu_of hr) (pv 0) (pv 3) (fun _ _ => rfl)) pa_nil))))))), ?_⟩
    walk_at "go"
    refine ⟨st, kvs, ks, rfl, .inl hs, hk, hl, fun ys r hp so nr => ?_⟩
    have s1 : Same H (upd H r (.lst (ys.map V.str))) := Same.new nr
    have h1 : upd H r (.lst (ys.map V.str)) r = some (.lst (ys.map V.str)) := upd_same
    generalize upd H r (.lst (ys.map V.str)) = H1 at *
    have yl : ys.length < 64 := by rw [hp.length_eq]; exact hl
    refine i_lst (slO h1) ?_
    refine c_lst (xs := ys.map V.str) (fun i acc H2 => Same H1 H2 ∧ ∃ qs : List Addr, acc = qs.map V.ref ∧ PrsAt H2 qs (((ys.take i).filter (inR lo hi)).map (pairOf kvs))) (fun D hD => ⟨upd_free (Same.refl _) hD, [], rfl, rfl, fun i p v a c => by simp at a⟩) (fun i acc H2 hi p => slO (at_ p.1 h1)) (fun acc D H2 hD hp2 p => ?_) (fun _ => rfl) (fun i x acc H2 D hx hD hp2 p => ?_)
    · obtain ⟨s2, qs, rfl, hq⟩ := p
      rw [List.length_map, List.take_length] at hq
      exact k ys D qs H2 hp so (s1.trans s2) hp2 hq
    · obtain ⟨s2, qs, rfl, hq⟩ := p
      have hi' : i < ys.length := by
        have := (List.getElem?_eq_some_iff.mp hx).1
        simpa using this
      have ex : x = .str ys[i] := by
        rw [List.getElem?_map, List.getElem?_eq_getElem hi'] at hx
        exact (Option.some.inj hx).symm
      subst ex
      have more : (ys.take (i + 1)) = ys.take i ++ [ys[i]] := by rw [List.take_add_one, List.getElem?_eq_getElem hi']; rfl
      obtain ⟨v, hv⟩ : ∃ v, valV kvs (Sum.inr ys[i]) = some v := has_key hk (hp.mem_iff.mp (List.getElem_mem hi'))
      have ys0 : (((ys.take i).filter (inR lo hi)).map (pairOf kvs)).length ≤ 64 := by
        rw [List.length_map]
        exact Nat.le_trans (List.length_filter_le _ _) (by rw [List.length_take]; omega)
      generalize ys[i] = y at *
      have out : inR lo hi y = false → ∃ acc2, H2 D = some (.lst acc2) ∧ Same H1 H2 ∧ ∃ qs : List Addr, acc2 = qs.map V.ref ∧ PrsAt H2 qs (((ys.take (i + 1)).filter (inR lo hi)).map (pairOf kvs)) := fun e => by
        refine ⟨_, hp2, s2, qs, rfl, ?_⟩
        rw [more, List.filter_append, List.filter_cons_of_neg (by rw [e]; exact Bool.false_ne_true), List.filter_nil, List.append_nil]
        exact hq
      walk_at "go"
      refine ⟨lo, y, rfl, rfl, leS lo y, rfl, ?_⟩
      cases e1 : leS lo y with
      | false =>
        rw [if_neg Bool.false_ne_true]
        refine ⟨false, rfl, ?_⟩
        rw [if_neg Bool.false_ne_true]
        exact out (by unfold inR; rw [e1]; rfl)
      | true =>
        rw [if_pos rfl]
        walk_at "go"
        refine ⟨y, hi, rfl, rfl, leS y hi, rfl, ?_⟩
        cases e2 : leS y hi with
        | false =>
          rw [if_neg Bool.false_ne_true]
          exact out (by unfold inR; rw [e1, e2]; rfl)
        | true =>
          rw [if_pos rfl]
          have inn : inR lo hi y = true := by unfold inR; rw [e1, e2]; rfl
          walk_at "go"
          refine e_dgetT ?_
          walk_at "go"
          refine ⟨st, v, rfl, hv ▸ DGet.k (k := Sum.inr y) (at_ (s1.trans s2) hs), ?_⟩
          walk_at "go"
          refine n_new (le_size (by simp)) fun p4 H4 n4 s4 h4 => ?_
          have hp4 := at_ s4 hp2
          have hl2 := hq.1
          refine ⟨_, hp4, lt_size (by rw [List.length_map, hl2]; omega), _, upd_same, upd_free (s2.trans s4) hD, qs ++ [p4], by rw [List.map_append]; rfl, ?_⟩
          rw [more, List.filter_append, List.filter_cons_of_pos inn, List.filter_nil, List.map_append]
          have keep : ∀ b xs, H4 b = some (.tup xs) → upd H4 D (.lst (qs.map V.ref ++ [V.ref p4])) b = some (.tup xs) := fun b xs z => (upd_ne fun e => by rw [e, hp4] at z; cases z).trans z
          refine (hq.mv fun b xs z => keep b xs (s4 _ _ z)).app (keep _ _ ?_)
          show H4 p4 = some (.tup [.str y, (valV kvs (Sum.inr y)).getD .non])
          rw [hv]
          exact h4
end



section
variable {P : Program} {w : World} {K : PySem.W.Frag} {mg : Str → Option Value} {base : Heap}
def sp_walk : List (Option V) → Sp := fun ws vs H Q E => ∃ (st : Addr) (lo hi : Str), ws = [some (.ref st)] ∧ vs = [.str lo, .str hi] ∧ sp_walked [.ref st, .str lo, .str hi] H Q E
theorem ok_walk (T : Txt K mg) (f q c : Addr) : NOkL P w K mg base 3 f (wkF q c) (lamB wkE) ["low", "high"] ["state"] sp_walk := by
  refine nokL_of wk_scope (fun pm ctv us hl => match us, hl with | [_, _], _ => rfl) (fun ws vs H Q E h => ?_) (fun A outer s H vs ws Q E hr hl h => ?_)
  · obtain ⟨st, lo, hi, _, rfl, _⟩ := h
    rfl
  · obtain ⟨st, lo, hi, rfl, rfl, z⟩ := h
    refine ⟨_, pe_call (ok_law_walked T) (hr.mono (by decide)) (by rfl) T.law_walked.g T.law_walked.F.kp T.law_walked.b .nil pass0 (pa_cons (pv 2) (pa_cons (pv 0) (pa_cons (pv 1) pa_nil))), ?_⟩
    walk_at "go"
    obtain ⟨st2, kvs, ks, lo2, hi2, e, h1, h2, h3, k⟩ := z
    cases e
    exact ⟨st, kvs, ks, lo, hi, rfl, h1, h2, h3, k⟩
end



section
variable {P : Program} {w : World} {K : PySem.W.Frag} {mg : Str → Option Value} {base : Heap}
theorem oth_upd {p : Addr} {H : Hp} {o : HO} : Oth p H (upd H p o) := fun b u n z => (upd_ne n).trans z
theorem Oth.of {p : Addr} {H H' : Hp} (s : Same H H') : Oth p H H' := fun b u _ z => s b u z
structure NewT (C : Addr) (H H' : Hp) (p : Addr) (n : Int) (l wk o ky rg : Addr) : Prop where
  ob : InsAt C H' p (tf n l wk false o ky rg)
  oth : Oth p H H'
  no : H o = none
  nk : H ky = none
  nr : H rg = none
  ho : H' o = some (.dK [])
  hk : H' ky = some (.dK [])
  hr : H' rg = some (.dK [])
  ok_ : o ≠ ky
  or_ : o ≠ rg
  kr : ky ≠ rg
def sp_init (C : Addr) : Sp := fun vs H Q _ => ∃ (p : Addr) (n : Int) (l wk : Addr), vs = [.ref p, .int n, .ref l, .ref wk] ∧ InsAt C H p [] ∧ ∀ H' o ky rg, NewT C H H' p n l wk o ky rg → Q .non H'
theorem ok_Transaction_init (T : Txt K mg) : FnOk P w K mg base CX0 1 T.m_Transaction_init.f T.m_Transaction_init.fd ["self", "snapshot", "look", "walk"] ((sp_init T.C_Transaction)) := by
  refine T.m_Transaction_init.F.ok sc_Transaction_init (fun vs H Q E h => ?_) (fun cdv A outer s H vs Q E hr h => ?_)
  · obtain ⟨p, n, l, wk, rfl, _⟩ := h
    rfl
  · obtain ⟨p, n, l, wk, rfl, hp', k⟩ := h
    refine ⟨_, (pss_cons (psFld (K := K) (pv 0) (pv 1) rfl)
    (pss_cons (psFld (K := K) (pv 0) (pv 2) rfl)
    (pss_cons (psFld (K := K) (pv 0) (pv 3) rfl)
    (pss_cons (psFld (K := K) (pv 0) pe_bl rfl)
    (pss_cons (psFld (K := K) (pv 0) pe_dnewK rfl)
    (pss_cons (psFld (K := K) (pv 0) pe_dnewK rfl)
    (pss_one (psFld (K := K) (pv 0) pe_dnewK rfl)))))))), ?_⟩
    obtain ⟨dx, hob⟩ := hp'
    walk_at "go"
    refine s_fld rfl hob T.k_Transaction.cl T.n_Transaction__snapshot (by show 0 < 1000; decide) ?_
    walk_at "go"
    refine s_fld rfl upd_same T.k_Transaction.cl T.n_Transaction__look (by show 1 < 1000; decide) ?_
    walk_at "go"
    refine s_fld rfl upd_same T.k_Transaction.cl T.n_Transaction__walk (by show 2 < 1000; decide) ?_
    walk_at "go"
    refine s_fld rfl upd_same T.k_Transaction.cl T.n_Transaction__is_over (by show 3 < 1000; decide) ?_
    have o1 : Oth p H (upd (upd (upd (upd H p (.ins T.C_Transaction dx (putF "_snapshot" (.int n) []))) p (.ins T.C_Transaction dx (putF "_look" (.ref l) (putF "_snapshot" (.int n) [])))) p (.ins T.C_Transaction dx (putF "_walk" (.ref wk) (putF "_look" (.ref l) (putF "_snapshot" (.int n) []))))) p (.ins T.C_Transaction dx (putF "_is_over" (.bl false) (putF "_walk" (.ref wk) (putF "_look" (.ref l) (putF "_snapshot" (.int n) [])))))) :=
      oth_upd.trans (oth_upd.trans (oth_upd.trans oth_upd))
    have p1 : (upd (upd (upd (upd H p (.ins T.C_Transaction dx (putF "_snapshot" (.int n) []))) p (.ins T.C_Transaction dx (putF "_look" (.ref l) (putF "_snapshot" (.int n) [])))) p (.ins T.C_Transaction dx (putF "_walk" (.ref wk) (putF "_look" (.ref l) (putF "_snapshot" (.int n) []))))) p (.ins T.C_Transaction dx (putF "_is_over" (.bl false) (putF "_walk" (.ref wk) (putF "_look" (.ref l) (putF "_snapshot" (.int n) [])))))) p = some (.ins T.C_Transaction dx (putF "_is_over" (.bl false) (putF "_walk" (.ref wk) (putF "_look" (.ref l) (putF "_snapshot" (.int n) []))))) := upd_same
    generalize upd (upd (upd (upd H p _) p _) p _) p _ = G at *
    have free : ∀ {G2 : Hp} {c : Addr}, Oth p H G2 → G2 p ≠ none → G2 c = none → H c = none := fun {G2 c} o1 np z => by
      cases e : H c with
      | none => rfl
      | some u =>
        by_cases q : c = p
        · rw [q] at z; exact absurd z np
        · rw [o1 c u q e] at z; cases z
    walk_at "go"
    refine e_dnew fun o G1 n1 s1 h1 => ?_
    have q1 := at_ s1 p1
    walk_at "go"
    refine s_fld rfl q1 T.k_Transaction.cl T.n_Transaction__own (by show 4 < 1000; decide) ?_
    have op : o ≠ p := (ne_of_none p1 n1).symm
    have o2 : Oth p H (upd G1 p (.ins T.C_Transaction dx (putF "_own" (.ref o) (putF "_is_over" (.bl false) (putF "_walk" (.ref wk) (putF "_look" (.ref l) (putF "_snapshot" (.int n) []))))))) := o1.trans ((Oth.of s1).trans oth_upd)
    have h1' : (upd G1 p (.ins T.C_Transaction dx (putF "_own" (.ref o) (putF "_is_over" (.bl false) (putF "_walk" (.ref wk) (putF "_look" (.ref l) (putF "_snapshot" (.int n) []))))))) o = some (.dK []) := (upd_ne op).trans h1
    have p2 : (upd G1 p (.ins T.C_Transaction dx (putF "_own" (.ref o) (putF "_is_over" (.bl false) (putF "_walk" (.ref wk) (putF "_look" (.ref l) (putF "_snapshot" (.int n) []))))))) p = _ := upd_same
    have no := free o1 (by rw [p1]; exact fun z => nomatch z) n1
    generalize upd G1 p _ = G2 at *
    walk_at "go"
    refine e_dnew fun ky G3 n3 s3 h3 => ?_
    walk_at "go"
    refine s_fld rfl (at_ s3 p2) T.k_Transaction.cl T.n_Transaction__keys (by show 5 < 1000; decide) ?_
    have kp : ky ≠ p := (ne_of_none p2 n3).symm
    have ok_ : o ≠ ky := ne_of_none h1' n3
    have nk := free o2 (by rw [p2]; exact fun z => nomatch z) n3
    have o3 : Oth p H (upd G3 p (.ins T.C_Transaction dx (putF "_keys" (.ref ky) (putF "_own" (.ref o) (putF "_is_over" (.bl false) (putF "_walk" (.ref wk) (putF "_look" (.ref l) (putF "_snapshot" (.int n) [])))))))) := o2.trans ((Oth.of s3).trans oth_upd)
    have h3' : (upd G3 p (.ins T.C_Transaction dx (putF "_keys" (.ref ky) (putF "_own" (.ref o) (putF "_is_over" (.bl false) (putF "_walk" (.ref wk) (putF "_look" (.ref l) (putF "_snapshot" (.int n) [])))))))) ky = some (.dK []) := (upd_ne kp).trans h3
    have h1'' : (upd G3 p (.ins T.C_Transaction dx (putF "_keys" (.ref ky) (putF "_own" (.ref o) (putF "_is_over" (.bl false) (putF "_walk" (.ref wk) (putF "_look" (.ref l) (putF "_snapshot" (.int n) [])))))))) o = some (.dK []) := (upd_ne op).trans (at_ s3 h1')
    have p3 : (upd G3 p (.ins T.C_Transaction dx (putF "_keys" (.ref ky) (putF "_own" (.ref o) (putF "_is_over" (.bl false) (putF "_walk" (.ref wk) (putF "_look" (.ref l) (putF "_snapshot" (.int n) [])))))))) p = _ := upd_same
    generalize upd G3 p _ = G4 at *
    walk_at "go"
    refine e_dnew fun rg G5 n5 s5 h5 => ?_
    walk_at "go"
    refine s_fld rfl (at_ s5 p3) T.k_Transaction.cl T.n_Transaction__ranges (by show 6 < 1000; decide) ?_
    have rp : rg ≠ p := (ne_of_none p3 n5).symm
    have nr := free o3 (by rw [p3]; exact fun z => nomatch z) n5
    rw [tf_new]
    exact k _ o ky rg ⟨⟨dx, upd_same⟩, o3.trans ((Oth.of s5).trans oth_upd), no, nk, nr, (upd_ne op).trans (at_ s5 h1''), (upd_ne kp).trans (at_ s5 h3'), (upd_ne rp).trans h5, ok_, ne_of_none h1'' n5, ne_of_none h3' n5⟩
end



section
variable {P : Program} {w : World} {K : PySem.W.Frag} {mg : Str → Option Value} {base : Heap}
/-! ### what the law draws -/
def KW : List Str := ["a", "b", "ba", "c", "d", "m", "zz", "abcdefghijkl", "az", "aa"]
theorem kw_key : (KW.all fun x => isK (.str x)) = true := by decide +kernel
theorem kw_isK {x : Str} (h : x ∈ KW) : isK (.str x) = true := List.all_eq_true.mp kw_key x h
theorem kw_len : (KW.all fun x => decide (x.length ≤ 100000)) = true := by decide +kernel
theorem kw_od {H : Hp} {x : Str} (h : x ∈ KW) : OdS K H (.str x) := .inl (List.all_eq_true.mp kw_len x h)
def sp_key (K : PySem.W.Frag) : Sp := fun vs H Q _ => ∃ B : Bg, vs = [.ref B.hd] ∧ BagAt K H B ∧ ∀ x H', x ∈ KW → Hs K B H H' → Q (.str x) H'
theorem ok_law_key (T : Txt K mg) : FnOk P w K mg base CX0 3 T.law_key.f T.law_key.fd ["hand"] (sp_key K) := by
  refine T.law_key.F.ok sc_law_key (fun vs H Q E h => ?_) (fun cdv A outer s H vs Q E hr h => ?_)
  · obtain ⟨B, rfl, _⟩ := h
    rfl
  · obtain ⟨B, rfl, hB, k⟩ := h
    refine ⟨_, (pss_one (ps_ret (pe_call (ok_law_any T) (hr.mono (by decide)) (by rfl) T.law_any.g T.law_any.F.kp T.law_any.b .nil pass0 (pa_cons (pv 0) (pa_cons (pe_lst (pa_cons pe_str (pa_cons pe_str (pa_cons pe_str (pa_cons pe_str (pa_cons pe_str (pa_cons pe_str (pa_cons pe_str (pa_cons pe_str (pa_cons pe_str (pa_cons pe_str pa_nil))))))))))) pa_nil))))), ?_⟩
    walk_at "go"
    refine n_new (le_size (by simp)) fun l H1 n1 s1 h1 => ?_
    walk_at "go"
    have hs1 := Hs.of hB s1
    refine ⟨B, l, KW.map V.str, rfl, hs1.b, slO h1, new_ne hB n1, by decide, by decide, fun v H2 hv hs2 => ?_⟩
    obtain ⟨x, hx, rfl⟩ := List.mem_map.mp hv
    exact k x H2 hx (hs1.trans hs2)
def sp_worth (K : PySem.W.Frag) : Sp := fun vs H Q _ => ∃ B : Bg, vs = [.ref B.hd] ∧ BagAt K H B ∧ ∀ i H', -1000000000000000000 ≤ i → i ≤ 1000000000000000000 → Hs K B H H' → Q (.int i) H'
theorem ok_law_worth (T : Txt K mg) : FnOk P w K mg base CX0 3 T.law_worth.f T.law_worth.fd ["hand"] (sp_worth K) := by
  refine T.law_worth.F.ok sc_law_worth (fun vs H Q E h => ?_) (fun cdv A outer s H vs Q E hr h => ?_)
  · obtain ⟨B, rfl, _⟩ := h
    rfl
  · obtain ⟨B, rfl, hB, k⟩ := h
    refine ⟨_, (pss_one (ps_ret (pe_call (ok_law_any T) (hr.mono (by decide)) (by rfl) T.law_any.g T.law_any.F.kp T.law_any.b .nil pass0 (pa_cons (pv 0) (pa_cons (pe_lst (pa_cons pe_int (pa_cons pe_int (pa_cons (pe_un un_neg pe_int) (pa_cons pe_int (pa_cons (pe_op op_pow pe_int pe_int) (pa_cons (pe_un un_neg (pe_op op_pow pe_int pe_int)) (pa_cons (pe_call (ok_law_draw T) (hr.mono (by decide)) (by rfl) T.law_draw.g T.law_draw.F.kp T.law_draw.b .nil pass0 (pa_cons (pv 0) (pa_cons pe_int pa_nil))) pa_nil)))))))) pa_nil))))), ?_⟩
    walk_at "go"
    refine ⟨B, 1000, rfl, hB, by decide, by decide, fun r H0 r0 r1 hs0 => ?_⟩
    walk_at "go"
    refine n_new (le_size (by simp)) fun l H1 n1 s1 h1 => ?_
    walk_at "go"
    have hs1 := hs0.trans (Hs.of hs0.b s1)
    refine ⟨B, l, _, rfl, hs1.b, slO h1, new_ne hs0.b n1, by simp, by simp, fun v H2 hv hs2 => ?_⟩
    have hs := hs1.trans hs2
    simp only [List.mem_cons, List.not_mem_nil, or_false] at hv
    rcases hv with z | z | z | z | z | z | z <;> subst z
    · exact k _ H2 (by decide) (by decide) hs
    · exact k _ H2 (by decide) (by decide) hs
    · exact k _ H2 (by decide) (by decide) hs
    · exact k _ H2 (by decide) (by decide) hs
    · exact k _ H2 (by decide) (by decide) hs
    · exact k _ H2 (by decide) (by decide) hs
    · exact k _ H2 (by omega) (by omega) hs
end



section
variable {P : Program} {w : World} {K : PySem.W.Frag} {mg : Str → Option Value} {base : Heap}
/-! ### a dict of drawn keys -/
def gv (v : V) : Prop := v = .non ∨ ∃ i : Int, v = .int i ∧ -1000000000000000000 ≤ i ∧ i ≤ 1000000000000000000
structure Sd (kvs : List (Key × V)) (n : Nat) : Prop where
  ks : ∃ ks : List Str, kvs.map (·.1) = ks.map Sum.inr ∧ ∀ y ∈ ks, y ∈ KW
  nd : (kvs.map (·.1)).Nodup
  len : kvs.length ≤ n
  vs : ∀ p ∈ kvs, gv p.2
theorem sd_nil : Sd [] 0 := ⟨⟨[], rfl, fun y h => nomatch h⟩, List.nodup_nil, Nat.le_refl _, fun p h => nomatch h⟩
theorem keys_putK {kvs : List (Key × V)} {k : Key} {v : V} : (k ∈ kvs.map (·.1) ∧ (putK kvs k v).map (·.1) = kvs.map (·.1)) ∨ (k ∉ kvs.map (·.1) ∧ putK kvs k v = kvs ++ [(k, v)]) := by
  unfold putK
  by_cases h : (kvs.any fun kv => decide (kv.1 = k)) = true
  · obtain ⟨p, hp, e⟩ := List.any_eq_true.mp h
    refine .inl ⟨List.mem_map.mpr ⟨p, hp, of_decide_eq_true e⟩, ?_⟩
    rw [if_pos h, List.map_map]
    refine List.map_congr_left fun p _ => ?_
    show (if p.1 = k then (p.1, v) else p).1 = p.1
    split <;> rfl
  · refine .inr ⟨fun m => h ?_, if_neg h⟩
    obtain ⟨p, hp, e⟩ := List.mem_map.mp m
    exact List.any_eq_true.mpr ⟨p, hp, decide_eq_true e⟩
theorem vals_putK {kvs : List (Key × V)} {k : Key} {v : V} {Z : V → Prop} (h : ∀ p ∈ kvs, Z p.2) (hv : Z v) : ∀ p ∈ putK kvs k v, Z p.2 := fun p hp => by
  unfold putK at hp
  split at hp
  · obtain ⟨q, hq, e⟩ := List.mem_map.mp hp
    subst e
    show Z (if q.1 = k then (q.1, v) else q).2
    split
    · exact hv
    · exact h q hq
  · rcases List.mem_append.mp hp with hp | hp
    · exact h p hp
    · rw [List.mem_singleton.mp hp]; exact hv
theorem Sd.put {kvs : List (Key × V)} {n : Nat} {y : Str} {v : V} (h : Sd kvs n) (hy : y ∈ KW) (hv : gv v) : Sd (putK kvs (Sum.inr y) v) (n + 1) := by
  obtain ⟨ks, ek, hk⟩ := h.ks
  have hl := length_putK kvs (Sum.inr y : Key) v
  have := h.len
  rcases keys_putK (kvs := kvs) (k := (Sum.inr y : Key)) (v := v) with ⟨_, e⟩ | ⟨no, e⟩
  · exact ⟨⟨ks, e.trans ek, hk⟩, by rw [e]; exact h.nd, by omega, vals_putK h.vs hv⟩
  · refine ⟨⟨ks ++ [y], by rw [e, List.map_append, ek, List.map_append]; rfl, fun z hz => ?_⟩, ?_, by omega, vals_putK h.vs hv⟩
    · rcases List.mem_append.mp hz with hz | hz
      · exact hk z hz
      · rw [List.mem_singleton.mp hz]; exact hy
    · rw [e, List.map_append]
      exact List.nodup_append.mpr ⟨h.nd, List.nodup_cons.mpr ⟨List.not_mem_nil, List.nodup_nil⟩, fun a ha b hb z => no (by
        have hb : b = Sum.inr y := List.mem_singleton.mp hb
        rw [← hb, ← z]; exact ha)⟩
def sp_snapshot (K : PySem.W.Frag) : Sp := fun vs H Q _ => ∃ B : Bg, vs = [.ref B.hd] ∧ BagAt K H B ∧ ∀ (n : Int) f kvs p H', H f = none → f ≠ B.hd → H' f = some (.dK kvs) → Sd kvs 8 → (∀ p ∈ kvs, p.2 ≠ V.non) → Hs K B H H' → H' p = some (.tup [.int n, .ref f]) → Q (.ref p) H'
theorem ok_law_snapshot (T : Txt K mg) : FnOk P w K mg base CX0 4 T.law_snapshot.f T.law_snapshot.fd ["hand"] (sp_snapshot K) := by
  refine T.law_snapshot.F.ok sc_law_snapshot (fun vs H Q E h => ?_) (fun cdv A outer s H vs Q E hr h => ?_)
  · obtain ⟨B, rfl, _⟩ := h
    rfl
  · obtain ⟨B, rfl, hB, k⟩ := h
    refine ⟨_, (pss_cons (ps_set (i := 1) sc_law_snapshot.nd rfl (Or.inl rfl) pe_dnewK)
    (pss_cons (ps_for PassesOwn.never rfl (pi_range1 (by rfl) T.z_range (pa_cons (pe_call (ok_law_draw T) (hr.mono (by decide)) (by rfl) T.law_draw.g T.law_draw.F.kp T.law_draw.b .nil pass0 (pa_cons (pv 0) (pa_cons pe_int pa_nil))) pa_nil)) (pg_name (i := 2) sc_law_snapshot.nd rfl (Or.inl rfl))
      (pss_one (ps_dput (hu_of hr) (pv 1) (pe_call (ok_law_key T) (hr.mono (by decide)) (by rfl) T.law_key.g T.law_key.F.kp T.law_key.b .nil pass0 (pa_cons (pv 0) pa_nil)) (pe_call (ok_law_worth T) (hr.mono (by decide)) (by rfl) T.law_worth.g T.law_worth.F.kp T.law_worth.b .nil pass0 (pa_cons (pv 0) pa_nil)) rfl)))
    (pss_one (ps_ret (pe_tup (pa_cons (pe_call (ok_law_any T) (hr.mono (by decide)) (by rfl) T.law_any.g T.law_any.F.kp T.law_any.b .nil pass0 (pa_cons (pv 0) (pa_cons (pe_lst (pa_cons pe_int (pa_cons pe_int (pa_cons pe_int (pa_cons (pe_op op_pow pe_int pe_int) pa_nil))))) pa_nil))) (pa_cons (pv 1) pa_nil))))))), ?_⟩
    walk_at "go"
    refine e_dnew fun f H1 n1 s1 h1 => ?_
    have fne : f ≠ B.hd := new_ne hB n1
    walk_at "go"
    have hs1 := Hs.of hB s1
    refine ⟨B, 9, rfl, hs1.b, by decide, by decide, fun r H2 r0 r1 hs2 => ?_⟩
    walk_at "go"
    refine i_rng r.toNat rfl (by omega) (by omega) ?_
    refine l_rng (fun i σ H' => Hs K B H H' ∧ ∃ (kvs : List (Key × V)) (y : Option V), σ = [some (.ref B.hd), some (.ref f), y] ∧ H' f = some (.dK kvs) ∧ Sd kvs i ∧ (∀ p ∈ kvs, p.2 ≠ V.non)) ⟨hs1.trans hs2, [], none, rfl, hs2.o _ _ fne h1, sd_nil, fun p h => nomatch h⟩ (fun σ H' p => ?_) (fun i σ H' hi p => ?_)
    · obtain ⟨hh, kvs, y, rfl, hf, sd, sne⟩ := p
      walk_at "go"
      refine n_new (le_size (by simp)) fun l H3 n3 s3 h3 => ?_
      walk_at "go"
      have hh3 := hh.trans (Hs.of hh.b s3)
      refine ⟨B, l, _, rfl, hh3.b, slO h3, new_ne hh.b n3, by simp, by simp, fun v H4 hv hs4 => ?_⟩
      obtain ⟨n, rfl⟩ : ∃ n : Int, v = .int n := by
        simp only [List.mem_cons, List.not_mem_nil, or_false] at hv
        rcases hv with z | z | z | z <;> exact ⟨_, z⟩
      have hf4 := hs4.o _ _ fne (at_ s3 hf)
      walk_at "go"
      refine n_new (le_size (by simp)) fun p H5 n5 s5 h5 => ?_
      have := sd.len
      exact k n f kvs p H5 n1 fne (at_ s5 hf4) ⟨sd.ks, sd.nd, by omega, sd.vs⟩ sne ((hh3.trans hs4).trans (Hs.of hs4.b s5)) h5
    · obtain ⟨hh, kvs, y, rfl, hf, sd, sne⟩ := p
      walk_at "go"
      refine ⟨B, rfl, hh.b, fun i2 H3 i0 i1 hs3 => ?_⟩
      walk_at "go"
      refine ⟨B, rfl, hs3.b, fun x H4 hx hs4 => ?_⟩
      have hf4 := hs4.o _ _ fne (hs3.o _ _ fne hf)
      have := sd.len
      refine ⟨f, _, rfl, DPut.k (k := Sum.inr x) hf4 (lt_size (by omega)), ?_⟩
      refine ⟨((hh.trans hs3).trans hs4).mut hB n1 oth_upd, _, _, rfl, upd_same, sd.put hx (.inr ⟨i2, rfl, i0, i1⟩), vals_putK (Z := fun v => v ≠ V.non) sne (fun z => by cases z)⟩
end



section
variable {P : Program} {w : World} {K : PySem.W.Frag} {mg : Str → Option Value} {base : Heap}
theorem free_state {sc : Scope} {cells : List (Str × Addr)} {c : Addr} (h : (sc.names.all fun y => !decide (y.2 = NameKind.free) || decide (y.1 = ("state" : Str))) = true) (e : cells.lookup ("state" : Str) = some c) : ∀ y ∈ sc.names, y.2 = .free → ∃ c, cells.lookup y.1 = some c := fun y hy f => by
  have := List.all_eq_true.mp h y hy
  rw [decide_eq_true f] at this
  have q : y.1 = ("state" : Str) := of_decide_eq_true this
  exact ⟨c, q ▸ e⟩
def MakeQ (C : Addr) (sp : Sp) (dvs : List V) (E : XK) (vs : List V) (H1 : Hp) (Q : VK) : Prop := ∀ x dx, H1 x = none → H1 dx = none → dx ≠ x → sp (.ref x :: (vs ++ dvs)) (upd (upd H1 dx (.own x)) x (.ins C dx [])) (fun v H2 => v = .non ∧ Q (.ref x) H2) E
theorem e_make {C : Addr} {sp : Sp} {dvs : List V} {E : XK} {t : TA} {σ : L2.St} {H : Hp} {Q : VK} (h : t σ H fun vs H1 => MakeQ C sp dvs E vs H1 Q) : tMake C sp dvs E t σ H Q := h
/-- a transaction just made over the dict at st -/
structure MadeT {mg : Str → Option Value} (T : Txt K mg) (H H' : Hp) (st p : Addr) (n : Int) (l wk o ky rg : Addr) : Prop where
  ob : InsAt T.C_Transaction H' p (tf n l wk false o ky rg)
  fn : ∃ q q2 c : Addr, H' l = some (FnL l (lkF q c) (lamB lkE)) ∧ H' q = some (LamX.CodeO q qLam) ∧ H' wk = some (FnL wk (wkF q2 c) (lamB wkE)) ∧ H' q2 = some (LamX.CodeO q2 qLam) ∧ H' c = some (CelO c (.ref st))
  ext : LamX.ExtN H H'
  tabs : LamX.Tabs (tabsL T) H'
  ho : H' o = some (.dK [])
  hk : H' ky = some (.dK [])
  hr : H' rg = some (.dK [])
  ok_ : o ≠ ky
  or_ : o ≠ rg
  kr : ky ≠ rg
  no : ∀ x u, x = o ∨ x = ky ∨ x = rg → (∀ ps, u ≠ HO.tbl ps) → H x ≠ some u
def sp_made {mg : Str → Option Value} (T : Txt K mg) : Sp := fun vs H Q _ => ∃ (st : Addr) (n : Int) (kvs : List (Key × V)), vs = [.ref st, .int n] ∧ H st = some (.dK kvs) ∧ LamX.Tabs (tabsL T) H ∧ ∀ p l wk o ky rg H', MadeT T H H' st p n l wk o ky rg → Q (.ref p) H'
theorem ok_law_made_over (T : Txt K mg) (B_law_made_over : LamX.TabB base mg T.law_made_over.c T.law_made_over.P) : FnOk P w K mg base CX0 4 T.law_made_over.f T.law_made_over.fd ["state", "number"] (sp_made T) := by
  refine DefAtL.okK (e := (match defBody s_law_made_over with | [.Return (some e) _] => e | _ => .Constant .none 0 ⟨0, 0, 0, 0⟩)) (pos := (match defBody s_law_made_over with | [.Return _ p] => p | _ => ⟨0, 0, 0, 0⟩)) (y := "state") T.law_made_over sc_law_made_over rfl (by decide +kernel) (fun vs H Q E h => ?_) (fun A outer s H vs Q E hr h => ?_)
  · obtain ⟨st, n, kvs, rfl, _⟩ := h
    rfl
  · obtain ⟨st, n, kvs, rfl, hs, ht, k⟩ := h
    refine ⟨_, 0, .ref st, (pe_make (T.m_Transaction_init.made T.k_Transaction) (ok_Transaction_init T) (hr.mono (by decide)) (by rfl) T.k_Transaction.g T.m_Transaction_init.b .nil pass0 (pa_cons (pv 1) (pa_cons (pe_lamK (T := tabsL T) (q := qLam) (cl := [("state", s.heap.objs.size + 1)]) B_law_made_over rfl rfl (tabsM_law_made_over T) (tabs_uniq T.dst (tabsM_law_made_over T)) rfl (free_state (c := s.heap.objs.size + 1) (by decide +kernel) rfl) rfl) (pa_cons (pe_lamK (T := tabsL T) (q := qLam) (cl := [("state", s.heap.objs.size + 1)]) B_law_made_over rfl rfl (tabsM_law_made_over T) (tabs_uniq T.dst (tabsM_law_made_over T)) rfl (free_state (c := s.heap.objs.size + 1) (by decide +kernel) rfl) rfl) pa_nil)))), rfl, rfl, ?_⟩
    refine e_make ?_
    walk_at "go"
    refine ⟨ht, fun l q H1 e1 t1 nl hl hq => ?_⟩
    walk_at "go"
    refine ⟨t1, fun wk q2 H2 e2 t2 nw hw hq2 => ?_⟩
    walk_at "go"
    intro p dx np ndx ne
    refine ⟨p, n, l, wk, rfl, ⟨dx, upd_same⟩, fun H' o ky rg N => ⟨rfl, fun c hc nc => ?_⟩⟩
    have ec : s.heap.objs.size + 1 = c := Option.some.inj hc
    have s3 : Same H2 (upd (upd H2 dx (.own p)) p (.ins T.C_Transaction dx [])) := fun x u e => by
      rw [upd_ne (ne_of_none e np), upd_ne (ne_of_none e ndx)]; exact e
    have k1 : ∀ x u, H' x = some u → upd H' c (CelO c (.ref st)) x = some u := keep_upd nc
    have k2 : ∀ x u, H2 x = some u → upd H' c (CelO c (.ref st)) x = some u := fun x u e => k1 x u (N.oth x u (ne_of_none e np) (s3 x u e))
    have notT : ∀ {φ : Heap → Prop} (ps : Array Value), HO.ext φ ≠ .tbl ps := fun ps z => nomatch z
    obtain ⟨dx2, ob⟩ := N.ob
    exact k p l wk o ky rg _ ⟨⟨dx2, k1 _ _ ob⟩, ⟨q, q2, c, ec ▸ k2 _ _ (e2 _ _ hl fun ps => notT ps), k2 _ _ (e2 _ _ hq fun ps => notT ps), ec ▸ k2 _ _ hw, k2 _ _ hq2, upd_same⟩, e1.trans (e2.trans (LamX.ExtN.of k2)), t2.ext k2, k1 _ _ N.ho, k1 _ _ N.hk, k1 _ _ N.hr, N.ok_, N.or_, N.kr, fun x u hx nt e => by
      have e3 := s3 x u (e2 x u (e1 x u e nt) nt)
      rcases hx with z | z | z <;> subst z
      · rw [N.no] at e3; cases e3
      · rw [N.nk] at e3; cases e3
      · rw [N.nr] at e3; cases e3⟩
end



section
variable {P : Program} {w : World} {K : PySem.W.Frag} {mg : Str → Option Value} {base : Heap}
theorem e_lamLe {H : Hp} {Q : VK} {a b : Str} (q : Q (.bl (leS a b)) H) : ∃ i j, V.str a = .str i ∧ V.str b = .str j ∧ Q (.bl (!decide (j.cps.toList < i.cps.toList))) H := ⟨a, b, rfl, rfl, q⟩
theorem gv_val {l : List (Key × V)} {k : Key} (h : ∀ p ∈ l, gv p.2) : gv ((valV l k).getD .non) := by
  cases e : valV l k with
  | none => exact .inl rfl
  | some v =>
    unfold valV at e
    obtain ⟨p, hp, rfl⟩ := Option.map_eq_some_iff.mp e
    exact h p (List.mem_of_find?_eq_some hp)
/-- text keys, so many -/
def TKn (l : List (Key × V)) (n : Nat) : Prop := (∃ ks : List Str, l.map (·.1) = ks.map Sum.inr) ∧ l.length ≤ n ∧ ∀ p ∈ l, gv p.2
theorem TKn.put {l : List (Key × V)} {n : Nat} {y : Str} {v : V} (h : TKn l n) (g : gv v) : TKn (putK l (Sum.inr y) v) (n + 1) := by
  obtain ⟨⟨ks, ek⟩, hl, hv⟩ := h
  have hp := length_putK l (Sum.inr y : Key) v
  refine ⟨?_, by omega, vals_putK hv g⟩
  rcases keys_putK (kvs := l) (k := (Sum.inr y : Key)) (v := v) with ⟨_, e⟩ | ⟨_, e⟩
  · exact ⟨ks, e.trans ek⟩
  · exact ⟨ks ++ [y], by rw [e, List.map_append, ek, List.map_append]; rfl⟩
theorem tk_merge : ∀ {zs : List (Str × V)} {acc : List (Key × V)} {n : Nat}, TKn acc n → (∀ z ∈ zs, gv z.2) → TKn (mergeK acc (zs.map fun z => ((Sum.inr z.1 : Key), z.2))) (n + zs.length)
  | [], _, _, h, _ => h
  | z :: zs, acc, n, h, g => by
    have := tk_merge (h.put (y := z.1) (g z List.mem_cons_self)) fun u hu => g u (List.mem_cons_of_mem _ hu)
    rw [List.length_cons, show n + (zs.length + 1) = n + 1 + zs.length by omega]
    exact this
theorem prs_paired {H : Hp} : ∀ {qs : List Addr} {zs : List (Str × V)}, PrsAt H qs zs → Paired (fun p (kv : Key × V) => SqT K H p [kV kv.1, kv.2]) qs (zs.map fun z => ((Sum.inr z.1 : Key), z.2))
  | [], [], _ => .nil
  | [], z :: zs, h => absurd h.1 (by simp)
  | q :: qs, [], h => absurd h.1 (by simp)
  | q :: qs, z :: zs, h => .cons (stO (h.2 0 q z rfl rfl)) (prs_paired ⟨by have := h.1; simpa using this, fun i p y a b => h.2 (i + 1) p y (by simpa using a) (by simpa using b)⟩)
def ovr (own : List (Key × V)) (ws : List Str) (m : List (Key × V)) : List (Key × V) := ws.foldl (fun acc k => putK acc (Sum.inr k) ((valV own (Sum.inr k)).getD .non)) m
theorem tk_ovr {own : List (Key × V)} : ∀ {ws : List Str} {m : List (Key × V)} {n : Nat}, TKn m n → (∀ z : Str, gv ((valV own (Sum.inr z)).getD .non)) → TKn (ovr own ws m) (n + ws.length)
  | [], _, _, h, _ => h
  | z :: ws, m, n, h, g => by
    have := tk_ovr (ws := ws) (h.put (y := z) (g z)) g
    rw [List.length_cons, show n + (ws.length + 1) = n + 1 + ws.length by omega]
    exact this
def mrg (kvs own : List (Key × V)) (x y : Str) (ys0 ys1 : List Str) : List (Key × V) := ovr own (ys1.filter (inR x y)) (mergeK [] (((ys0.filter (inR x y)).map (pairOf kvs)).map fun z => ((Sum.inr z.1 : Key), z.2)))
def nn (m : List (Key × V)) (k : Str) : Bool := !decide ((valV m (Sum.inr k)).getD .non = .non)
structure WkAt (H : Hp) (l st : Addr) (kvs : List (Key × V)) : Prop where
  ex : ∃ q c : Addr, H l = some (FnL l (wkF q c) (lamB wkE)) ∧ H q = some (LamX.CodeO q qLam) ∧ H c = some (CelO c (.ref st))
  st : H st = some (.dK kvs)
theorem s_nput {P : Program} {w : World} {td ty tv : TE} {D : Ends} {σ : L2.St} {H : Hp} (h : tv σ H fun _ H1 => td σ H1 fun x H2 => ty σ H2 fun y H3 => ∃ (a b : Addr) (ents : List (NestedKey × Addr)) (k : NestedKey), x = .ref a ∧ y = .ref b ∧ DnAt P w H3 a ents ∧ Nk H3 k (.ref b) ∧ k.depth ≤ 8 ∧ D.nx σ (upd H3 a (dnO P w a (putN ents k b)))) : sNPut P w td ty tv D σ H := h
mutual
theorem Nk.same {H H' : Hp} (s : Same H H') : ∀ (k : NestedKey) (x : V), Nk H k x → Nk H' k x
  | .none, _, n => by cases n; exact .non
  | .num _, _, n => by cases n; exact .int _
  | .text _, _, n => by cases n; exact .str _
  | .tup ks, _, n => by
    cases n with
    | tup at_ all => exact .tup (s _ _ at_) (NkA.same s ks _ all)
theorem NkA.same {H H' : Hp} (s : Same H H') : ∀ (ks : List NestedKey) (xs : List V), NkA H ks xs → NkA H' ks xs
  | [], _, n => by cases n; exact .nil
  | k :: ks, _, n => by
    cases n with
    | cons n1 n2 => exact .cons (Nk.same s k _ n1) (NkA.same s ks _ n2)
end
theorem DnAt.same {P : Program} {w : World} {H H' : Hp} {a : Addr} {ents : List (NestedKey × Addr)} (h : DnAt P w H a ents) (s : Same H H') : DnAt P w H' a ents := ⟨h.at_.imp (fun q => s _ _ q) (fun q => ⟨s _ _ q.1, q.2⟩), h.len, h.nd, fun p hp => ⟨Nk.same s _ _ (h.keys p hp).1, (h.keys p hp).2⟩⟩
theorem nk_txt {H : Hp} : ∀ ws : List Str, NkA H (ws.map NestedKey.text) (ws.map V.str)
  | [] => .nil
  | z :: ws => .cons (.str z) (nk_txt ws)
theorem dp_all : ∀ ws : List Str, NestedKey.depthAll (ws.map NestedKey.text) = 0
  | [] => by simp [NestedKey.depthAll]
  | z :: ws => by simp [NestedKey.depthAll, NestedKey.depth, dp_all ws]
theorem dp_txt {x y : Str} {ws : List Str} : (NestedKey.tup [.text x, .text y, .tup (ws.map NestedKey.text)]).depth ≤ 8 := by
  simp [NestedKey.depthAll, NestedKey.depth, dp_all ws]
def sp_between (P : Program) (w : World) (K : PySem.W.Frag) (T : Txt K mg) : Sp := fun vs H Q E => ∃ (p : Addr) (t : Tr) (vx vy : V) (own kvs : List (Key × V)) (os ks : List Str) (rents : List (NestedKey × Addr)) (st : Addr), vs = [.ref p, vx, vy] ∧ InsAt T.C_Transaction H p (Tr.fs t) ∧ OdS K H vx ∧ OdS K H vy ∧
  H t.o = some (.dK own) ∧ own.map (·.1) = os.map Sum.inr ∧ os.length + ks.length < 64 ∧ (∀ p ∈ own, gv p.2) ∧ DnAt P w H t.rg rents ∧ rents.length < 100000 ∧ WkAt H t.wk st kvs ∧ kvs.map (·.1) = ks.map Sum.inr ∧ (∀ p ∈ kvs, gv p.2) ∧ t.rg ≠ t.o ∧
  (t.b = true → E (.ref T.e_Ended.C) none H) ∧ (t.b = false → isK vx = false → E (.ref T.e_NoKey.C) none H) ∧ (t.b = false → isK vx = true → isK vy = false → E (.ref T.e_NoKey.C) none H) ∧
  (t.b = false → ∀ x y, vx = .str x → vy = .str y → isK vx = true → isK vy = true →
    (leS x y = false → ∀ r H', H r = none → Same H H' → H' r = some (.lst []) → Q (.ref r) H') ∧
    (leS x y = true → ∀ ys0 ys1 ms ys2 r qs b H', ys0.Perm ks → sortedS ys0 = true → ys1.Perm os → sortedS ys1 = true → (mrg kvs own x y ys0 ys1).map (·.1) = ms.map Sum.inr → ys2.Perm ms → sortedS ys2 = true → H r = none → Oth t.rg H H' →
      DnAt P w H' t.rg (putN rents (.tup [.text x, .text y, .tup ((ys1.filter (inR x y)).map NestedKey.text)]) b) → H' r = some (.lst (qs.map V.ref)) → PrsAt H' qs ((ys2.filter (nn (mrg kvs own x y ys0 ys1))).map (pairOf (mrg kvs own x y ys0 ys1))) → Q (.ref r) H'))
theorem ok_Transaction_between (T : Txt K mg) : FnOk P w K mg base (L2.CX P w) 4 T.m_Transaction_between.f T.m_Transaction_between.fd ["self", "low", "high"] ((sp_between P w K T)) := by
  refine T.m_Transaction_between.F.okX sc_Transaction_between (fun vs H Q E h => ?_) (fun cdv A outer s H vs Q E hr h => ?_)
  · obtain ⟨p, t, vx, vy, own, kvs, os, ks, rents, st, rfl, _⟩ := h
    rfl
  · obtain ⟨p, t, vx, vy, own, kvs, os, ks, rents, st, rfl, h, hx, hy, ho, eo, lt, go, dn, dl, wk, ek, gk, ro, k1, k2, k3, k4⟩ := h
    refine ⟨_, (pss_cons (ps_expr (pe_meth0 (pv 0) T.k_Transaction.cl T.m_Transaction__need_under_way.i (ok_Transaction__need_under_way T) (hr.mono (by decide)) T.m_Transaction__need_under_way.b .nil (passes_call (takes_of rfl rfl rfl rfl) (fun _ _ _ _ h => h))))
    (pss_cons (ps_expr (pe_call (ok_need_key T) (hr.mono (by decide)) (by rfl) T.need_key.g T.need_key.F.kp T.need_key.b .nil (passes_call (takes_of rfl rfl rfl rfl) (fun _ _ _ _ h => h)) (pa_cons (pv 1) pa_nil)))
    (pss_cons (ps_expr (pe_call (ok_need_key T) (hr.mono (by decide)) (by rfl) T.need_key.g T.need_key.F.kp T.need_key.b .nil (passes_call (takes_of rfl rfl rfl rfl) (fun _ _ _ _ h => h)) (pa_cons (pv 2) pa_nil)))
    (pss_cons (ps_if (pt_cmpR op_lt_str (pv 2) (pv 1) (nomark _)) (pss_one (ps_ret (pe_lst pa_nil))) pss_nil)
    (pss_cons (ps_set (i := 3) sc_Transaction_between.nd rfl (Or.inl rfl) (peFld (K := K) (pv 0) rfl))
    (pss_cons (ps_set (i := 4) sc_Transaction_between.nd rfl (Or.inr rfl) (pe_callTy (call_dictP rfl) (by rfl) T.z_dict (by decide +kernel) (pa_cons (pe_callKp (k := 3) (i := 3) (mk := wkF) (b := lamB wkE) (fun f q c => ok_walk T f q c) (fun _ _ => rfl) (hr.mono (by decide)) rfl (Or.inl rfl) (pa_cons (pv 1) (pa_cons (pv 2) pa_nil))) pa_nil)))
    (pss_cons (ps_setLc (i := 5) (own := [("key", 6)]) rfl sc_Transaction_between.nd rfl rfl (sw_true rfl rfl rfl (by decide +kernel)) (piL (K := K) (pe_callB (call_sortedD rfl) (by rfl) T.z_sorted (by decide +kernel) (pa_cons (peFld (K := K) (pv 0) rfl) pa_nil))) (blkOk_by (N := n_Transaction_between) (sc := defScope s_Transaction_between) (by decide +kernel)) (fun _ _ _ _ _ => (pg_name (i := 6) sc_Transaction_between.nd rfl (Or.inl rfl))) (fun _ _ _ _ _ => (pts_one (pt_chain op_le_str op_le_str (pv 1) (pv 6) (pv 2)))) (fun _ _ _ _ _ => (pv 6)))
    (pss_cons (ps_for (passes_of rfl) rfl (piL (K := K) (pv 5)) (pg_name (i := 6) sc_Transaction_between.nd rfl (Or.inl rfl))
      (pss_one (ps_dput (hu_of hr) (pv 4) (pv 6) (pe_dget (hu_of hr) (peFld (K := K) (pv 0) rfl) (pv 6) (fun _ _ => rfl)) rfl)))
    (pss_cons (ps_nput (Nat.lt_of_le_of_lt (Nat.add_le_add_left (by decide) _) hr.units) (peFld (K := K) (pv 0) rfl) (pe_tup (pa_cons (pv 1) (pa_cons (pv 2) (pa_cons (pe_callTy (cTupOf (K := K)) (by rfl) T.z_tuple (by decide +kernel) (pa_cons (pv 5) pa_nil)) pa_nil)))) pe_bl rfl)
    (pss_one (ps_ret (pe_lc (own := [("key", 6)]) rfl sc_Transaction_between.nd (piL (K := K) (pe_callB (call_sortedD rfl) (by rfl) T.z_sorted (by decide +kernel) (pa_cons (pv 4) pa_nil))) (blkOk_by (N := n_Transaction_between) (sc := defScope s_Transaction_between) (by decide +kernel)) (fun _ _ _ _ _ => (pg_name (i := 6) sc_Transaction_between.nd rfl (Or.inl rfl))) (fun _ _ _ _ _ => (pts_one (pt_cmpR oNotN (pe_dget (hu_of hr) (pv 4) (pv 6) (fun _ _ => rfl)) pe_non (nomark _)))) (fun _ _ _ _ _ => (pe_tup (pa_cons (pv 6) (pa_cons (pe_dget (hu_of hr) (pv 4) (pv 6) (fun _ _ => rfl)) pa_nil)))))))))))))))), ?_⟩
    walk_at "go"
    refine m_call0 h (tf_no _ _ _ _ _ _ _ (by decide +kernel)) ?_
    refine ⟨p, t, rfl, h, fun e => ?_, k1⟩
    walk_at "go"
    refine ⟨vx, rfl, hx, fun ex => ?_, k2 e⟩
    walk_at "go"
    refine ⟨vy, rfl, hy, fun ey => ?_, k3 e ex⟩
    obtain ⟨x, rfl⟩ := isK_str ex
    obtain ⟨y, rfl⟩ := isK_str ey
    obtain ⟨k5, k6⟩ := k4 e x y rfl rfl ex ey
    clear k1 k2 k3 k4
    walk_at "go"
    refine ⟨y, x, rfl, rfl, ?_⟩
    cases e0 : decide (y.cps.toList < x.cps.toList) with
    | true =>
      refine ⟨true, rfl, ?_⟩
      rw [if_pos rfl]
      walk_at "go"
      refine n_new (le_size (by simp)) fun r H1 n1 s1 h1 => ?_
      exact k5 (by unfold leS; rw [e0]; rfl) r H1 n1 s1 h1
    | false =>
      refine ⟨false, rfl, ?_⟩
      rw [if_neg Bool.false_ne_true]
      have k6 := k6 (by unfold leS; rw [e0]; rfl)
      walk_at "go"
      refine o_fld h T.k_Transaction.cl T.n_Transaction__walk (tf_w _ _ _ _ _ _ _) ?_
      walk_at "go"
      obtain ⟨⟨q, c, h1, h2, h3⟩, h4⟩ := wk
      have sc : st ≠ c := fun z => by
        rw [z, h3] at h4
        exact nomatch (show HO.ext _ = HO.dK kvs from Option.some.inj h4)
      refine ⟨t.wk, q, c, .ref st, rfl, h1, ?_⟩
      walk_at "go"
      refine ⟨h1, h2, h3, st, x, y, rfl, rfl, st, kvs, ks, x, y, rfl, (del_ne sc).trans h4, ek, by omega, fun ys0 p0 qs0 G1 pm0 so0 s1 g1 pr0 nc => ?_⟩
      have kc := keep_upd (u := CelO c (.ref st)) nc
      have S1 : Same H (upd G1 c (CelO c (.ref st))) := fun b u z => by
        by_cases bc : b = c
        · rw [bc, h3] at z
          cases z
          rw [bc]; exact upd_same
        · exact kc b u (s1 b u ((del_ne bc).trans z))
      have g1' := kc _ _ g1
      have pr1 := pr0.mv fun b xs z => kc b _ z
      generalize upd G1 c (CelO c (.ref st)) = G at *
      walk_at "go"
      refine ⟨p0, qs0, _, rfl, slO g1', prs_paired pr1, fun f nf => ?_⟩
      have zl : ((ys0.filter (inR x y)).map (pairOf kvs)).length ≤ ks.length := by
        rw [List.length_map, ← pm0.length_eq]
        exact List.length_filter_le _ _
      have SF := S1.trans (Same.new (o := .dK (mergeK [] (((ys0.filter (inR x y)).map (pairOf kvs)).map fun z => ((Sum.inr z.1 : Key), z.2)))) nf)
      have hf : upd G f (.dK (mergeK [] (((ys0.filter (inR x y)).map (pairOf kvs)).map fun z => ((Sum.inr z.1 : Key), z.2)))) f = some (.dK (mergeK [] (((ys0.filter (inR x y)).map (pairOf kvs)).map fun z => ((Sum.inr z.1 : Key), z.2)))) := upd_same
      have fH : H f = none := free_ S1 nf
      generalize upd G f (.dK (mergeK [] (((ys0.filter (inR x y)).map (pairOf kvs)).map fun z => ((Sum.inr z.1 : Key), z.2)))) = G2 at *
      clear kc g1' pr1 pr0 g1 nc h1 h2 h3 s1 G1 S1 nf G
      have hi : InsAt T.C_Transaction G2 p (Tr.fs t) := h.elim fun dx q => ⟨dx, SF _ _ q⟩
      walk_at "go"
      refine o_fld hi T.k_Transaction.cl T.n_Transaction__own (tf_o _ _ _ _ _ _ _) ?_
      walk_at "go"
      refine ⟨t.o, own, os, rfl, .inl (SF _ _ ho), eo, by omega, fun ys1 r1 pm1 so1 nr1 => ?_⟩
      have S2 := SF.trans (Same.new (o := .lst (ys1.map V.str)) nr1)
      have hf2 := (Same.new (o := .lst (ys1.map V.str)) nr1) _ _ hf
      have hr1 : upd G2 r1 (.lst (ys1.map V.str)) r1 = some (.lst (ys1.map V.str)) := upd_same
      generalize upd G2 r1 (.lst (ys1.map V.str)) = G3 at *
      clear nr1 hi
      have y1l : ys1.length < 64 := by rw [pm1.length_eq]; omega
      refine i_lst (slO hr1) ?_
      refine c_lst (xs := ys1.map V.str) (fun i acc H2 => Same G3 H2 ∧ acc = ((ys1.take i).filter (inR x y)).map V.str) (fun D hD => ⟨upd_free (Same.refl _) hD, rfl⟩) (fun i acc H2 hi p => slO (at_ p.1 hr1)) (fun acc D H2 hD hp2 p => ?_) (fun _ => rfl) (fun i v acc H2 D hv hD hp2 p => ?_)
      · obtain ⟨s4, rfl⟩ := p
        rw [List.length_map, List.take_length] at hp2
        have S4 := S2.trans s4
        have hf4 := at_ s4 hf2
        obtain ⟨ws, ew⟩ : ∃ ws, ys1.filter (inR x y) = ws := ⟨_, rfl⟩
        have wl : ws.length ≤ ys1.length := by rw [← ew]; exact List.length_filter_le _ _
        have wm : ∀ z ∈ ws, z ∈ os := fun z hz => pm1.mem_iff.mp ((List.mem_filter.mp (ew ▸ hz)).1)
        have tk0 : TKn (mergeK [] (((ys0.filter (inR x y)).map (pairOf kvs)).map fun z => ((Sum.inr z.1 : Key), z.2))) (0 + ((ys0.filter (inR x y)).map (pairOf kvs)).length) := tk_merge ⟨⟨[], rfl⟩, Nat.le_refl _, fun p hp => nomatch hp⟩ fun z hz => by
          obtain ⟨u, _, eu⟩ := List.mem_map.mp hz
          rw [← eu]
          exact gv_val gk
        have k7 := fun ms ys2 r qs b H' => k6 ys0 ys1 ms ys2 r qs b H' pm0 so0 pm1 so1
        unfold mrg at k7
        rw [ew] at hp2 k7
        clear k6
        generalize mergeK [] (((ys0.filter (inR x y)).map (pairOf kvs)).map fun z => ((Sum.inr z.1 : Key), z.2)) = m0 at *
        walk_at "go"
        refine i_lst (slO hp2) ?_
        have fne : f ≠ D := ne_of_none hf2 hD
        refine l_lst (xs := ws.map V.str) (fun i σ H' => Oth f H2 H' ∧ ∃ y6 : Option V, σ = [some (.ref p), some (.str x), some (.str y), some (.ref t.wk), some (.ref f), some (.ref D), y6] ∧ H' f = some (.dK (ovr own (ws.take i) m0))) ⟨fun _ _ _ z => z, none, rfl, hf4⟩ (fun i σ H' hi p => slO (p.1 _ _ fne.symm hp2)) (fun σ H' p => ?_) (fun i v σ H' hv p => ?_)
        · obtain ⟨o5, y6, rfl, hf5⟩ := p
          rw [List.length_map, List.take_length] at hf5
          have S5 : Same H H' := fun b o e => o5 b o (ne_of_none e fH) (S4 b o e)
          have hi5 : InsAt T.C_Transaction H' p (Tr.fs t) := h.elim fun dx q => ⟨dx, S5 _ _ q⟩
          have hD5 := o5 _ _ fne.symm hp2
          obtain ⟨⟨ms, em⟩, ml, mg5⟩ := tk_ovr (own := own) (ws := ws) tk0 fun z => gv_val go
          walk_at "go"
          refine s_nput (P := P) (w := w) ?_
          walk_at "go"
          refine o_fld hi5 T.k_Transaction.cl T.n_Transaction__ranges (tf_r _ _ _ _ _ _ _) ?_
          walk_at "go"
          refine n_new0 fun tw H6 n6 s6 h6 => ?_
          walk_at "go"
          refine n_new (le_size (by simp)) fun b H7 n7 s7 h7 => ?_
          have S7 := S5.trans (s6.trans s7)
          have nk : Nk H7 (.tup [.text x, .text y, .tup (ws.map NestedKey.text)]) (.ref b) := .tup h7 (.cons (.str x) (.cons (.str y) (.cons (.tup (at_ s7 h6) (nk_txt ws)) .nil)))
          have dn7 := dn.same S7
          have hf7 := at_ (s6.trans s7) hf5
          refine ⟨t.rg, b, rents, _, rfl, rfl, dn7, nk, dp_txt, ?_⟩
          have D8 := dn7.put nk dp_txt dl
          have O8 : Oth t.rg H (upd H7 t.rg (dnO P w t.rg (putN rents (.tup [.text x, .text y, .tup (ws.map NestedKey.text)]) b))) := fun c o n z => (upd_ne n).trans (S7 c o z)
          have frg : f ≠ t.rg := fun z => by
            rcases dn.at_ with q | ⟨q, _⟩ <;> rw [← z, fH] at q <;> cases q
          have hf8 : upd H7 t.rg (dnO P w t.rg (putN rents (.tup [.text x, .text y, .tup (ws.map NestedKey.text)]) b)) f = _ := (upd_ne frg).trans hf7
          generalize upd H7 t.rg (dnO P w t.rg (putN rents (.tup [.text x, .text y, .tup (ws.map NestedKey.text)]) b)) = H8 at *
          have msl : ms.length < 64 := by
            have := congrArg List.length em
            rw [List.length_map, List.length_map] at this
            have := pm1.length_eq
            omega
          walk_at "go"
          refine ⟨f, ovr own ws m0, ms, rfl, .inl hf8, em, msl, fun ys2 r2 pm2 so2 nr2 => ?_⟩
          have sL : Same H8 (upd H8 r2 (.lst (ys2.map V.str))) := Same.new nr2
          have hr2 : upd H8 r2 (.lst (ys2.map V.str)) r2 = some (.lst (ys2.map V.str)) := upd_same
          generalize upd H8 r2 (.lst (ys2.map V.str)) = H9 at *
          have y2l : ys2.length < 64 := by rw [pm2.length_eq]; exact msl
          refine i_lst (slO hr2) ?_
          refine c_lst (xs := ys2.map V.str) (fun i acc G => Same H9 G ∧ ∃ qs : List Addr, acc = qs.map V.ref ∧ PrsAt G qs (((ys2.take i).filter (nn (ovr own ws m0))).map (pairOf (ovr own ws m0)))) (fun D hD => ⟨upd_free (Same.refl _) hD, [], rfl, rfl, fun i p v a c => by simp at a⟩) (fun i acc G hi p => slO (at_ p.1 hr2)) (fun acc D2 G hD2 hp3 p => ?_) (fun _ => rfl) (fun i v acc G D2 hv hD2 hp3 p => ?_)
          · obtain ⟨s9, qs, rfl, hq⟩ := p
            rw [List.length_map, List.take_length] at hq
            have sG := sL.trans s9
            have fr : H D2 = none := by
              cases e : H D2 with
              | none => rfl
              | some u =>
                exfalso
                by_cases z : D2 = t.rg
                · rcases D8.at_ with q | ⟨q, _⟩ <;> (have := sL _ _ q; rw [← z, hD2] at this; cases this)
                · have := sL _ _ (O8 D2 u z e)
                  rw [hD2] at this; cases this
            exact k7 ms ys2 D2 qs b G em pm2 so2 fr (O8.trans fun c o _ z => sG c o z) (D8.same sG) hp3 hq
          · obtain ⟨s9, qs, rfl, hq⟩ := p
            have hi' : i < ys2.length := by
              have := (List.getElem?_eq_some_iff.mp hv).1
              simpa using this
            have ex : v = .str ys2[i] := by
              rw [List.getElem?_map, List.getElem?_eq_getElem hi'] at hv
              exact (Option.some.inj hv).symm
            subst ex
            have more : (ys2.take (i + 1)) = ys2.take i ++ [ys2[i]] := by rw [List.take_add_one, List.getElem?_eq_getElem hi']; rfl
            obtain ⟨u, hu⟩ := has_key em (pm2.mem_iff.mp (List.getElem_mem hi'))
            have ql : (((ys2.take i).filter (nn (ovr own ws m0))).map (pairOf (ovr own ws m0))).length ≤ 64 := by
              rw [List.length_map]
              exact Nat.le_trans (List.length_filter_le _ _) (by rw [List.length_take]; omega)
            generalize ys2[i] = z at *
            have gu : gv u := by
              have := gv_val (k := (Sum.inr z : Key)) mg5
              rw [hu] at this
              exact this
            have hfG := at_ s9 (at_ sL hf8)
            walk_at "go"
            refine e_dgetT ?_
            walk_at "go"
            refine ⟨f, u, rfl, hu ▸ DGet.k (k := Sum.inr z) hfG, ?_⟩
            rcases gu with rfl | ⟨n, rfl, _⟩
            · walk_at "go"
              refine ⟨_, hp3, s9, qs, rfl, ?_⟩
              rw [more, List.filter_append, List.filter_cons_of_neg (by unfold nn; rw [hu]; simp), List.filter_nil, List.append_nil]
              exact hq
            · walk_at "go"
              refine e_dgetT ?_
              walk_at "go"
              refine ⟨f, .int n, rfl, hu ▸ DGet.k (k := Sum.inr z) hfG, ?_⟩
              walk_at "go"
              refine n_new (le_size (by simp)) fun p4 H4 n4 s4' h4 => ?_
              have hp4 := at_ s4' hp3
              have hl2 := hq.1
              refine ⟨_, hp4, lt_size (by rw [List.length_map, hl2]; omega), _, upd_same, upd_free (s9.trans s4') hD2, qs ++ [p4], by rw [List.map_append]; rfl, ?_⟩
              rw [more, List.filter_append, List.filter_cons_of_pos (by unfold nn; rw [hu]; simp), List.filter_nil, List.map_append]
              have keep : ∀ b xs, H4 b = some (.tup xs) → upd H4 D2 (.lst (qs.map V.ref ++ [V.ref p4])) b = some (.tup xs) := fun b xs e => (upd_ne fun y => by rw [y, hp4] at e; cases e).trans e
              refine (hq.mv fun b xs e => keep b xs (s4' _ _ e)).app (keep _ _ ?_)
              show H4 p4 = some (.tup [.str z, (valV (ovr own ws m0) (Sum.inr z)).getD .non])
              rw [hu]
              exact h4
        · obtain ⟨o5, y6, rfl, hf5⟩ := p
          have hi' : i < ws.length := by
            have := (List.getElem?_eq_some_iff.mp hv).1
            simpa using this
          have ex : v = .str ws[i] := by
            rw [List.getElem?_map, List.getElem?_eq_getElem hi'] at hv
            exact (Option.some.inj hv).symm
          subst ex
          have more : (ws.take (i + 1)) = ws.take i ++ [ws[i]] := by rw [List.take_add_one, List.getElem?_eq_getElem hi']; rfl
          obtain ⟨u, hu⟩ := has_key eo (wm _ (List.getElem_mem hi'))
          have lk := (tk_ovr (own := own) (ws := ws.take i) tk0 fun z => gv_val go).2.1
          rw [List.length_take] at lk
          generalize ws[i] = z at *
          have ok5 : ∀ b o, H b = some o → b ≠ f → H' b = some o := fun b o e n => o5 b o n (S4 b o e)
          have nf' : ∀ b o, H b = some o → b ≠ f := fun b o e => ne_of_none e fH
          have hi5 : InsAt T.C_Transaction H' p (Tr.fs t) := h.elim fun dx q => ⟨dx, ok5 _ _ q (nf' _ _ q)⟩
          walk_at "go"
          refine e_dgetT ?_
          walk_at "go"
          refine o_fld hi5 T.k_Transaction.cl T.n_Transaction__own (tf_o _ _ _ _ _ _ _) ?_
          walk_at "go"
          refine ⟨t.o, u, rfl, hu ▸ DGet.k (k := Sum.inr z) (ok5 _ _ ho (nf' _ _ ho)), ?_⟩
          walk_at "go"
          refine ⟨f, _, rfl, DPut.k (k := Sum.inr z) hf5 (lt_size (by omega)), ?_⟩
          refine ⟨o5.trans oth_upd, _, rfl, ?_⟩
          rw [upd_same, more]
          unfold ovr
          rw [List.foldl_append, List.foldl_cons, List.foldl_nil, hu]; rfl
      · obtain ⟨s4, rfl⟩ := p
        have hi' : i < ys1.length := by
          have := (List.getElem?_eq_some_iff.mp hv).1
          simpa using this
        have ex : v = .str ys1[i] := by
          rw [List.getElem?_map, List.getElem?_eq_getElem hi'] at hv
          exact (Option.some.inj hv).symm
        subst ex
        have more : (ys1.take (i + 1)) = ys1.take i ++ [ys1[i]] := by rw [List.take_add_one, List.getElem?_eq_getElem hi']; rfl
        have al : (((ys1.take i).filter (inR x y)).map V.str).length ≤ 64 := by
          rw [List.length_map]
          exact Nat.le_trans (List.length_filter_le _ _) (by rw [List.length_take]; omega)
        generalize ys1[i] = z at *
        have out : inR x y z = false → ∃ acc2, H2 D = some (.lst acc2) ∧ Same G3 H2 ∧ acc2 = ((ys1.take (i + 1)).filter (inR x y)).map V.str := fun e => by
          refine ⟨_, hp2, s4, ?_⟩
          rw [more, List.filter_append, List.filter_cons_of_neg (by rw [e]; exact Bool.false_ne_true), List.filter_nil, List.append_nil]
        walk_at "go"
        refine ⟨x, z, rfl, rfl, leS x z, rfl, ?_⟩
        cases e1 : leS x z with
        | false =>
          rw [if_neg Bool.false_ne_true]
          refine ⟨false, rfl, ?_⟩
          rw [if_neg Bool.false_ne_true]
          exact out (by unfold inR; rw [e1]; rfl)
        | true =>
          rw [if_pos rfl]
          walk_at "go"
          refine ⟨z, y, rfl, rfl, leS z y, rfl, ?_⟩
          cases e2 : leS z y with
          | false =>
            rw [if_neg Bool.false_ne_true]
            exact out (by unfold inR; rw [e1, e2]; rfl)
          | true =>
            rw [if_pos rfl]
            have inn : inR x y z = true := by unfold inR; rw [e1, e2]; rfl
            walk_at "go"
            refine ⟨_, hp2, lt_size (by omega), _, upd_same, upd_free s4 hD, ?_⟩
            rw [more, List.filter_append, List.filter_cons_of_pos inn, List.filter_nil, List.map_append]; rfl
end



section
variable {P : Program} {w : World} {K : PySem.W.Frag} {mg : Str → Option Value} {base : Heap}
/-! ### lists in order are told by what is in them -/
theorem str_ext {a b : Str} (h : a.cps.toList = b.cps.toList) : a = b := by
  cases a; cases b
  exact congrArg Str.mk (Array.toList_inj.mp h)
def leP (a b : Str) : Prop := ¬ b.cps.toList < a.cps.toList
theorem leP.trans {a b c : Str} (h : leP a b) (k : leP b c) : leP a c := List.not_lt.mpr (List.le_trans (List.not_lt.mp h) (List.not_lt.mp k))
theorem leP.anti {a b : Str} (h : leP a b) (k : leP b a) : a = b := str_ext (List.le_antisymm (List.not_lt.mp h) (List.not_lt.mp k))
theorem rising_pw : ∀ {l : List Str} {p : Str}, risingS p l = true → (p :: l).Pairwise leP
  | [], p, _ => List.pairwise_singleton _ _
  | x :: r, p, h => by
    have h : (!ltCps x.cps.toList p.cps.toList && risingS x r) = true := h
    rw [Bool.and_eq_true, ltCps_eq] at h
    have ih := rising_pw h.2
    have px : leP p x := by
      have := h.1
      simpa [leP] using this
    refine List.pairwise_cons.mpr ⟨fun y hy => ?_, ih⟩
    rcases List.mem_cons.mp hy with z | z
    · rw [z]; exact px
    · exact px.trans ((List.pairwise_cons.mp ih).1 y z)
theorem sorted_pw {l : List Str} (h : sortedS l = true) : l.Pairwise leP := by
  cases l with
  | nil => exact List.Pairwise.nil
  | cons x r => exact rising_pw h
theorem srt_eq {l m : List Str} (hl : l.Pairwise leP) (hm : m.Pairwise leP) (nl : l.Nodup) (nm : m.Nodup) (h : ∀ z, z ∈ l ↔ z ∈ m) : l = m :=
  List.Perm.eq_of_pairwise (le := leP) (fun _ _ _ _ a b => a.anti b) hl hm ((List.perm_ext_iff_of_nodup nl nm).mpr h)
theorem leS_iff {a b : Str} : leS a b = true ↔ leP a b := by unfold leS leP; simp
theorem inr_none {x y z : Str} (h : leS x y = false) : inR x y z = false := by
  cases e : inR x y z with
  | false => rfl
  | true =>
    unfold inR at e
    rw [Bool.and_eq_true, leS_iff, leS_iff] at e
    rw [leS_iff.mpr (e.1.trans e.2)] at h; cases h
/-! ### what a dict tells that is filled and changed -/
theorem nd_keys {l : List (Key × V)} {ks : List Str} (e : l.map (·.1) = ks.map Sum.inr) (n : (l.map (·.1)).Nodup) : ks.Nodup := by
  rw [e] at n
  exact (List.pairwise_map.mp n).imp fun h z => h (congrArg _ z)
theorem key_iff {l : List (Key × V)} {ks : List Str} {y : Str} (e : l.map (·.1) = ks.map Sum.inr) : y ∈ ks ↔ ∃ v, valV l (Sum.inr y) = some v := by
  refine ⟨has_key e, fun ⟨v, h⟩ => ?_⟩
  have := valV_in h
  rw [e] at this
  obtain ⟨z, hz, q⟩ := List.mem_map.mp this
  cases q; exact hz
theorem nd_put {l : List (Key × V)} {k : Key} {v : V} (h : (l.map (·.1)).Nodup) : ((putK l k v).map (·.1)).Nodup := by
  rcases keys_putK (kvs := l) (k := k) (v := v) with ⟨_, e⟩ | ⟨no, e⟩
  · rw [e]; exact h
  · rw [e, List.map_append]
    exact List.nodup_append.mpr ⟨h, List.nodup_cons.mpr ⟨List.not_mem_nil, List.nodup_nil⟩, fun a ha b hb z => no (by
        have hb : b = k := List.mem_singleton.mp hb
        rw [← hb, ← z]; exact ha)⟩
theorem ovr_nd {own : List (Key × V)} : ∀ {ws : List Str} {m : List (Key × V)}, (m.map (·.1)).Nodup → ((ovr own ws m).map (·.1)).Nodup
  | [], _, h => h
  | z :: ws, m, h => ovr_nd (ws := ws) (nd_put h)
theorem ovr_val {own : List (Key × V)} {z : Str} : ∀ {ws : List Str} {m : List (Key × V)}, valV (ovr own ws m) (Sum.inr z) = if z ∈ ws then some ((valV own (Sum.inr z)).getD .non) else valV m (Sum.inr z)
  | [], _ => by rw [if_neg List.not_mem_nil]; rfl
  | y :: ws, m => by
    show valV (ovr own ws (putK m (Sum.inr y) ((valV own (Sum.inr y)).getD .non))) (Sum.inr z) = _
    rw [ovr_val (ws := ws), valV_put]
    by_cases h : z ∈ ws
    · rw [if_pos h, if_pos (List.mem_cons_of_mem _ h)]
    · rw [if_neg h]
      by_cases e : z = y
      · rw [if_pos (congrArg _ e), if_pos (by rw [e]; exact List.mem_cons_self), e]
      · rw [if_neg (fun q => e (Sum.inr.inj q)), if_neg (fun q => (List.mem_cons.mp q).elim e h)]
abbrev prK (z : Str × V) : Key × V := ((Sum.inr z.1 : Key), z.2)
theorem mrk_nd {kvs : List (Key × V)} : ∀ {ys : List Str} {acc : List (Key × V)}, (acc.map (·.1)).Nodup → ((mergeK acc ((ys.map (pairOf kvs)).map prK)).map (·.1)).Nodup
  | [], _, h => h
  | y :: ys, acc, h => mrk_nd (ys := ys) (nd_put h)
theorem mrk_val {kvs : List (Key × V)} {z : Str} : ∀ {ys : List Str} {acc : List (Key × V)}, valV (mergeK acc ((ys.map (pairOf kvs)).map prK)) (Sum.inr z) = if z ∈ ys then some ((valV kvs (Sum.inr z)).getD .non) else valV acc (Sum.inr z)
  | [], _ => by rw [if_neg List.not_mem_nil]; rfl
  | y :: ys, acc => by
    show valV (mergeK (putK acc (Sum.inr y) ((valV kvs (Sum.inr y)).getD .non)) ((ys.map (pairOf kvs)).map prK)) (Sum.inr z) = _
    rw [mrk_val (ys := ys), valV_put]
    by_cases h : z ∈ ys
    · rw [if_pos h, if_pos (List.mem_cons_of_mem _ h)]
    · rw [if_neg h]
      by_cases e : z = y
      · rw [if_pos (congrArg _ e), if_pos (by rw [e]; exact List.mem_cons_self), e]
      · rw [if_neg (fun q => e (Sum.inr.inj q)), if_neg (fun q => (List.mem_cons.mp q).elim e h)]
theorem drop_val {l : List (Key × V)} {k j : Key} : valV (dropK l k) j = if j = k then none else valV l j := by
  induction l with
  | nil => rw [show dropK ([] : List (Key × V)) k = [] from rfl, valV_nil]; split <;> rfl
  | cons p r ih =>
    by_cases e : p.1 = k
    · rw [dropK_pos e, ih]
      by_cases q : j = k
      · rw [if_pos q, if_pos q]
      · rw [if_neg q, if_neg q, valV_neg (by rw [e]; exact fun z => q z.symm)]
    · rw [dropK_neg e]
      by_cases q : p.1 = j
      · rw [valV_pos q, valV_pos q, if_neg (by rw [← q]; exact e)]
      · rw [valV_neg q, valV_neg q, ih]
/-- what is told of a key: its own worth, or what lies under it -/
def mval (own kvs : List (Key × V)) (z : Str) : Option V := match valV own (Sum.inr z) with
  | some v => some v
  | none => valV kvs (Sum.inr z)
abbrev nb (v : V) : Bool := !decide (v = .non)
def Rel3 (own kvs pl : List (Key × V)) : Prop := ∀ z : Str, valV pl (Sum.inr z) = (mval own kvs z).filter nb
theorem rel_new {kvs : List (Key × V)} (h : ∀ p ∈ kvs, p.2 ≠ V.non) : Rel3 [] kvs kvs := fun z => by
  show _ = (valV kvs (Sum.inr z)).filter nb
  cases e : valV kvs (Sum.inr z) with
  | none => rfl
  | some v =>
    have nv : v ≠ .non := by
      unfold valV at e
      obtain ⟨p, hp, rfl⟩ := Option.map_eq_some_iff.mp e
      exact h p (List.mem_of_find?_eq_some hp)
    rw [Option.filter_some_pos (by simp [nb, nv])]
theorem mval_put {own kvs : List (Key × V)} {k z : Str} {v : V} : mval (putK own (Sum.inr k) v) kvs z = if z = k then some v else mval own kvs z := by
  unfold mval
  rw [valV_put]
  by_cases e : z = k
  · rw [if_pos (congrArg _ e), if_pos e]
  · rw [if_neg (fun q => e (Sum.inr.inj q)), if_neg e]
theorem Rel3.put {own kvs pl : List (Key × V)} {k : Str} {v : V} (h : Rel3 own kvs pl) (n : v ≠ .non) : Rel3 (putK own (Sum.inr k) v) kvs (putK pl (Sum.inr k) v) := fun z => by
  rw [valV_put, mval_put]
  by_cases e : z = k
  · rw [if_pos (congrArg _ e), if_pos e, Option.filter_some_pos (by simp [nb, n])]
  · rw [if_neg (fun q => e (Sum.inr.inj q)), if_neg e, h z]
theorem Rel3.drop {own kvs pl pl' : List (Key × V)} {k : Str} (h : Rel3 own kvs pl) (d : ∀ z : Str, valV pl' (Sum.inr z) = if z = k then none else valV pl (Sum.inr z)) : Rel3 (putK own (Sum.inr k) .non) kvs pl' := fun z => by
  rw [d, mval_put]
  by_cases e : z = k
  · rw [if_pos e, if_pos e, Option.filter_some_neg (by simp [nb])]
  · rw [if_neg e, if_neg e, h z]
theorem Rel3.get {own kvs pl : List (Key × V)} {x : Str} (h : Rel3 own kvs pl) (nk : ∀ p ∈ kvs, p.2 ≠ V.non) : (valV pl (Sum.inr x)).getD .non = (mval own kvs x).getD .non := by
  rw [h x]
  cases e : mval own kvs x with
  | none => rfl
  | some v =>
    by_cases n : v = .non
    · subst n; rw [Option.filter_some_neg (by simp [nb])]; rfl
    · rw [Option.filter_some_pos (by simp [nb, n])]
theorem mrg_val {own kvs : List (Key × V)} {os ks ys0 ys1 : List Str} {x y z : Str} (eo : own.map (·.1) = os.map Sum.inr) (ek : kvs.map (·.1) = ks.map Sum.inr) (p0 : ys0.Perm ks) (p1 : ys1.Perm os) :
    valV (mrg kvs own x y ys0 ys1) (Sum.inr z) = if inR x y z then mval own kvs z else none := by
  unfold mrg
  rw [ovr_val]
  show (if z ∈ ys1.filter (inR x y) then _ else valV (mergeK [] (((ys0.filter (inR x y)).map (pairOf kvs)).map prK)) (Sum.inr z)) = _
  rw [mrk_val]
  have m1 : z ∈ ys1.filter (inR x y) ↔ (∃ v, valV own (Sum.inr z) = some v) ∧ inR x y z = true := by rw [List.mem_filter, p1.mem_iff, key_iff eo]
  have m0 : z ∈ ys0.filter (inR x y) ↔ (∃ v, valV kvs (Sum.inr z) = some v) ∧ inR x y z = true := by rw [List.mem_filter, p0.mem_iff, key_iff ek]
  unfold mval
  cases e : inR x y z with
  | false =>
    rw [if_neg (fun q => by have := (m1.mp q).2; rw [e] at this; cases this), if_neg (fun q => by have := (m0.mp q).2; rw [e] at this; cases this)]; rfl
  | true =>
    rw [if_pos rfl]
    cases e1 : valV own (Sum.inr z) with
    | some v => rw [if_pos (m1.mpr ⟨⟨v, e1⟩, e⟩)]; rfl
    | none =>
      rw [if_neg (fun q => by obtain ⟨v, q⟩ := (m1.mp q).1; rw [e1] at q; cases q)]
      cases e0 : valV kvs (Sum.inr z) with
      | some v => rw [if_pos (m0.mpr ⟨⟨v, e0⟩, e⟩)]; rfl
      | none => rw [if_neg (fun q => by obtain ⟨v, q⟩ := (m0.mp q).1; rw [e0] at q; cases q)]; rfl
theorem told_eq {own kvs pl : List (Key × V)} {os ks ps ms ys0 ys1 ys2 ys : List Str} {x y : Str} (eo : own.map (·.1) = os.map Sum.inr) (ek : kvs.map (·.1) = ks.map Sum.inr) (ep : pl.map (·.1) = ps.map Sum.inr) (np : (pl.map (·.1)).Nodup) (rel : Rel3 own kvs pl)
    (p0 : ys0.Perm ks) (p1 : ys1.Perm os) (em : (mrg kvs own x y ys0 ys1).map (·.1) = ms.map Sum.inr) (p2 : ys2.Perm ms) (s2 : sortedS ys2 = true) (p : ys.Perm ps) (s : sortedS ys = true) :
    (ys2.filter (nn (mrg kvs own x y ys0 ys1))).map (pairOf (mrg kvs own x y ys0 ys1)) = (ys.filter (inR x y)).map (pairOf pl) := by
  have val : ∀ z, valV (mrg kvs own x y ys0 ys1) (Sum.inr z) = if inR x y z then mval own kvs z else none := fun z => mrg_val eo ek p0 p1
  have nm : ((mrg kvs own x y ys0 ys1).map (·.1)).Nodup := ovr_nd (mrk_nd List.nodup_nil)
  generalize mrg kvs own x y ys0 ys1 = M at *
  have mem : ∀ z, z ∈ ys2.filter (nn M) ↔ z ∈ ys.filter (inR x y) := fun z => by
    rw [List.mem_filter, List.mem_filter, p2.mem_iff, p.mem_iff, key_iff em, key_iff ep, rel z]
    unfold nn
    rw [val z]
    cases e : inR x y z with
    | false => simp
    | true =>
      cases e1 : mval own kvs z with
      | none => simp
      | some v =>
        by_cases n : v = .non
        · subst n; simp [Option.filter_some_neg]
        · simp [n, Option.filter_some_pos]
  have eq : ys2.filter (nn M) = ys.filter (inR x y) := srt_eq ((sorted_pw s2).sublist List.filter_sublist) ((sorted_pw s).sublist List.filter_sublist)
    ((p2.nodup_iff.mpr (nd_keys em nm)).sublist List.filter_sublist) ((p.nodup_iff.mpr (nd_keys ep np)).sublist List.filter_sublist) mem
  rw [eq]
  refine List.map_congr_left fun z hz => ?_
  have h2 := (mem z).mpr hz
  have hi := (List.mem_filter.mp hz).2
  have hn := (List.mem_filter.mp h2).2
  unfold pairOf
  unfold nn at hn
  rw [rel z]
  rw [val z, hi, if_pos rfl] at hn ⊢
  cases e1 : mval own kvs z with
  | none => rw [e1] at hn; simp at hn
  | some v =>
    rw [e1] at hn
    have n : v ≠ .non := by simpa using hn
    rw [Option.filter_some_pos (by simp [nb, n])]
end



section
variable {P : Program} {w : World} {K : PySem.W.Frag} {mg : Str → Option Value} {base : Heap}
/-! ### a turn of the law: what stays, what changes -/
structure Ad where
  st : Addr
  kp : Addr
  pl : Addr
  p : Addr
  l : Addr
  wk : Addr
  o : Addr
  ky : Addr
  rg : Addr
  q : Addr
  q2 : Addr
  c : Addr
  n : Int
  kvs : List (Key × V)
abbrev ch (hd : Addr) (a : Ad) : List Addr := [hd, a.pl, a.o, a.ky, a.rg]
structure Tn (K : PySem.W.Frag) {mg : Str → Option Value} (T : Txt K mg) (H : Hp) (hd : Addr) (a : Ad) : Prop where
  st : H a.st = some (.dK a.kvs)
  kp : H a.kp = some (.dK a.kvs)
  ob : InsAt T.C_Transaction H a.p (tf a.n a.l a.wk false a.o a.ky a.rg)
  fl : H a.l = some (FnL a.l (lkF a.q a.c) (lamB lkE))
  fq : H a.q = some (LamX.CodeO a.q qLam)
  fw : H a.wk = some (FnL a.wk (wkF a.q2 a.c) (lamB wkE))
  fq2 : H a.q2 = some (LamX.CodeO a.q2 qLam)
  fc : H a.c = some (CelO a.c (.ref a.st))
  tabs : LamX.Tabs (tabsL T) H
  chs : ∀ x ∈ ch hd a, (∃ xs, H x = some (.lst xs)) ∨ ∃ d, H x = some (.dK d)
  nst : a.st ∉ ch hd a
  nkp : a.kp ∉ ch hd a
  nd : (ch hd a).Nodup
  sd : Sd a.kvs 8
  ne : ∀ p ∈ a.kvs, p.2 ≠ V.non
def plainO (u : HO) : Prop := (∀ xs, u ≠ .lst xs) ∧ ∀ d, u ≠ .dK d
theorem plainO.ext {φ : Heap → Prop} : plainO (.ext φ) := ⟨fun _ z => (nomatch z), fun _ z => nomatch z⟩
theorem Tn.out {T : Txt K mg} {H : Hp} {hd : Addr} {a : Ad} (t : Tn K T H hd a) {x : Addr} {u : HO} (e : H x = some u) (p : plainO u) : x ∉ ch hd a := fun m => by
  rcases t.chs x m with ⟨xs, z⟩ | ⟨d, z⟩ <;> rw [e] at z
  · exact p.1 xs (Option.some.inj z)
  · exact p.2 d (Option.some.inj z)
structure Ws (P : Program) (w : World) (K : PySem.W.Frag) (H0 : Hp) (B : Bg) (a : Ad) (H : Hp) (i : Nat) (pls own kys : List (Key × V)) (rents : List (NestedKey × Addr)) : Prop where
  fix : ∀ b u, H0 b = some u → b ∉ ch B.hd a → H b = some u
  bag : BagAt K H B
  pl : H a.pl = some (.dK pls)
  ho : H a.o = some (.dK own)
  hk : H a.ky = some (.dK kys)
  dn : DnAt P w H a.rg rents
  sp : Sd pls (8 + i)
  so : Sd own i
  pne : ∀ p ∈ pls, p.2 ≠ V.non
  lk : kys.length ≤ 2 * i
  lr : rents.length ≤ 2 * i
  rel : Rel3 own a.kvs pls
mutual
theorem Nk.tp {H H' : Hp} (s : ∀ b xs, H b = some (.tup xs) → H' b = some (.tup xs)) : ∀ (k : NestedKey) (x : V), Nk H k x → Nk H' k x
  | .none, _, n => by cases n; exact .non
  | .num _, _, n => by cases n; exact .int _
  | .text _, _, n => by cases n; exact .str _
  | .tup ks, _, n => by
    cases n with
    | tup at_ all => exact .tup (s _ _ at_) (NkA.tp s ks _ all)
theorem NkA.tp {H H' : Hp} (s : ∀ b xs, H b = some (.tup xs) → H' b = some (.tup xs)) : ∀ (ks : List NestedKey) (xs : List V), NkA H ks xs → NkA H' ks xs
  | [], _, n => by cases n; exact .nil
  | k :: ks, _, n => by
    cases n with
    | cons n1 n2 => exact .cons (Nk.tp s k _ n1) (NkA.tp s ks _ n2)
end
theorem DnAt.oth {H H' : Hp} {x a : Addr} {ents : List (NestedKey × Addr)} (h : DnAt P w H a ents) (o : Oth x H H') (n : a ≠ x) (nt : ∀ xs, H x ≠ some (.tup xs)) : DnAt P w H' a ents :=
  ⟨h.at_.imp (fun q => o _ _ n q) (fun q => ⟨o _ _ n q.1, q.2⟩), h.len, h.nd, fun p hp => ⟨Nk.tp (fun b xs e => o b _ (fun z => nt xs (z ▸ e)) e) _ _ (h.keys p hp).1, (h.keys p hp).2⟩⟩
theorem bag_oth {B : Bg} {H H' : Hp} {x : Addr} (b : BagAt K H B) (o : Oth x H H') (n : ∀ xs, H x ≠ some (.lst xs)) : BagAt K H' B := by
  obtain ⟨i, big, mx, c, h1, h2, h3⟩ := b
  exact ⟨i, big, mx, c, o _ _ (fun z => n _ (z ▸ h1)) h1, o _ _ (fun z => n _ (z ▸ h2)) h2, h3⟩
theorem dK_lst {H : Hp} {x : Addr} {d : List (Key × V)} (e : H x = some (.dK d)) (xs : List V) : H x ≠ some (.lst xs) := fun z => by rw [e] at z; cases z
theorem dK_tup {H : Hp} {x : Addr} {d : List (Key × V)} (e : H x = some (.dK d)) (xs : List V) : H x ≠ some (.tup xs) := fun z => by rw [e] at z; cases z
theorem dn_lst {H : Hp} {x : Addr} {ents : List (NestedKey × Addr)} (D : DnAt P w H x ents) (xs : List V) : H x ≠ some (.lst xs) := fun z => by
  rcases D.at_ with q | ⟨q, _⟩ <;> rw [z] at q
  · exact nomatch (show HO.lst xs = HO.ext _ from Option.some.inj q)
  · cases q
section
variable {T : Txt K mg} {H0 H H' : Hp} {B : Bg} {a : Ad} {i : Nat} {pls own kys : List (Key × V)} {rents : List (NestedKey × Addr)}
theorem Tn.ds (t : Tn K T H0 B.hd a) : (B.hd ≠ a.pl ∧ B.hd ≠ a.o ∧ B.hd ≠ a.ky ∧ B.hd ≠ a.rg) ∧ (a.pl ≠ a.o ∧ a.pl ≠ a.ky ∧ a.pl ≠ a.rg) ∧ (a.o ≠ a.ky ∧ a.o ≠ a.rg) ∧ a.ky ≠ a.rg := by
  have := t.nd
  simp only [List.nodup_cons, List.mem_cons, List.not_mem_nil, or_false, not_or] at this
  obtain ⟨⟨a1, a2, a3, a4⟩, ⟨b1, b2, b3⟩, ⟨c1, c2⟩, d1, _⟩ := this
  exact ⟨⟨a1, a2, a3, a4⟩, ⟨b1, b2, b3⟩, ⟨c1, c2⟩, d1⟩
theorem Ws.hs (t : Tn K T H0 B.hd a) (h : Ws P w K H0 B a H i pls own kys rents) (s : Hs K B H H') : Ws P w K H0 B a H' i pls own kys rents := by
  obtain ⟨⟨a1, a2, a3, a4⟩, _⟩ := t.ds
  obtain ⟨ys, e0⟩ := bag_lst h.bag
  exact ⟨fun b u e n => s.o b u (fun z => n (by rw [z]; exact List.mem_cons_self)) (h.fix b u e n), s.b, s.o _ _ a1.symm h.pl, s.o _ _ a2.symm h.ho, s.o _ _ a3.symm h.hk, h.dn.oth s.o a4.symm (fun xs z => by rw [e0] at z; cases z), h.sp, h.so, h.pne, h.lk, h.lr, h.rel⟩
theorem Ws.same (h : Ws P w K H0 B a H i pls own kys rents) (s : Same H H') : Ws P w K H0 B a H' i pls own kys rents :=
  ⟨fun b u e n => s b u (h.fix b u e n), bag_same h.bag s, s _ _ h.pl, s _ _ h.ho, s _ _ h.hk, h.dn.same s, h.sp, h.so, h.pne, h.lk, h.lr, h.rel⟩
/-- something of one's own, new since, may change -/
theorem Ws.mine (h : Ws P w K H0 B a H i pls own kys rents) {H1 : Hp} (s : Same H H1) {r : Addr} (n : H r = none) (o : Oth r H1 H') : Ws P w K H0 B a H' i pls own kys rents :=
  h.same fun b u e => o b u (ne_of_none e n) (s b u e)
theorem Sd.ten {l : List (Key × V)} {n : Nat} (h : Sd l n) : l.length ≤ 10 := by
  obtain ⟨ks, e, hk⟩ := h.ks
  have l1 : ks.length ≤ KW.length := (nd_keys e h.nd).length_le_of_subset hk
  have l2 : l.length = ks.length := by simpa using congrArg List.length e
  have l3 : KW.length = 10 := rfl
  omega
theorem Ws.mono {j : Nat} (h : Ws P w K H0 B a H i pls own kys rents) (q : i ≤ j) : Ws P w K H0 B a H j pls own kys rents := by
  have := h.lk; have := h.lr; have := h.sp.len; have := h.so.len; have := h.so.ten
  exact ⟨h.fix, h.bag, h.pl, h.ho, h.hk, h.dn, ⟨h.sp.ks, h.sp.nd, by omega, h.sp.vs⟩, ⟨h.so.ks, h.so.nd, by omega, h.so.vs⟩, h.pne, by omega, by omega, h.rel⟩
theorem Ws.ob (t : Tn K T H0 B.hd a) (h : Ws P w K H0 B a H i pls own kys rents) : InsAt T.C_Transaction H a.p (Tr.fs ⟨a.n, a.l, a.wk, false, a.o, a.ky, a.rg⟩) := by
  obtain ⟨dx, e⟩ := t.ob
  exact ⟨dx, h.fix _ _ e (t.out e ⟨fun _ z => (nomatch z), fun _ z => nomatch z⟩)⟩
theorem Ws.st (t : Tn K T H0 B.hd a) (h : Ws P w K H0 B a H i pls own kys rents) : H a.st = some (.dK a.kvs) := h.fix _ _ t.st t.nst
theorem Ws.kp (t : Tn K T H0 B.hd a) (h : Ws P w K H0 B a H i pls own kys rents) : H a.kp = some (.dK a.kvs) := h.fix _ _ t.kp t.nkp
theorem Ws.lkAt (t : Tn K T H0 B.hd a) (h : Ws P w K H0 B a H i pls own kys rents) : LkAt H a.l a.st a.kvs :=
  ⟨⟨a.q, a.c, h.fix _ _ t.fl (t.out t.fl plainO.ext), h.fix _ _ t.fq (t.out t.fq plainO.ext), h.fix _ _ t.fc (t.out t.fc plainO.ext)⟩, h.st t⟩
theorem Ws.wkAt (t : Tn K T H0 B.hd a) (h : Ws P w K H0 B a H i pls own kys rents) : WkAt H a.wk a.st a.kvs :=
  ⟨⟨a.q2, a.c, h.fix _ _ t.fw (t.out t.fw plainO.ext), h.fix _ _ t.fq2 (t.out t.fq2 plainO.ext), h.fix _ _ t.fc (t.out t.fc plainO.ext)⟩, h.st t⟩
theorem Ws.tabs (t : Tn K T H0 B.hd a) (h : Ws P w K H0 B a H i pls own kys rents) : LamX.Tabs (tabsL T) H := fun p hp => by
  obtain ⟨ps, h1, h2, h3⟩ := t.tabs p hp
  refine ⟨ps, h.fix _ _ h1 (t.out h1 ⟨fun _ z => (nomatch z), fun _ z => nomatch z⟩), h2, fun pos cv hc => ?_⟩
  obtain ⟨c, e1, e2⟩ := h3 pos cv hc
  exact ⟨c, e1, h.fix _ _ e2 (t.out e2 plainO.ext)⟩
theorem Sd.tk {l : List (Key × V)} {n : Nat} (h : Sd l n) : ∃ ks : List Str, l.map (·.1) = ks.map Sum.inr ∧ ks.length = l.length := by
  obtain ⟨ks, e, _⟩ := h.ks
  exact ⟨ks, e, by simpa using (congrArg List.length e).symm⟩
theorem Ws.get (t : Tn K T H0 B.hd a) (h : Ws P w K H0 B a H i pls own kys rents) {x : Str} {Q : VK} {E : XK} (hi : i ≤ 100) (hx : x ∈ KW)
    (k : ∀ H' kys', gv ((valV pls (Sum.inr x)).getD .non) → Ws P w K H0 B a H' (i + 1) pls own kys' rents → kys'.length ≤ kys.length + 1 → Q ((valV pls (Sum.inr x)).getD .non) H') : sp_get K T [.ref a.p, .str x] H Q E := by
  have := h.lk; have := h.lr; have := h.sp.len; have := h.so.len; have := h.so.ten
  obtain ⟨⟨a1, a2, a3, a4⟩, ⟨b1, b2, b3⟩, ⟨c1, c2⟩, d1⟩ := t.ds
  have hg := gv_val (k := Sum.inr x) h.sp.vs
  have hr := h.rel.get (x := x) t.ne
  refine ⟨a.p, ⟨a.n, a.l, a.wk, false, a.o, a.ky, a.rg⟩, .str x, own, kys, a.kvs, a.st, rfl, h.ob t, kw_od hx, h.ho, h.hk, by omega, h.lkAt t, fun z => (by cases z), fun _ z => (by rw [kw_isK hx] at z; cases z), fun _ x2 e2 _ => ?_⟩
  cases e2
  refine ⟨fun v ev => ?_, fun en H' o hk' => ?_⟩
  · have e : (valV pls (Sum.inr x)).getD .non = v := by rw [hr]; unfold mval; rw [ev]; rfl
    rw [← e]
    exact k H kys hg (h.mono (Nat.le_succ i)) (Nat.le_succ _)
  · have e : (valV pls (Sum.inr x)).getD .non = (valV a.kvs (Sum.inr x)).getD .non := by rw [hr]; unfold mval; rw [en]
    rw [← e]
    have hl := length_putK kys (Sum.inr x : Key) (.bl true)
    refine k H' _ hg ⟨fun b u e n => o b u (fun z => n (by rw [z]; simp)) (h.fix b u e n), bag_oth h.bag o (dK_lst h.hk), o _ _ b2 h.pl, o _ _ c1 h.ho, hk', h.dn.oth o d1.symm (dK_tup h.hk), ⟨h.sp.ks, h.sp.nd, by omega, h.sp.vs⟩, ⟨h.so.ks, h.so.nd, by omega, h.so.vs⟩, h.pne, by omega, by omega, h.rel⟩ hl
/-- a list that is none of the turn's own may change -/
theorem Ws.apart {H5 : Hp} {i5 : Nat} {pls5 own5 kys5 : List (Key × V)} {rents5 : List (NestedKey × Addr)} (h5 : Ws P w K H0 B a H5 i5 pls5 own5 kys5 rents5) {r : Addr} (n : H5 r = none) (h : Ws P w K H0 B a H i pls own kys rents) {xs : List V} (e : H r = some (.lst xs)) (o : Oth r H H') : Ws P w K H0 B a H' i pls own kys rents := by
  have dk : ∀ {x : Addr} {d : List (Key × V)}, H x = some (.dK d) → x ≠ r := fun ex z => by rw [z, e] at ex; cases ex
  refine ⟨fun b u e0 nb => o b u (ne_of_none (h5.fix b u e0 nb) n) (h.fix b u e0 nb), ?_, o _ _ (dk h.pl) h.pl, o _ _ (dk h.ho) h.ho, o _ _ (dk h.hk) h.hk, h.dn.oth o (fun z => dn_lst h.dn xs (z ▸ e)) (fun ys z => by rw [e] at z; cases z), h.sp, h.so, h.pne, h.lk, h.lr, h.rel⟩
  obtain ⟨_, _, _, _, g1, g2, _⟩ := h5.bag
  obtain ⟨j, big, mx, c, h1, h2, h3⟩ := h.bag
  exact ⟨j, big, mx, c, o _ _ (ne_of_none g1 n) h1, o _ _ (ne_of_none g2 n) h2, h3⟩
def told (pls : List (Key × V)) (x y : Str) (ys : List Str) : List (Str × V) := (ys.filter (inR x y)).map (pairOf pls)
theorem putN_len {ents : List (NestedKey × Addr)} {k : NestedKey} {b : Addr} : (putN ents k b).length ≤ ents.length + 1 := by
  unfold putN; split
  · omega
  · rw [List.length_append]; exact Nat.le_refl _
/-- the pairs from x to y, told by the transaction -/
theorem Ws.between (t : Tn K T H0 B.hd a) (h : Ws P w K H0 B a H i pls own kys rents) {x y : Str} {Q : VK} {E : XK} (hi : i ≤ 100) (hx : isK (.str x) = true) (hy : isK (.str y) = true) (ox : OdS K H (.str x)) (oy : OdS K H (.str y)) {ps : List Str} (ep : pls.map (·.1) = ps.map Sum.inr)
    (k : ∀ r qs H' rents', H r = none → H' r = some (.lst (qs.map V.ref)) → Oth a.rg H H' → (∀ ys, ys.Perm ps → sortedS ys = true → PrsAt H' qs (told pls x y ys)) → Ws P w K H0 B a H' (i + 1) pls own kys rents' → Q (.ref r) H') : sp_between P w K T [.ref a.p, .str x, .str y] H Q E := by
  have := h.lk; have := h.lr; have := h.sp.len; have := h.so.len; have := h.so.ten; have := t.sd.len
  obtain ⟨⟨a1, a2, a3, a4⟩, ⟨b1, b2, b3⟩, ⟨c1, c2⟩, d1⟩ := t.ds
  obtain ⟨os, eo, lo⟩ := h.so.tk
  obtain ⟨ks, ek, lk⟩ := t.sd.tk
  refine ⟨a.p, ⟨a.n, a.l, a.wk, false, a.o, a.ky, a.rg⟩, .str x, .str y, own, a.kvs, os, ks, rents, a.st, rfl, h.ob t, ox, oy, h.ho, eo, by omega, h.so.vs, h.dn, by omega, h.wkAt t, ek, t.sd.vs, c2.symm, fun z => (by cases z), fun _ z => (by rw [hx] at z; cases z), fun _ _ z => (by rw [hy] at z; cases z), fun _ x2 y2 e1 e2 _ _ => ?_⟩
  cases e1; cases e2
  refine ⟨fun hle r H' nr s hr => ?_, fun hle ys0 ys1 ms ys2 r qs b H' p0 s0 p1 s1 em p2 s2 nr o dn hr pr => ?_⟩
  · refine k r [] H' rents nr hr (fun b u _ z => s b u z) (fun ys _ _ => ?_) ((h.same s).mono (Nat.le_succ i))
    unfold told
    rw [List.filter_eq_nil_iff.mpr (fun z _ => by rw [inr_none hle]; exact Bool.false_ne_true)]
    exact ⟨rfl, fun i q z e => by cases e⟩
  · refine k r qs H' _ nr hr o (fun ys p s => ?_) ⟨fun b u e n => o b u (fun z => n (by rw [z]; simp)) (h.fix b u e n), bag_oth h.bag o (dn_lst h.dn), o _ _ b3 h.pl, o _ _ c2 h.ho, o _ _ d1 h.hk, dn, ⟨h.sp.ks, h.sp.nd, by omega, h.sp.vs⟩, ⟨h.so.ks, h.so.nd, by omega, h.so.vs⟩, h.pne, by omega, ?_, h.rel⟩
    · unfold told
      rw [← told_eq eo ek ep h.sp.nd h.rel p0 p1 em p2 s2 p s]
      exact pr
    · exact Nat.le_trans putN_len (by omega)
theorem Ws.put (t : Tn K T H0 B.hd a) (h : Ws P w K H0 B a H i pls own kys rents) {x : Str} {n : Int} {Q : VK} {E : XK} {H1 : Hp} (hi : i ≤ 100) (hx : x ∈ KW) (n0 : -1000000000000000000 ≤ n) (n1 : n ≤ 1000000000000000000) (o1 : Oth a.pl H H1) (hp : H1 a.pl = some (.dK (putK pls (Sum.inr x) (.int n))))
    (k : ∀ H', Ws P w K H0 B a H' (i + 1) (putK pls (Sum.inr x) (.int n)) (putK own (Sum.inr x) (.int n)) kys rents → Q .non H') : sp_put K T [.ref a.p, .str x, .int n] H1 Q E := by
  have := h.lk; have := h.lr; have := h.sp.len; have := h.so.len; have := h.so.ten
  obtain ⟨⟨a1, a2, a3, a4⟩, ⟨b1, b2, b3⟩, ⟨c1, c2⟩, d1⟩ := t.ds
  have ob1 : InsAt T.C_Transaction H1 a.p (Tr.fs ⟨a.n, a.l, a.wk, false, a.o, a.ky, a.rg⟩) := by
    obtain ⟨dx, e⟩ := h.ob t
    exact ⟨dx, o1 _ _ (fun z => by rw [z, h.pl] at e; cases e) e⟩
  have ho1 := o1 _ _ b1.symm h.ho
  have bag1 := bag_oth h.bag o1 (dK_lst h.pl)
  have dn1 := h.dn.oth o1 b3.symm (dK_tup h.pl)
  refine ⟨a.p, ⟨a.n, a.l, a.wk, false, a.o, a.ky, a.rg⟩, .str x, .int n, own, rfl, ob1, kw_od hx, .inl rfl, ho1, by omega, fun z => (by cases z), fun _ z => (by rw [kw_isK hx] at z; cases z), fun _ _ z => ?_, fun _ _ x2 e2 _ H' o ho' => ?_⟩
  · exfalso
    have : isWo (V.int n) = true := by
      show (decide (-1000000000000000000 ≤ n) && decide (n ≤ 1000000000000000000)) = true
      rw [decide_eq_true n0, decide_eq_true n1]; rfl
    rw [this] at z; cases z
  · cases e2
    have gn : gv (.int n) := .inr ⟨n, rfl, n0, n1⟩
    have e8 : 8 + i + 1 = 8 + (i + 1) := by omega
    exact k H' ⟨fun b u e m => o b u (fun z => m (by rw [z]; simp)) (o1 b u (fun z => m (by rw [z]; simp)) (h.fix b u e m)), bag_oth bag1 o (dK_lst ho1), o _ _ b1 hp, ho', o _ _ c1.symm (o1 _ _ b2.symm h.hk), dn1.oth o c2.symm (dK_tup ho1), e8 ▸ h.sp.put hx gn, h.so.put hx gn, vals_putK (Z := fun v => v ≠ V.non) h.pne (fun z => by cases z), by omega, by omega, h.rel.put (fun z => by cases z)⟩
theorem Sd.dropd {l : List (Key × V)} {n : Nat} {k : Key} (h : Sd l n) : Sd (dropK l k) n := by
  have hl := dropK_le l k
  have := h.len
  obtain ⟨ks, ek, hk⟩ := h.ks
  have sub : ∀ p ∈ dropK l k, p ∈ l := fun p hp => dropK_mem hp
  refine ⟨?_, nd_dropK h.nd, by omega, fun p hp => h.vs p (sub p hp)⟩
  have : ∀ m : List (Key × V), (∀ p ∈ m, ∃ y : Str, p.1 = Sum.inr y ∧ y ∈ KW) → ∃ ks : List Str, m.map (·.1) = ks.map Sum.inr ∧ ∀ y ∈ ks, y ∈ KW := fun m => by
    induction m with
    | nil => exact fun _ => ⟨[], rfl, fun y h => nomatch h⟩
    | cons p r ih =>
      intro hm
      obtain ⟨ks, e, hk⟩ := ih fun q hq => hm q (List.mem_cons_of_mem _ hq)
      obtain ⟨y, ey, hy⟩ := hm p List.mem_cons_self
      exact ⟨y :: ks, by rw [List.map_cons, e, ey]; rfl, fun z hz => (List.mem_cons.mp hz).elim (fun q => q ▸ hy) (hk z)⟩
  refine this _ fun p hp => ?_
  have m : p.1 ∈ l.map (·.1) := List.mem_map.mpr ⟨p, sub p hp, rfl⟩
  rw [ek] at m
  obtain ⟨y, hy, e⟩ := List.mem_map.mp m
  exact ⟨y, e.symm, hk y hy⟩
theorem Ws.drop (t : Tn K T H0 B.hd a) (h : Ws P w K H0 B a H i pls own kys rents) {x : Str} {pls' : List (Key × V)} {Q : VK} {E : XK} {H1 : Hp} (hi : i ≤ 100) (hx : x ∈ KW) (o1 : Oth a.pl H H1) (hp : H1 a.pl = some (.dK pls')) (sp : Sd pls' (8 + i)) (ne : ∀ p ∈ pls', p.2 ≠ V.non) (d : ∀ z : Str, valV pls' (Sum.inr z) = if z = x then none else valV pls (Sum.inr z))
    (k : ∀ H', Ws P w K H0 B a H' (i + 1) pls' (putK own (Sum.inr x) .non) kys rents → Q .non H') : sp_drop K T [.ref a.p, .str x] H1 Q E := by
  have := h.lk; have := h.lr; have := sp.len; have := h.so.len; have := h.so.ten
  obtain ⟨⟨a1, a2, a3, a4⟩, ⟨b1, b2, b3⟩, ⟨c1, c2⟩, d1⟩ := t.ds
  have ob1 : InsAt T.C_Transaction H1 a.p (Tr.fs ⟨a.n, a.l, a.wk, false, a.o, a.ky, a.rg⟩) := by
    obtain ⟨dx, e⟩ := h.ob t
    exact ⟨dx, o1 _ _ (fun z => by rw [z, h.pl] at e; cases e) e⟩
  have ho1 := o1 _ _ b1.symm h.ho
  have bag1 := bag_oth h.bag o1 (dK_lst h.pl)
  have dn1 := h.dn.oth o1 b3.symm (dK_tup h.pl)
  refine ⟨a.p, ⟨a.n, a.l, a.wk, false, a.o, a.ky, a.rg⟩, .str x, own, rfl, ob1, kw_od hx, ho1, by omega, fun z => (by cases z), fun _ z => (by rw [kw_isK hx] at z; cases z), fun _ x2 e2 _ H' o ho' => ?_⟩
  cases e2
  exact k H' ⟨fun b u e m => o b u (fun z => m (by rw [z]; simp)) (o1 b u (fun z => m (by rw [z]; simp)) (h.fix b u e m)), bag_oth bag1 o (dK_lst ho1), o _ _ b1 hp, ho', o _ _ c1.symm (o1 _ _ b2.symm h.hk), dn1.oth o c2.symm (dK_tup ho1), ⟨sp.ks, sp.nd, by omega, sp.vs⟩, h.so.put hx (.inl rfl), ne, by omega, by omega, h.rel.drop d⟩
end
/-! ### two lists that tell the same pairs are equal -/
theorem prs_eqx {H : Hp} : ∀ {zs : List (Str × V)} {qs qs' : List Addr}, PrsAt H qs zs → PrsAt H qs' zs → (∀ z ∈ zs, flatB z.2 = true) → Paired (EqX K H 20) (qs.map V.ref) (qs'.map V.ref)
  | [], [], [], _, _, _ => .nil
  | [], q :: qs, _, h, _, _ => absurd h.1 (by simp)
  | [], [], q :: qs', _, h, _ => absurd h.1 (by simp)
  | z :: zs, [], _, h, _, _ => absurd h.1 (by simp)
  | z :: zs, q :: qs, [], _, h, _ => absurd h.1 (by simp)
  | z :: zs, q :: qs, q' :: qs', h, h', f => by
    refine .cons ?_ (prs_eqx (zs := zs) ⟨by simpa using h.1, fun i p y a b => h.2 (i + 1) p y (by simpa using a) (by simpa using b)⟩ ⟨by simpa using h'.1, fun i p y a b => h'.2 (i + 1) p y (by simpa using a) (by simpa using b)⟩ fun y hy => f y (List.mem_cons_of_mem _ hy))
    refine .inr (.inl ⟨q, q', _, _, rfl, rfl, stO (h.2 0 q z rfl rfl), stO (h'.2 0 q' z rfl rfl), .cons (.inl ⟨rfl, rfl⟩) (.cons (.inl ⟨rfl, f z List.mem_cons_self⟩) .nil)⟩)
theorem told_flat {pls : List (Key × V)} {x y : Str} {ys : List Str} (h : ∀ p ∈ pls, gv p.2) : ∀ z ∈ told pls x y ys, flatB z.2 = true := fun z hz => by
  obtain ⟨u, _, e⟩ := List.mem_map.mp hz
  subst e
  rcases gv_val (k := (Sum.inr u : Key)) h with e | ⟨n, e, _⟩
  · show flatB ((valV pls (Sum.inr u)).getD .non) = true
    rw [e]; rfl
  · show flatB ((valV pls (Sum.inr u)).getD .non) = true
    rw [e]; rfl
theorem val_mem : ∀ {l : List (Key × V)} {p : Key × V}, (l.map (·.1)).Nodup → p ∈ l → valV l p.1 = some p.2
  | q :: l, p, n, h => by
    have n : (q.1 :: l.map (·.1)).Nodup := n
    rcases List.mem_cons.mp h with e | m
    · rw [e]; exact valV_pos rfl
    · rw [valV_neg (fun z => (List.nodup_cons.mp n).1 (z ▸ List.mem_map.mpr ⟨p, m, rfl⟩))]
      exact val_mem (List.nodup_cons.mp n).2 m
theorem gv_flat {v : V} (g : gv v) : flatB v = true := by
  rcases g with rfl | ⟨n, rfl, _⟩ <;> rfl
theorem tabs_oth {TL : List (Addr × Str)} {H H' : Hp} {x : Addr} {u : HO} (t : LamX.Tabs TL H) (o : Oth x H H') (e : H x = some u) (p : (∀ φ, u ≠ .ext φ) ∧ ∀ ps, u ≠ .tbl ps) : LamX.Tabs TL H' := fun q hq => by
  obtain ⟨ps, h1, h2, h3⟩ := t q hq
  refine ⟨ps, o _ _ (fun z => by rw [z, e] at h1; exact p.2 _ (Option.some.inj h1)) h1, h2, fun pos cv hc => ?_⟩
  obtain ⟨c, e1, e2⟩ := h3 pos cv hc
  exact ⟨c, e1, o _ _ (fun z => by rw [z, e] at e2; exact p.1 _ (Option.some.inj e2)) e2⟩
theorem s_par {i j : Nat} {ta : TA} {D : Ends} {σ : L2.St} {H : Hp} (h : ta σ H fun vs H1 => ∃ v w, vs = [v, w] ∧ D.nx ((σ.set i (some v)).set j (some w)) H1) : tPar i j ta D σ H := h
theorem s_par3 {i j l : Nat} {ta : TA} {D : Ends} {σ : L2.St} {H : Hp} (h : ta σ H fun vs H1 => ∃ u v w, vs = [u, v, w] ∧ D.nx (((σ.set i (some u)).set j (some v)).set l (some w)) H1) : tPar3 i j l ta D σ H := h
theorem o_neG {v : V} {H : Hp} {Q : VK} (g : gv v) (q : Q (.bl false) H) : rOr rNe (rNeD K) v v H Q := by
  rcases g with rfl | ⟨n, rfl, _⟩
  · exact .inl ⟨rfl, by simpa using q⟩
  · exact .inl ⟨rfl, by simpa using q⟩
end



section
variable {P : Program} {w : World} {K : PySem.W.Frag} {mg : Str → Option Value} {base : Heap}
def sp_law (K : PySem.W.Frag) (PT : Addr) : Sp := fun vs H Q _ => ∃ (a : Addr) (ns : List Int), vs = [.ref a] ∧ SqL K H a (ns.map V.int) ∧ ns.length ≤ 63 ∧ H PT = some (.tbl #[]) ∧ ∀ H', Q (.bl true) H'
theorem ok_law (F : Fun K "law" "law" s_law f fd) (T : Txt K mg) (B_law_made_over : LamX.TabB base mg T.law_made_over.c T.law_made_over.P) : FnOk P w K mg base CX0 5 f fd ["script"] ((sp_law K T.law_made_over.P)) := by
  refine F.ok sc_law (fun vs H Q E h => ?_) (fun cdv A outer s H vs Q E hr h => ?_)
  · obtain ⟨a, ns, rfl, _⟩ := h
    rfl
  · obtain ⟨a, ns0, rfl, hS, hl, hP, k⟩ := h
    refine ⟨_, (pss_cons (ps_set (i := 1) sc_law.nd rfl (Or.inl rfl) (pe_call (ok_law_hand T) (hr.mono (by decide)) (by rfl) T.law_hand.g T.law_hand.F.kp T.law_hand.b .nil pass0 (pa_cons (pv 0) pa_nil)))
    (pss_cons (ps_for PassesOwn.never rfl (pi_range1 (by rfl) T.z_range (pa_cons pe_int pa_nil)) (pg_name (i := 2) sc_law.nd rfl (Or.inl rfl))
      (pss_cons (ps_asg (pe_call (ok_law_snapshot T) (hr.mono (by decide)) (by rfl) T.law_snapshot.g T.law_snapshot.F.kp T.law_snapshot.b .nil pass0 (pa_cons (pv 1) pa_nil)) (pgTup (K := K) (n := 2) (pg_tup (n := 2) rfl (pgs_cons (pg_name (i := 3) sc_law.nd rfl (Or.inl rfl)) (pgs_cons (pg_name (i := 4) sc_law.nd rfl (Or.inl rfl)) pgs_nil)))))
    (pss_cons (ps_par (i := 5) (j := 6) (by rfl) sc_law.nd rfl rfl (by decide) rfl rfl (pa_cons (pe_callTy call_dictD (by rfl) T.z_dict (by decide +kernel) (pa_cons (pv 4) pa_nil)) (pa_cons (pe_callTy call_dictD (by rfl) T.z_dict (by decide +kernel) (pa_cons (pv 4) pa_nil)) pa_nil)) (by rfl))
    (pss_cons (ps_set (i := 7) sc_law.nd rfl (Or.inl rfl) (pe_call (ok_law_made_over T B_law_made_over) (hr.mono (by decide)) (by rfl) T.law_made_over.g T.law_made_over.F.kp T.law_made_over.b .nil pass0 (pa_cons (pv 4) (pa_cons (pv 3) pa_nil))))
    (pss_cons (ps_if (PW.pt (pw_or (pt_cmpR (oNe (K := K) hr.units) (pe_meth0 (pv 7) T.k_Transaction.cl T.m_Transaction_stands_at.i (ok_Transaction_stands_at T) (hr.mono (by decide)) T.m_Transaction_stands_at.b .nil pass0) (pv 3) (nomark _)) (pw_or1 (pt_cmpR op_notBl (pe_meth0 (pv 7) T.k_Transaction.cl T.m_Transaction_is_open.i (ok_Transaction_is_open T) (hr.mono (by decide)) T.m_Transaction_is_open.b .nil pass0) pe_bl (nomark _))))) (pss_one (ps_ret pe_bl)) pss_nil)
    (pss_cons (ps_for PassesOwn.never rfl (pi_range1 (by rfl) T.z_range (pa_cons (pe_call (ok_law_draw T) (hr.mono (by decide)) (by rfl) T.law_draw.g T.law_draw.F.kp T.law_draw.b .nil pass0 (pa_cons (pv 1) (pa_cons pe_int pa_nil))) pa_nil)) (pg_name (i := 8) sc_law.nd rfl (Or.inl rfl))
      (pss_cons (ps_par3 (i := 9) (j := 10) (l := 11) (by rfl) sc_law.nd rfl rfl rfl (by decide) (by decide) (by decide) rfl rfl rfl (pa_cons (pe_call (ok_law_draw T) (hr.mono (by decide)) (by rfl) T.law_draw.g T.law_draw.F.kp T.law_draw.b .nil pass0 (pa_cons (pv 1) (pa_cons pe_int pa_nil))) (pa_cons (pe_call (ok_law_key T) (hr.mono (by decide)) (by rfl) T.law_key.g T.law_key.F.kp T.law_key.b .nil pass0 (pa_cons (pv 1) pa_nil)) (pa_cons (pe_call (ok_law_key T) (hr.mono (by decide)) (by rfl) T.law_key.g T.law_key.F.kp T.law_key.b .nil pass0 (pa_cons (pv 1) pa_nil)) pa_nil))) (by rfl))
    (pss_one (ps_if (pt_cmpR oLt (pv 9) pe_int (nomark _)) (pss_one (ps_if (PW.pt (pw_or (pt_cmpR (oNe (K := K) hr.units) (pe_meth (pv 7) T.k_Transaction.cl T.m_Transaction_get.i (ok_Transaction_get T) (hr.mono (by decide)) T.m_Transaction_get.b .nil passL (pa_cons (pv 10) pa_nil)) (pe_dget1 (hu_of hr) (pv 6) (pv 10) ⟨by rfl, by rfl, by rfl, by rfl⟩) (nomark _)) (pw_or1 (pt_cmpR (oNe (K := K) hr.units) (pe_meth (pv 7) T.k_Transaction.cl T.m_Transaction_get.i (ok_Transaction_get T) (hr.mono (by decide)) T.m_Transaction_get.b .nil passL (pa_cons (pv 10) pa_nil)) (pe_dget1 (hu_of hr) (pv 6) (pv 10) ⟨by rfl, by rfl, by rfl, by rfl⟩) (nomark _))))) (pss_one (ps_ret pe_bl)) pss_nil)) (pss_one (ps_if (pt_cmpR oLt (pv 9) pe_int (nomark _)) (pss_cons (ps_set (i := 12) sc_law.nd rfl (Or.inl rfl) (pe_meth (pv 7) T.k_Transaction.cl T.m_Transaction_between.i (ok_Transaction_between T) (hr.mono (by decide)) T.m_Transaction_between.b .nil passL (pa_cons (pv 10) (pa_cons (pv 11) pa_nil))))
    (pss_cons (ps_if (PW.pt (pw_or (pt_not (ptTruth (K := K) (pe_callB (cIsi (K := K)) (by rfl) T.z_isinstance (by decide +kernel) (pa_cons (pv 12) (pa_cons (pe_bltn (v := .ty "list") (by rfl) T.z_list (by decide +kernel) rfl) pa_nil))) (by intro _; rfl))) (pw_or1 (pt_cmpR (oNeX (K := K) hr.units) (pv 12) (pe_call (ok_law_walked T) (hr.mono (by decide)) (by rfl) T.law_walked.g T.law_walked.F.kp T.law_walked.b .nil pass0 (pa_cons (pv 6) (pa_cons (pv 10) (pa_cons (pv 11) pa_nil)))) (nomark _))))) (pss_one (ps_ret pe_bl)) pss_nil)
    (pss_cons (ps_expr (peApp (K := K) (pe_bm PySem.F.plainAttrs_list PySem.F.slot_list_append PySem.F.type_list_append mt_append (pv 12) (pa_cons (pe_tup (pa_cons pe_str (pa_cons pe_int pa_nil))) pa_nil))))
    (pss_one (ps_if (pt_cmpR (oNeX (K := K) hr.units) (pe_meth (pv 7) T.k_Transaction.cl T.m_Transaction_between.i (ok_Transaction_between T) (hr.mono (by decide)) T.m_Transaction_between.b .nil passL (pa_cons (pv 10) (pa_cons (pv 11) pa_nil))) (pe_call (ok_law_walked T) (hr.mono (by decide)) (by rfl) T.law_walked.g T.law_walked.F.kp T.law_walked.b .nil pass0 (pa_cons (pv 6) (pa_cons (pv 10) (pa_cons (pv 11) pa_nil)))) (nomark _)) (pss_one (ps_ret pe_bl)) pss_nil))))) (pss_one (ps_if (pt_cmpR oLt (pv 9) pe_int (nomark _)) (pss_cons (ps_dput (hu_of hr) (pv 6) (pv 10) (pe_call (ok_law_worth T) (hr.mono (by decide)) (by rfl) T.law_worth.g T.law_worth.F.kp T.law_worth.b .nil pass0 (pa_cons (pv 1) pa_nil)) rfl)
    (pss_one (ps_if (pt_cmpR oNotN (pe_meth (pv 7) T.k_Transaction.cl T.m_Transaction_put.i (ok_Transaction_put T) (hr.mono (by decide)) T.m_Transaction_put.b .nil passL (pa_cons (pv 10) (pa_cons (pe_dget (hu_of hr) (pv 6) (pv 10) (fun _ _ => rfl)) pa_nil))) pe_non (nomark _)) (pss_one (ps_ret pe_bl)) pss_nil))) (pss_cons (ps_expr (pe_dpop2 (pv 6) (pv 10) pe_non ⟨by rfl, by rfl, by rfl, by rfl⟩))
    (pss_one (ps_if (pt_cmpR oNotN (pe_meth (pv 7) T.k_Transaction.cl T.m_Transaction_drop.i (ok_Transaction_drop T) (hr.mono (by decide)) T.m_Transaction_drop.b .nil passL (pa_cons (pv 10) pa_nil)) pe_non (nomark _)) (pss_one (ps_ret pe_bl)) pss_nil)))))))))))
    (pss_cons (ps_if (PW.pt (pw_or (pt_cmpR (oNeX (K := K) hr.units) (pe_meth (pv 7) T.k_Transaction.cl T.m_Transaction_between.i (ok_Transaction_between T) (hr.mono (by decide)) T.m_Transaction_between.b .nil passL (pa_cons pe_str (pa_cons pe_str pa_nil))) (pe_call (ok_law_walked T) (hr.mono (by decide)) (by rfl) T.law_walked.g T.law_walked.F.kp T.law_walked.b .nil pass0 (pa_cons (pv 6) (pa_cons pe_str (pa_cons pe_str pa_nil)))) (nomark _)) (pw_or1 (pt_cmpR (op_ne_dictA (Nat.lt_of_le_of_lt (Nat.le_add_right _ _) hr.units)) (pv 4) (pv 5) (nomark _))))) (pss_one (ps_ret pe_bl)) pss_nil)
    (pss_one (ps_if (PW.pt (pw_or (pt_cmpR oNotN (pe_meth0 (pv 7) T.k_Transaction.cl T.m_Transaction_end.i (ok_Transaction_end T) (hr.mono (by decide)) T.m_Transaction_end.b .nil passL) pe_non (nomark _)) (pw_or (pt_cmpR op_notBl (pe_meth0 (pv 7) T.k_Transaction.cl T.m_Transaction_is_open.i (ok_Transaction_is_open T) (hr.mono (by decide)) T.m_Transaction_is_open.b .nil pass0) pe_bl (nomark _)) (pw_or1 (pt_cmpR (oNe (K := K) hr.units) (pe_meth0 (pv 7) T.k_Transaction.cl T.m_Transaction_stands_at.i (ok_Transaction_stands_at T) (hr.mono (by decide)) T.m_Transaction_stands_at.b .nil pass0) (pv 3) (nomark _)))))) (pss_one (ps_ret pe_bl)) pss_nil)))))))))
    (pss_one (ps_ret pe_bl)))), ?_⟩
    walk_at "go"
    refine ⟨a, ns0, rfl, hS, hl, fun B H1 nB s1 b1 => ?_⟩
    have tb1 : LamX.Tabs (tabsL T) H1 := fun pp hpp => by
      rw [List.mem_singleton.mp hpp]
      exact LamX.TabS.nil (s1 _ _ hP)
    clear hP hS nB s1
    walk_at "go"
    refine i_rng 3 rfl (by omega) (by omega) ?_
    refine l_rng (fun i σ H => BagAt K H B ∧ LamX.Tabs (tabsL T) H ∧ ∃ y2 y3 y4 y5 y6 y7 y8 y9 y10 y11 y12 : Option V, σ = [some (.ref a), some (.ref B.hd), y2, y3, y4, y5, y6, y7, y8, y9, y10, y11, y12]) ⟨b1, tb1, none, none, none, none, none, none, none, none, none, none, none, rfl⟩ (fun σ H z => ?_) (fun i σ H hi z => ?_)
    · obtain ⟨_, _, y2, y3, y4, y5, y6, y7, y8, y9, y10, y11, y12, rfl⟩ := z
      walk_at "go"
      exact k H
    obtain ⟨b2, tb2, y2, y3, y4, y5, y6, y7, y8, y9, y10, y11, y12, rfl⟩ := z
    clear b1 tb1 hl
    walk_at "go"
    refine ⟨B, rfl, b2, fun n f kvs pp H2 nf fB hf sd sne hs2 hpp => ?_⟩
    walk_at "go"
    refine g_pair hpp ?_
    walk_at "go"
    refine s_par ?_
    walk_at "go"
    refine ⟨f, kvs, rfl, .inl hf, fun kp nkp => ?_⟩
    have s3 : Same H2 (upd H2 kp (.dK kvs)) := Same.new nkp
    have h3 : upd H2 kp (.dK kvs) kp = some (.dK kvs) := upd_same
    generalize upd H2 kp (.dK kvs) = H3 at *
    walk_at "go"
    refine ⟨f, kvs, rfl, .inl (s3 _ _ hf), fun pl npl => ?_⟩
    have s4 : Same H3 (upd H3 pl (.dK kvs)) := Same.new npl
    have h4 : upd H3 pl (.dK kvs) pl = some (.dK kvs) := upd_same
    generalize upd H3 pl (.dK kvs) = H4 at *
    have tb4 : LamX.Tabs (tabsL T) H4 := by
      obtain ⟨ys, e0⟩ := bag_lst b2
      refine (LamX.Tabs.ext ?_ s4).ext fun _ _ z => z
      refine LamX.Tabs.ext ?_ s3
      intro p hp
      obtain ⟨ps, h1, h2, h3⟩ := tb2 p hp
      have out : ∀ {x : Addr} {u : HO}, H x = some u → plainO u → H2 x = some u := fun e pl => hs2.o _ _ (fun z => by rw [z, e0] at e; cases e; exact pl.1 _ rfl) e
      refine ⟨ps, out h1 ⟨fun _ z => (nomatch z), fun _ z => nomatch z⟩, h2, fun pos cv hc => ?_⟩
      obtain ⟨c, e1, e2⟩ := h3 pos cv hc
      exact ⟨c, e1, out e2 plainO.ext⟩
    have b4 := bag_same (bag_same hs2.b s3) s4
    have hf4 := s4 _ _ (s3 _ _ hf)
    have h34 := s4 _ _ h3
    refine ⟨_, _, rfl, ?_⟩
    walk_at "go"
    refine ⟨f, n, kvs, rfl, hf4, tb4, fun p l wk o ky rg H5 M => ?_⟩
    obtain ⟨q, q2, c, fl, fq, fw, fq2, fc⟩ := M.fn
    have keep : ∀ {x : Addr} {u : HO}, H4 x = some u → (∀ ps, u ≠ .tbl ps) → H5 x = some u := fun e n => M.ext _ _ e n
    have kd : ∀ {x : Addr} {d : List (Key × V)}, H4 x = some (.dK d) → H5 x = some (.dK d) := fun e => keep e fun _ z => nomatch z
    have new : ∀ {x y : Addr} {u : HO}, H4 y = some u → (∀ ps, u ≠ .tbl ps) → x = o ∨ x = ky ∨ x = rg → y ≠ x := fun e nt hx z => M.no _ _ hx nt (z ▸ e)
    have newd : ∀ {x y : Addr} {d : List (Key × V)}, H4 y = some (.dK d) → x = o ∨ x = ky ∨ x = rg → y ≠ x := fun e hx => new e (fun _ z => nomatch z) hx
    obtain ⟨ys0, e40⟩ := bag_lst b4
    have e50 : H5 B.hd = some (.lst ys0) := keep e40 fun _ z => nomatch z
    have b5 : BagAt K H5 B := by
      obtain ⟨i, big, mx, c, h1, h2, h3⟩ := b4
      exact ⟨i, big, mx, c, keep h1 fun _ z => (nomatch z), keep h2 fun _ z => (nomatch z), h3⟩
    have fkp : f ≠ kp := ne_of_none hf nkp
    have fpl : f ≠ pl := ne_of_none (s3 _ _ hf) npl
    have kpl : kp ≠ pl := ne_of_none h3 npl
    have hpl5 : pl ≠ B.hd := fun z => by rw [z, e40] at h4; cases h4
    obtain ⟨a', ea⟩ : ∃ a' : Ad, a' = ⟨f, kp, pl, p, l, wk, o, ky, rg, q, q2, c, n, kvs⟩ := ⟨_, rfl⟩
    have tn : Tn K T H5 B.hd ⟨f, kp, pl, p, l, wk, o, ky, rg, q, q2, c, n, kvs⟩ := by
      refine ⟨kd hf4, kd h34, M.ob, fl, fq, fw, fq2, fc, M.tabs, fun x hx => ?_, fun m => ?_, fun m => ?_, ?_, sd, sne⟩
      · simp only [List.mem_cons, List.not_mem_nil, or_false] at hx
        rcases hx with z | z | z | z | z <;> subst z
        · exact .inl ⟨_, e50⟩
        · exact .inr ⟨_, kd h4⟩
        · exact .inr ⟨_, M.ho⟩
        · exact .inr ⟨_, M.hk⟩
        · exact .inr ⟨_, M.hr⟩
      · simp only [List.mem_cons, List.not_mem_nil, or_false] at m
        rcases m with z | z | z | z | z
        · exact fB z
        · exact fpl z
        · exact newd hf4 (.inl rfl) z
        · exact newd hf4 (.inr (.inl rfl)) z
        · exact newd hf4 (.inr (.inr rfl)) z
      · simp only [List.mem_cons, List.not_mem_nil, or_false] at m
        rcases m with z | z | z | z | z
        · rw [z, e40] at h34; cases h34
        · exact kpl z
        · exact newd h34 (.inl rfl) z
        · exact newd h34 (.inr (.inl rfl)) z
        · exact newd h34 (.inr (.inr rfl)) z
      · have bn : ∀ {x : Addr}, x = o ∨ x = ky ∨ x = rg → B.hd ≠ x := fun hx => new e40 (fun _ z => nomatch z) hx
        simp only [List.nodup_cons, List.mem_cons, List.not_mem_nil, or_false, not_or, not_false_eq_true, and_true, List.nodup_nil]
        exact ⟨⟨hpl5.symm, bn (.inl rfl), bn (.inr (.inl rfl)), bn (.inr (.inr rfl))⟩, ⟨newd h4 (.inl rfl), newd h4 (.inr (.inl rfl)), newd h4 (.inr (.inr rfl))⟩, ⟨M.ok_, M.or_⟩, M.kr⟩
    have w0 : Ws P w K H5 B ⟨f, kp, pl, p, l, wk, o, ky, rg, q, q2, c, n, kvs⟩ H5 0 kvs [] [] [] := ⟨fun b u e _ => e, b5, kd h4, M.ho, M.hk, ⟨.inr ⟨M.hr, rfl⟩, by decide, List.nodup_nil, fun p hp => nomatch hp⟩, sd, sd_nil, sne, Nat.le_refl _, Nat.le_refl _, rel_new sne⟩
    clear M newd new kd keep fl fq fw fq2 fc h4 h34 hf4 b4 tb4 s4 s3 h3 hs2 tb2 b2 hf hpp ea
    walk_at "go"
    refine m_call0 (w0.ob tn) (tf_no _ _ _ _ _ _ _ (by decide +kernel)) ?_
    refine ⟨p, ⟨n, l, wk, false, o, ky, rg⟩, rfl, w0.ob tn, ?_⟩
    walk_at "go"
    refine m_call0 (w0.ob tn) (tf_no _ _ _ _ _ _ _ (by decide +kernel)) ?_
    refine ⟨p, ⟨n, l, wk, false, o, ky, rg⟩, rfl, w0.ob tn, ?_⟩
    repeat' (first | walk_at "s" | walk_at "v")
    rw [if_neg (show ¬ (!decide ((!false) = true)) = true by decide)]
    walk_at "go"
    refine ⟨B, 31, rfl, b5, by omega, by omega, fun tt H6 t0 t1 s6 => ?_⟩
    have w1 := w0.hs tn s6
    clear w0 s6
    walk_at "go"
    refine i_rng tt.toNat rfl (by omega) (by omega) ?_
    refine l_rng (fun i σ H => ∃ (pls own kys : List (Key × V)) (rents : List (NestedKey × Addr)) (y2 y8 y9 y10 y11 y12 : Option V), σ = [some (.ref a), some (.ref B.hd), y2, some (.int n), some (.ref f), some (.ref kp), some (.ref pl), some (.ref p), y8, y9, y10, y11, y12] ∧ Ws P w K H5 B ⟨f, kp, pl, p, l, wk, o, ky, rg, q, q2, c, n, kvs⟩ H (2 * i) pls own kys rents) ⟨kvs, [], [], [], _, _, _, _, _, _, rfl, w1⟩ (fun σ H z => ?_) (fun i σ H hi z => ?_)
    · obtain ⟨pls, own, kys, rents, y2, y8, y9, y10, y11, y12, rfl, w2⟩ := z
      have hi : 2 * tt.toNat ≤ 100 := by omega
      obtain ⟨ps, ep, lp⟩ := w2.sp.tk
      have := w2.sp.ten
      walk_at "go"
      refine m_call0 (w2.ob tn) (tf_no _ _ _ _ _ _ _ (by decide +kernel)) ?_
      walk_at "go"
      refine w2.between tn hi (by decide +kernel) (by decide +kernel) (.inl (by decide +kernel)) (.inl (by decide +kernel)) ep fun r qs H' rents' nr hr or_ pr w3 => ?_
      walk_at "go"
      refine ⟨pl, pls, ps, _, _, rfl, w3.pl, ep, by omega, fun ys r2 qs2 H7 pm so s7 hr2 pr2 => ?_⟩
      have w4 := w3.same s7
      walk_at "go"
      refine ⟨r, r2, _, _, rfl, rfl, slO (s7 _ _ hr), slO hr2, prs_eqx ((pr ys pm so).mv fun b xs z => s7 _ _ z) pr2 (told_flat w2.sp.vs), ?_⟩
      walk_at "go"
      refine ⟨f, kp, kvs, kvs, rfl, rfl, w4.st tn, w4.kp tn, rfl, fun p hp => ?_, ?_⟩
      · exact ⟨val_mem sd.nd hp, gv_flat (sd.vs p hp)⟩
      walk_at "go"
      have ob4 := w4.ob tn
      refine m_call0 ob4 (tf_no _ _ _ _ _ _ _ (by decide +kernel)) ?_
      refine ⟨p, ⟨n, l, wk, false, o, ky, rg⟩, rfl, ob4, fun _ H8 o8 ob8 => ?_, fun z => by cases z⟩
      walk_at "go"
      refine m_call0 ob8 (tf_no _ _ _ _ _ _ _ (by decide +kernel)) ?_
      refine ⟨p, ⟨n, l, wk, true, o, ky, rg⟩, rfl, ob8, ?_⟩
      repeat' (first | walk_at "s" | walk_at "v")
      rw [if_neg (show ¬ (!decide ((!true) = false)) = true by decide)]
      repeat' (first | walk_at "s" | walk_at "v")
      refine m_call0 ob8 (tf_no _ _ _ _ _ _ _ (by decide +kernel)) ?_
      refine ⟨p, ⟨n, l, wk, true, o, ky, rg⟩, rfl, ob8, ?_⟩
      walk_at "go"
      obtain ⟨dx, e4⟩ := ob4
      exact ⟨bag_oth w4.bag o8 (fun xs z => by rw [e4] at z; cases z), tabs_oth (w4.tabs tn) o8 e4 ⟨fun φ z => (nomatch z), fun ps z => nomatch z⟩, _, _, _, _, _, _, _, _, _, _, _, rfl⟩
    obtain ⟨pls, own, kys, rents, y2, y8, y9, y10, y11, y12, rfl, w2⟩ := z
    have hi : 2 * i + 1 ≤ 100 := by omega
    obtain ⟨ps, ep, lp⟩ := w2.sp.tk
    have := w2.sp.ten
    clear w1
    walk_at "go"
    refine s_par3 ?_
    walk_at "go"
    refine ⟨B, 8, rfl, w2.bag, by omega, by omega, fun kd H6 d0 d1 s6 => ?_⟩
    have w3 := w2.hs tn s6
    walk_at "go"
    refine ⟨B, rfl, w3.bag, fun x H7 hx s7 => ?_⟩
    have w4 := w3.hs tn s7
    walk_at "go"
    refine ⟨B, rfl, w4.bag, fun y H8 hy s8 => ?_⟩
    have w5 := w4.hs tn s8
    clear w2 w3 w4 s6 s7 s8
    refine ⟨_, _, _, rfl, ?_⟩
    walk_at "go"
    refine i_d (fun z1 => ?_) (fun z1 => ?_)
    · walk_at "go"
      refine m_call0 (w5.ob tn) (tf_no _ _ _ _ _ _ _ (by decide +kernel)) ?_
      walk_at "go"
      refine w5.get tn (by omega) hx fun H9 kys2 g w6 _ => ?_
      walk_at "go"
      refine e_var rfl ⟨pl, rfl, .inl ⟨pls, .inl w6.pl⟩, ?_⟩
      refine e_var rfl ⟨_, DGet.k (k := Sum.inr x) w6.pl, ?_⟩
      refine o_neG g ?_
      walk_at "go"
      refine m_call0 (w6.ob tn) (tf_no _ _ _ _ _ _ _ (by decide +kernel)) ?_
      walk_at "go"
      refine w6.get tn (by omega) hx fun H10 kys3 _ w7 _ => ?_
      walk_at "go"
      refine e_var rfl ⟨pl, rfl, .inl ⟨pls, .inl w7.pl⟩, ?_⟩
      refine e_var rfl ⟨_, DGet.k (k := Sum.inr x) w7.pl, ?_⟩
      refine o_neG g ?_
      walk_at "go"
      exact ⟨_, _, _, _, _, _, _, _, _, _, rfl, w7⟩
    · walk_at "go"
      refine i_d (fun z2 => ?_) (fun z2 => ?_)
      · walk_at "go"
        refine m_call0 (w5.ob tn) (tf_no _ _ _ _ _ _ _ (by decide +kernel)) ?_
        walk_at "go"
        refine w5.between tn (by omega) (kw_isK hx) (kw_isK hy) (kw_od hx) (kw_od hy) ep fun r qs H9 rents2 nr hr or_ pr w6 => ?_
        walk_at "go"
        refine ⟨pl, pls, ps, _, _, rfl, w6.pl, ep, by omega, fun ys r2 qs2 H10 pm so s10 hr2 pr2 => ?_⟩
        have w7 := w6.same s10
        walk_at "go"
        refine ⟨r, r2, _, _, rfl, rfl, slO (s10 _ _ hr), slO hr2, prs_eqx ((pr ys pm so).mv fun b xs z => s10 _ _ z) pr2 (told_flat w5.sp.vs), ?_⟩
        have ql : qs.length ≤ 10 := by
          rw [(pr ys pm so).1]
          unfold told
          rw [List.length_map]
          exact Nat.le_trans (List.length_filter_le _ _) (by rw [pm.length_eq]; omega)
        have hr10 := s10 _ _ hr
        walk_at "go"
        refine n_new (le_size (by decide)) fun tz H11 n11 s11 h11 => ?_
        have hr11 := s11 _ _ (s10 _ _ hr)
        walk_at "go"
        refine r_app hr11 (by rw [List.length_map]; omega) fun H12 o12 h12 => ?_
        have w8 := w5.apart nr (w7.same s11) hr11 o12
        clear w6 w7 pr pr2 hr hr2 hr10 s10 s11 h11 h12
        walk_at "go"
        refine m_call0 (w8.ob tn) (tf_no _ _ _ _ _ _ _ (by decide +kernel)) ?_
        walk_at "go"
        refine w8.between tn (by omega) (kw_isK hx) (kw_isK hy) (kw_od hx) (kw_od hy) ep fun r qs H9 rents2 nr hr or_ pr w9 => ?_
        walk_at "go"
        refine ⟨pl, pls, ps, _, _, rfl, w9.pl, ep, by omega, fun ys r2 qs2 H13 pm so s13 hr2 pr2 => ?_⟩
        have w10 := w9.same s13
        walk_at "go"
        refine ⟨r, r2, _, _, rfl, rfl, slO (s13 _ _ hr), slO hr2, prs_eqx ((pr ys pm so).mv fun b xs z => s13 _ _ z) pr2 (told_flat w5.sp.vs), ?_⟩
        walk_at "go"
        exact ⟨_, _, _, _, _, _, _, _, _, _, rfl, w10⟩
      · walk_at "go"
        refine i_d (fun z3 => ?_) (fun z3 => ?_)
        · walk_at "go"
          refine ⟨B, rfl, w5.bag, fun m H9 m0 m1 s9 => ?_⟩
          have w6 := w5.hs tn s9
          have hx6 : valV (putK pls (Sum.inr x) (V.int m)) (Sum.inr x) = some (V.int m) := by rw [valV_put, if_pos rfl]
          walk_at "go"
          refine ⟨pl, _, rfl, DPut.k (k := Sum.inr x) w6.pl (lt_size (by omega)), ?_⟩
          have ob6 : InsAt T.C_Transaction (upd H9 pl (.dK (putK pls (Sum.inr x) (V.int m)))) p (Tr.fs ⟨n, l, wk, false, o, ky, rg⟩) := by
            obtain ⟨dx, e⟩ := w6.ob tn
            exact ⟨dx, (upd_ne (fun z => by rw [z, w6.pl] at e; cases e)).trans e⟩
          walk_at "go"
          refine m_call0 ob6 (tf_no _ _ _ _ _ _ _ (by decide +kernel)) ?_
          walk_at "go"
          refine e_dgetT ?_
          walk_at "go"
          refine ⟨pl, _, rfl, hx6 ▸ DGet.k (k := Sum.inr x) upd_same, ?_⟩
          walk_at "go"
          refine w6.put tn (by omega) hx m0 m1 oth_upd upd_same fun H10 w7 => ?_
          walk_at "go"
          exact ⟨_, _, _, _, _, _, _, _, _, _, rfl, w7.mono (by omega)⟩
        · walk_at "go"
          have ob5 := w5.ob tn
          refine e_var rfl ⟨pl, rfl, .inl ⟨pls, .inl w5.pl⟩, e_var rfl (e_c ⟨pls, Sum.inr x, w5.pl, rfl, fun v ev => ?_, fun ev => ?_⟩)⟩
          · have o9 : Oth pl H8 (upd H8 pl (.dK (dropK pls (Sum.inr x)))) := oth_upd
            have h9 : upd H8 pl (.dK (dropK pls (Sum.inr x))) pl = some (.dK (dropK pls (Sum.inr x))) := upd_same
            have sp9 : Sd (dropK pls (Sum.inr x)) (8 + 2 * i) := w5.sp.dropd
            have ne9 : ∀ p ∈ dropK pls (Sum.inr x), p.2 ≠ V.non := fun p hp => w5.pne p (dropK_mem hp)
            have d9 : ∀ z : Str, valV (dropK pls (Sum.inr x)) (Sum.inr z) = if z = x then none else valV pls (Sum.inr z) := fun z => by
              rw [drop_val]
              by_cases e : z = x
              · rw [if_pos e, if_pos (congrArg _ e)]
              · rw [if_neg e, if_neg (fun q => e (Sum.inr.inj q))]
            have ob9 : InsAt T.C_Transaction (upd H8 pl (.dK (dropK pls (Sum.inr x)))) p (Tr.fs ⟨n, l, wk, false, o, ky, rg⟩) := by
              obtain ⟨dx, e⟩ := ob5
              exact ⟨dx, (upd_ne (fun z => by rw [z, w5.pl] at e; cases e)).trans e⟩
            walk_at "go"
            refine m_call0 ob9 (tf_no _ _ _ _ _ _ _ (by decide +kernel)) ?_
            walk_at "go"
            refine w5.drop tn (by omega) hx o9 h9 sp9 ne9 d9 fun H10 w7 => ?_
            walk_at "go"
            exact ⟨_, _, _, _, _, _, _, _, _, _, rfl, w7.mono (by omega)⟩
          · have o9 : Oth pl H8 H8 := fun _ _ _ z => z
            have h9 := w5.pl
            have sp9 := w5.sp
            have ne9 := w5.pne
            have d9 : ∀ z : Str, valV pls (Sum.inr z) = if z = x then none else valV pls (Sum.inr z) := fun z => by
              by_cases e : z = x
              · rw [if_pos e, e, ev]
              · rw [if_neg e]
            have ob9 := ob5
            walk_at "go"
            refine m_call0 ob9 (tf_no _ _ _ _ _ _ _ (by decide +kernel)) ?_
            walk_at "go"
            refine w5.drop tn (by omega) hx o9 h9 sp9 ne9 d9 fun H10 w7 => ?_
            walk_at "go"
            exact ⟨_, _, _, _, _, _, _, _, _, _, rfl, w7.mono (by omega)⟩
end


end Vw

set_option Elab.async false
namespace Vw
open PySem PySem.Spec PyProof.Rows L2 RT
theorem tabIn_of {K : PySem.W.Frag} {x : Str} {f c P : Addr} {oc oc2 : Value} {od od2 : Option Addr} {fd : FuncData} {sl sl2 : Array (Option Value)} {vs : Array Value} (a : PySem.W.nsIn K mainGlobals x = some (some (.ref f))) (l : K.lookup f = some ⟨oc, od, .func fd, sl⟩) (e : fd.code = .ref c) (lc : K.lookup c = some ⟨oc2, od2, .fields vs, sl2⟩) (p : vs[11]? = some (.ref P)) : PySem.W.tabIn K x = some (c, P) := by
  unfold PySem.W.tabIn
  simp only [a, l, e, lc, p]
def defAtL_mk2 {K : PySem.W.Frag} {mg : Str → Option Value} {h : Heap} {x qual : Str} {st : Stmt} {ps : List Str} {f c P : Addr} {od an od2 : Option Addr} {sl sl2 : Array (Option Value)} {oc kV dc pm ct oc2 : Value} {vs : Array Value} (X : K.In h) (G : h.Ns mainGlobals mg)
    (a : PySem.W.nsIn K mainGlobals x = some (some (.ref f))) (l : K.lookup f = some ⟨oc, od, .func (PySem.W.fnOf x qual (defArgs st) (defBody st) (defScope st) .none kV dc pm an (.ref c) ct), sl⟩) (cc : PySem.W.codeIn K (.ref c) qual = true) (k : PySem.W.keepIn K (.ref f) = true)
    (lc : K.lookup c = some ⟨oc2, od2, .fields vs, sl2⟩) (p : vs[11]? = some (.ref P)) (nP : K.lookup P = none)
    (b : ∀ (kV doc pm : Value) (an : Option Addr) (cdv ct : Value) (us : List Value), us.length = ps.length → bindArgs (PySem.W.fnOf x qual (defArgs st) (defBody st) (defScope st) .none kV doc pm an cdv ct) ⟨us, []⟩ = pure (ps.zip us)) : DefAtL K mg x qual st ps :=
  defAtL_mk X G a l cc k (tabIn_of a l rfl lc p) nP b
def gRef_mk {K : PySem.W.Frag} {mg : Str → Option Value} {h : Heap} {x : Str} {C : Addr} (X : K.In h) (G : h.Ns mainGlobals mg) (a : PySem.W.nsIn K mainGlobals x = some (some (.ref C))) : { N : Addr // mg x = some (.ref N) } := ⟨C, PySem.W.mg_of X G a⟩
theorem law_mkL {l : PySem.W.OpenLaw} {q : Program} {w : World} {K : PySem.W.Frag} {h : Heap} {mg : Str → Option Value} {fa f : Addr} {od an : Option Addr} {sl : Array (Option Value)} {oc kV dc pm cd ct : Value} {e : DefRec} (X : K.In h) (G : h.Ns mainGlobals mg) (hfa : mg "law" = some (.ref fa))
    (tabs : ∀ (y : Str) (e : DefRec) (c P : Addr), (PyProof.Rows.recsOf q).find? (fun e => e.name == y) = some e → PySem.W.tabIn K y = some (c, P) → PySem.W.CodeHd h c P ∧ h.get? P = some { cls := .none, data := .fields #[] })
    (hrec : (PyProof.Rows.recsOf q).find? (fun e => e.name == ("_law_made_over" : Str)) = some e)
    (a : PySem.W.nsIn K mainGlobals "law" = some (some (.ref f))) (lk : K.lookup f = some ⟨oc, od, .func (PySem.W.fnOf "law" "law" (defArgs s_law) (defBody s_law) (defScope s_law) .none kV dc pm an cd ct), sl⟩) (c : PySem.W.codeIn K cd "law" = true) (kp : PySem.W.keepIn K (.ref f) = true) (T : Txt K mg) :
    LamX.LawAtS l w K CX0 5 63 "script" mg fa h := by
  have e := hfa.symm.trans (PySem.W.mg_of X G a)
  cases e
  have F := fun_mk (st := s_law) lk c kp
  obtain ⟨t1, t2⟩ := tabs _ _ _ _ hrec T.law_made_over.tb
  have one : ∀ {Z : Addr × Addr → Prop}, Z (T.law_made_over.c, T.law_made_over.P) → ∀ p ∈ [(T.law_made_over.c, T.law_made_over.P)], Z p := fun z p hp => by rw [List.mem_singleton.mp hp]; exact z
  exact ⟨PySem.W.fnOf "law" "law" (defArgs s_law) (defBody s_law) (defScope s_law) .none kV dc pm an cd ct, [(T.law_made_over.c, T.law_made_over.P)], sp_law K T.law_made_over.P, one t2, one T.law_made_over.nP, one t1, fun s v => .of_eq rfl,
    fun H a ns hl _ hH hS => ⟨a, ns, rfl, hS, hl, hH _ (.head _), fun _ => rfl⟩, fun base _ _ hB => ok_law F T (hB _ (.head _))⟩
end Vw
open PySem PySem.W PyProof.Rows
set_option maxRecDepth 100000 in
set_option maxHeartbeats 0 in
theorem PySem.Challenge.cw_wholeways_k29_whole_transactions_over_a_holds : PySem.Challenge.rw_wholeways_k29_whole_transactions_over_a.Holds := by
  w_on; o_law; k_head; (case hw => w_witness2)
  k_fill
  refine Vw.walk_ofRecs (l := PySem.Challenge.rw_wholeways_k29_whole_transactions_over_a) (n := 63) (k := 5) (x := "script") (CX := fun _ => L2.CX0) rfl (by decide) rfl ⟨rfl, by decide, by decide⟩ (fun w h Y => PySem.W.km_in_of Y) ?F (fun _ _ _ _ _ h => h)
  case F =>
    intro w mg fa h _ KX G hmg tabs
    refine' Vw.law_mkL KX G hmg tabs rfl ?aL ?lL ?cL ?kL (T := {
      is_integer := (Vw.defAt_mk KX G ?a1 ?l1 ?c1 ?k1 (fun _ _ _ _ _ _ us hl => match us, hl with | [_], _ => rfl)),
      is_within := (Vw.defAt_mk KX G ?a2 ?l2 ?c2 ?k2 (fun _ _ _ _ _ _ us hl => match us, hl with | [_, _, _], _ => rfl)),
      is_word := (Vw.defAt_mk KX G ?a3 ?l3 ?c3 ?k3 (fun _ _ _ _ _ _ us hl => match us, hl with | [_], _ => rfl)),
      is_key := (Vw.defAt_mk KX G ?a4 ?l4 ?c4 ?k4 (fun _ _ _ _ _ _ us hl => match us, hl with | [_], _ => rfl)),
      is_worth := (Vw.defAt_mk KX G ?a5 ?l5 ?c5 ?k5 (fun _ _ _ _ _ _ us hl => match us, hl with | [_], _ => rfl)),
      need_key := (Vw.defAt_mk KX G ?a6 ?l6 ?c6 ?k6 (fun _ _ _ _ _ _ us hl => match us, hl with | [_], _ => rfl)),
      law_hand := (Vw.defAt_mk KX G ?a7 ?l7 ?c7 ?k7 (fun _ _ _ _ _ _ us hl => match us, hl with | [_], _ => rfl)),
      law_draw := (Vw.defAt_mk KX G ?a8 ?l8 ?c8 ?k8 (fun _ _ _ _ _ _ us hl => match us, hl with | [_, _], _ => rfl)),
      law_any := (Vw.defAt_mk KX G ?a9 ?l9 ?c9 ?k9 (fun _ _ _ _ _ _ us hl => match us, hl with | [_, _], _ => rfl)),
      law_key := (Vw.defAt_mk KX G ?a10 ?l10 ?c10 ?k10 (fun _ _ _ _ _ _ us hl => match us, hl with | [_], _ => rfl)),
      law_worth := (Vw.defAt_mk KX G ?a11 ?l11 ?c11 ?k11 (fun _ _ _ _ _ _ us hl => match us, hl with | [_], _ => rfl)),
      law_snapshot := (Vw.defAt_mk KX G ?a12 ?l12 ?c12 ?k12 (fun _ _ _ _ _ _ us hl => match us, hl with | [_], _ => rfl)),
      law_walked := (Vw.defAt_mk KX G ?a13 ?l13 ?c13 ?k13 (fun _ _ _ _ _ _ us hl => match us, hl with | [_, _, _], _ => rfl)),
      law_made_over := (Vw.defAtL_mk2 KX G ?a14 ?l14 ?c14 ?k14 ?lc14 ?p14 ?nP14 (fun _ _ _ _ _ _ us hl => match us, hl with | [_, _], _ => rfl)),
      z_ValueError := PySem.W.mg_none_of KX G ?z_ValueError,
      z_abs := PySem.W.mg_none_of KX G ?z_abs,
      z_bool := PySem.W.mg_none_of KX G ?z_bool,
      z_dict := PySem.W.mg_none_of KX G ?z_dict,
      z_int := PySem.W.mg_none_of KX G ?z_int,
      z_isinstance := PySem.W.mg_none_of KX G ?z_isinstance,
      z_len := PySem.W.mg_none_of KX G ?z_len,
      z_list := PySem.W.mg_none_of KX G ?z_list,
      z_range := PySem.W.mg_none_of KX G ?z_range,
      z_sorted := PySem.W.mg_none_of KX G ?z_sorted,
      z_str := PySem.W.mg_none_of KX G ?z_str,
      z_tuple := PySem.W.mg_none_of KX G ?z_tuple,
      c_GREATEST_WORTH := Vw.cAt_mk KX G ?q_GREATEST_WORTH ?r_GREATEST_WORTH,
      c_LONGEST_WORD := Vw.cAt_mk KX G ?q_LONGEST_WORD ?r_LONGEST_WORD,
      C_Transaction := ?C_Transaction,
      k_Transaction := Vw.clsAt_mk KX G ?ka_Transaction ?kb_Transaction ?kc_Transaction ?kd_Transaction ?ke_Transaction ?kf_Transaction ?kg_Transaction,
      m_Transaction_init := Vw.methAt_mk ?ma_Transaction_init ?mi_Transaction_init ?ml_Transaction_init ?mc_Transaction_init ?mk_Transaction_init (fun _ _ _ _ _ _ us hl => match us, hl with | [_, _, _, _], _ => rfl),
      m_Transaction_stands_at := Vw.methAt_mk ?ma_Transaction_stands_at ?mi_Transaction_stands_at ?ml_Transaction_stands_at ?mc_Transaction_stands_at ?mk_Transaction_stands_at (fun _ _ _ _ _ _ us hl => match us, hl with | [_], _ => rfl),
      m_Transaction_get := Vw.methAt_mk ?ma_Transaction_get ?mi_Transaction_get ?ml_Transaction_get ?mc_Transaction_get ?mk_Transaction_get (fun _ _ _ _ _ _ us hl => match us, hl with | [_, _], _ => rfl),
      m_Transaction_between := Vw.methAt_mk ?ma_Transaction_between ?mi_Transaction_between ?ml_Transaction_between ?mc_Transaction_between ?mk_Transaction_between (fun _ _ _ _ _ _ us hl => match us, hl with | [_, _, _], _ => rfl),
      m_Transaction_put := Vw.methAt_mk ?ma_Transaction_put ?mi_Transaction_put ?ml_Transaction_put ?mc_Transaction_put ?mk_Transaction_put (fun _ _ _ _ _ _ us hl => match us, hl with | [_, _, _], _ => rfl),
      m_Transaction_drop := Vw.methAt_mk ?ma_Transaction_drop ?mi_Transaction_drop ?ml_Transaction_drop ?mc_Transaction_drop ?mk_Transaction_drop (fun _ _ _ _ _ _ us hl => match us, hl with | [_, _], _ => rfl),
      m_Transaction_end := Vw.methAt_mk ?ma_Transaction_end ?mi_Transaction_end ?ml_Transaction_end ?mc_Transaction_end ?mk_Transaction_end (fun _ _ _ _ _ _ us hl => match us, hl with | [_], _ => rfl),
      m_Transaction_is_open := Vw.methAt_mk ?ma_Transaction_is_open ?mi_Transaction_is_open ?ml_Transaction_is_open ?mc_Transaction_is_open ?mk_Transaction_is_open (fun _ _ _ _ _ _ us hl => match us, hl with | [_], _ => rfl),
      m_Transaction__need_under_way := Vw.methAt_mk ?ma_Transaction__need_under_way ?mi_Transaction__need_under_way ?ml_Transaction__need_under_way ?mc_Transaction__need_under_way ?mk_Transaction__need_under_way (fun _ _ _ _ _ _ us hl => match us, hl with | [_], _ => rfl),
      n_Transaction__snapshot := Vw.noAttr_mk ?na_Transaction__snapshot,
      n_Transaction__look := Vw.noAttr_mk ?na_Transaction__look,
      n_Transaction__walk := Vw.noAttr_mk ?na_Transaction__walk,
      n_Transaction__is_over := Vw.noAttr_mk ?na_Transaction__is_over,
      n_Transaction__own := Vw.noAttr_mk ?na_Transaction__own,
      n_Transaction__keys := Vw.noAttr_mk ?na_Transaction__keys,
      n_Transaction__ranges := Vw.noAttr_mk ?na_Transaction__ranges,
      m_StoreError_init := Vw.initAt_mk ?il ?ic ?ik (fun _ _ _ _ _ _ us hl => match us, hl with | [_], _ => rfl),
      vV := ?vV,
      e_NoKey := Vw.excAt_mk KX G ?ea_NoKey ?el_NoKey ?eb_NoKey ?es_NoKey ?ex_NoKey ?et_NoKey ?ek_NoKey ?ei_NoKey ?ef_NoKey ?eh_NoKey ?ec_NoKey ?ee_NoKey,
      e_Ended := Vw.excAt_mk KX G ?ea_Ended ?el_Ended ?eb_Ended ?es_Ended ?ex_Ended ?et_Ended ?ek_Ended ?ei_Ended ?ef_Ended ?eh_Ended ?ec_Ended ?ee_Ended,
      e_NoWorth := Vw.excAt_mk KX G ?ea_NoWorth ?el_NoWorth ?eb_NoWorth ?es_NoWorth ?ex_NoWorth ?et_NoWorth ?ek_NoWorth ?ei_NoWorth ?ef_NoWorth ?eh_NoWorth ?ec_NoWorth ?ee_NoWorth,
      dst := ?dst })
    (case aL => k_is); (case lL => k_is); (case cL => k_is); (case kL => k_is)
    (case ka_Transaction => k_is); (case kb_Transaction => k_is); (case kc_Transaction => k_is); (case kd_Transaction => k_is); (case ke_Transaction => k_is); (case kf_Transaction => k_is); (case kg_Transaction => k_is)
    (case ma_Transaction_init => k_is); (case mi_Transaction_init => k_is); (case ml_Transaction_init => k_is); (case mc_Transaction_init => k_is); (case mk_Transaction_init => k_is)
    (case ma_Transaction_stands_at => k_is); (case mi_Transaction_stands_at => k_is); (case ml_Transaction_stands_at => k_is); (case mc_Transaction_stands_at => k_is); (case mk_Transaction_stands_at => k_is)
    (case ma_Transaction_get => k_is); (case mi_Transaction_get => k_is); (case ml_Transaction_get => k_is); (case mc_Transaction_get => k_is); (case mk_Transaction_get => k_is)
    (case ma_Transaction_between => k_is); (case mi_Transaction_between => k_is); (case ml_Transaction_between => k_is); (case mc_Transaction_between => k_is); (case mk_Transaction_between => k_is)
    (case ma_Transaction_put => k_is); (case mi_Transaction_put => k_is); (case ml_Transaction_put => k_is); (case mc_Transaction_put => k_is); (case mk_Transaction_put => k_is)
    (case ma_Transaction_drop => k_is); (case mi_Transaction_drop => k_is); (case ml_Transaction_drop => k_is); (case mc_Transaction_drop => k_is); (case mk_Transaction_drop => k_is)
    (case ma_Transaction_end => k_is); (case mi_Transaction_end => k_is); (case ml_Transaction_end => k_is); (case mc_Transaction_end => k_is); (case mk_Transaction_end => k_is)
    (case ma_Transaction_is_open => k_is); (case mi_Transaction_is_open => k_is); (case ml_Transaction_is_open => k_is); (case mc_Transaction_is_open => k_is); (case mk_Transaction_is_open => k_is)
    (case ma_Transaction__need_under_way => k_is); (case mi_Transaction__need_under_way => k_is); (case ml_Transaction__need_under_way => k_is); (case mc_Transaction__need_under_way => k_is); (case mk_Transaction__need_under_way => k_is)
    (case na_Transaction__snapshot => k_is)
    (case na_Transaction__look => k_is)
    (case na_Transaction__walk => k_is)
    (case na_Transaction__is_over => k_is)
    (case na_Transaction__own => k_is)
    (case na_Transaction__keys => k_is)
    (case na_Transaction__ranges => k_is)
    (case ea_NoKey => k_is); (case ei_NoKey => k_is); (case eh_NoKey => exact rfl)
    (case ea_Ended => k_is); (case ei_Ended => k_is); (case eh_Ended => exact rfl)
    (case ea_NoWorth => k_is); (case ei_NoWorth => k_is); (case eh_NoWorth => exact rfl)
    (case il => k_is); (case ic => k_is); (case ik => k_is); (case vV => k_is)
    (case el_NoKey => k_is); (case eb_NoKey => decide +kernel); (case es_NoKey => k_is); (case ex_NoKey => k_is); (case et_NoKey => k_is); (case ek_NoKey => k_is); (case ef_NoKey => k_is); (case ec_NoKey => k_is); (case ee_NoKey => k_is)
    (case el_Ended => k_is); (case eb_Ended => decide +kernel); (case es_Ended => k_is); (case ex_Ended => k_is); (case et_Ended => k_is); (case ek_Ended => k_is); (case ef_Ended => k_is); (case ec_Ended => k_is); (case ee_Ended => k_is)
    (case el_NoWorth => k_is); (case eb_NoWorth => decide +kernel); (case es_NoWorth => k_is); (case ex_NoWorth => k_is); (case et_NoWorth => k_is); (case ek_NoWorth => k_is); (case ef_NoWorth => k_is); (case ec_NoWorth => k_is); (case ee_NoWorth => k_is)
    (case a1 => k_is); (case l1 => k_is); (case c1 => k_is); (case k1 => k_is)
    (case a2 => k_is); (case l2 => k_is); (case c2 => k_is); (case k2 => k_is)
    (case a3 => k_is); (case l3 => k_is); (case c3 => k_is); (case k3 => k_is)
    (case a4 => k_is); (case l4 => k_is); (case c4 => k_is); (case k4 => k_is)
    (case a5 => k_is); (case l5 => k_is); (case c5 => k_is); (case k5 => k_is)
    (case a6 => k_is); (case l6 => k_is); (case c6 => k_is); (case k6 => k_is)
    (case a7 => k_is); (case l7 => k_is); (case c7 => k_is); (case k7 => k_is)
    (case a8 => k_is); (case l8 => k_is); (case c8 => k_is); (case k8 => k_is)
    (case a9 => k_is); (case l9 => k_is); (case c9 => k_is); (case k9 => k_is)
    (case a10 => k_is); (case l10 => k_is); (case c10 => k_is); (case k10 => k_is)
    (case a11 => k_is); (case l11 => k_is); (case c11 => k_is); (case k11 => k_is)
    (case a12 => k_is); (case l12 => k_is); (case c12 => k_is); (case k12 => k_is)
    (case a13 => k_is); (case l13 => k_is); (case c13 => k_is); (case k13 => k_is)
    (case a14 => k_is); (case l14 => k_is); (case c14 => k_is); (case k14 => k_is); (case lc14 => k_is); (case p14 => exact rfl); (case nP14 => first | exact rfl | kernel_rfl | decide +kernel)
    (case z_ValueError => k_is)
    (case z_abs => k_is)
    (case z_bool => k_is)
    (case z_dict => k_is)
    (case z_int => k_is)
    (case z_isinstance => k_is)
    (case z_len => k_is)
    (case z_list => k_is)
    (case z_range => k_is)
    (case z_sorted => k_is)
    (case z_str => k_is)
    (case z_tuple => k_is)
    (case q_GREATEST_WORTH => k_is); (case r_GREATEST_WORTH => exact ⟨_, rfl⟩)
    (case q_LONGEST_WORD => k_is); (case r_LONGEST_WORD => exact ⟨_, rfl⟩)
    (case dst => first | exact List.nodup_cons.mpr ⟨(fun h => nomatch h), List.nodup_nil⟩ | decide | exact of_decide_eq_true rfl | exact of_decide_eq_true (by kernel_rfl) | (dsimp only [Vw.defAtL_mk2, Vw.defAtL_mk]; decide) | (rw [Vw.mk2P, Vw.mk2P, Vw.mk2P, Vw.mk2P]; decide))

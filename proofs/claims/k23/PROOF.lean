import PyProof.Rows.All
import Wide.All
import OpenK.AllK
import Wide.FinOn
import HandS.ForMost
import HandS.Exc
import HandS.ExcOwn
import HandS.WordsExc
import HandS.IsInst
import HandS.Wide
import HandS.Walk
import HandS.Conv
import HandS.Deep
import HandS.SetKeys
import HandS.ListItems
import HandS.FStr
import HandS.RaiseMore
import HandS.NoneIn
import KE.GoesZip
import KE.GoesMore
import KE.KDictWalk
import KE.GoesEnumKw
import KE.DataMinMax
import HandS.SortKw
import HandS.SortInts
import HandS.SortRule
import HandS.Style
import HandS.TupAny
import HandS.Defaults
import PyProof.ReprRoads
import HandS.Head0
import HandS.Head1
import HandS.Head2
import HandS.HeadHook1
import KE.KRevSl
import HandS.Lambda
import HandS.EndTab
import HandS.ExcInit
import HandS.ExcField
import HandS.ExcOwn
import HandS.WordsExc
import KE.KExcIs
import HandS.TryElse
import PySem.Challenge.RW_alikecrowds_k23_whole_heights_that_bar_l
set_option Elab.async false
set_option linter.all false
set_option maxRecDepth 100000
set_option maxHeartbeats 4000000
namespace U
open PySem PySem.Spec PyProof.Rows L2
/-! ### U: one rule for each sign of Python, whatever kinds of values stand beside it -/
section
variable {X : Cx}
theorem u_constI {x : Str} {i : Int} {pos : Pos} (hg : Gl X x) (h : ∃ t, X.mg x = some (.int i t)) (hd : (x == ("__debug__" : Str)) = false := by decide) : PE X (.Name x pos) (tC (.int i)) := by
  obtain ⟨t, h⟩ := h
  exact pe_glob hg h ⟨t, rfl⟩ hd
theorem u_ty {x : Str} {n : String} {pos : Pos} (hg : Gl X x) (hm : X.mg x = none) (hv : bootBuiltins x = some (.type n)) (hn : x ≠ "__name__" := by decide) (hd : (x == ("__debug__" : Str)) = false := by decide) : PE X (.Name x pos) (tC (.ty n)) := pe_bltn hg hm hv rfl hn hd
/-- x + y -/
def uAdd (K : PySem.W.Frag) : R2 := fun x y H Q => match x, y with
  | .int i, .int j => Q (.int (i + j)) H
  | .str i, .str j => i.length + j.length ≤ sizeLine ∧ Q (.str (i ++ j)) H
  | .ref a, .ref b => rCat (.ref a) (.ref b) H Q ∨ rCatT K (.ref a) (.ref b) H Q
  | _, _ => False
theorem op_uAdd0 : OpR X (binaryOp .Add) (uAdd X.K) := by
  intro pins s σ H x y u v Q I rx ry h
  cases x <;> cases y <;> first | exact False.elim h | skip
  case int.int i j => exact op_add pins s σ H _ _ u v Q I rx ry ⟨i, j, rfl, rfl, h⟩
  case str.str i j => exact op_add_str pins s σ H _ _ u v Q I rx ry ⟨i, j, rfl, rfl, h.1, h.2⟩
  case ref.ref a b => exact (OpR.or op_cat op_catT) pins s σ H _ _ u v Q I rx ry h
/-- x * y, x // y, x ** y -/
def uMul : R2 := fun x y H Q => match x, y with
  | .int i, .int j => (CMul i j ∨ CMulW i j) ∧ Q (.int (i * j)) H
  | _, _ => False
theorem op_uMul : OpR X (binaryOp .Mult) uMul := by
  intro pins s σ H x y u v Q I rx ry h
  cases x <;> cases y <;> first | exact False.elim h | skip
  case int.int i j =>
    rcases h.1 with c | c
    · exact op_mul pins s σ H _ _ u v Q I rx ry ⟨i, j, rfl, rfl, c, h.2⟩
    · exact op_mulW pins s σ H _ _ u v Q I rx ry ⟨i, j, rfl, rfl, c, h.2⟩
def uDiv : R2 := fun x y H Q => match x, y with
  | .int i, .int j => CDivW i j ∧ Q (.int (i / j)) H
  | _, _ => False
theorem op_uDiv : OpR X (binaryOp .FloorDiv) uDiv := by
  intro pins s σ H x y u v Q I rx ry h
  cases x <;> cases y <;> first | exact False.elim h | skip
  case int.int i j => exact op_fdivW pins s σ H _ _ u v Q I rx ry ⟨i, j, rfl, rfl, h.1, h.2⟩
def uMod : R2 := fun x y H Q => match x, y with
  | .int i, .int j => 0 < j ∧ Q (.int (i % j)) H
  | _, _ => False
theorem op_uMod : OpR X (binaryOp .Mod) uMod := by
  intro pins s σ H x y u v Q I rx ry h
  cases x <;> cases y <;> first | exact False.elim h | skip
  case int.int i j => exact op_mod pins s σ H _ _ u v Q I rx ry ⟨i, j, rfl, rfl, h.1, h.2⟩
def uPow : R2 := fun x y H Q => match x, y with
  | .int i, .int j => (0 ≤ j ∧ (Builtin.Int.intBits i : Int) * j ≤ 2 ^ 27) ∧ Q (.int (i ^ j.toNat)) H
  | _, _ => False
theorem op_uPow : OpR X (binaryOp .Pow) uPow := by
  intro pins s σ H x y u v Q I rx ry h
  cases x <;> cases y <;> first | exact False.elim h | skip
  case int.int i j =>
    obtain ⟨t, rfl⟩ := rx
    obtain ⟨t', rfl⟩ := ry
    exact pow_int h.1.1 h.1.2 ⟨.int (i ^ j.toNat), H, I.tok _, ⟨_, rfl⟩, h.2⟩
def uSub : R2 := fun x y H Q => match x, y with
  | .int i, .int j => Q (.int (i - j)) H
  | _, _ => False
theorem op_uSub : OpR X (binaryOp .Sub) uSub := by
  intro pins s σ H x y u v Q I rx ry h
  cases x <;> cases y <;> first | exact False.elim h | skip
  case int.int i j => exact op_sub pins s σ H _ _ u v Q I rx ry ⟨i, j, rfl, rfl, h⟩
def uNeg : V → Hp → VK → Prop := fun x H Q => match x with
  | .int i => Q (.int (-i)) H
  | _ => False
theorem op_uNeg : UnR X (unaryOp .USub) uNeg := by
  intro pins s σ H x v Q I rx h
  cases x <;> first | exact False.elim h | skip
  case int i => exact un_neg pins s σ H _ v Q I rx ⟨i, rfl, h⟩
/-- comparisons of whole numbers -/
def uCmp (p : Int → Int → Bool) : R2 := fun x y H Q => match x, y with
  | .int i, .int j => Q (.bl (p i j)) H
  | _, _ => False
theorem op_uLt : OpR X (compareOp .Lt) (uCmp fun i j => decide (i < j)) := by
  intro pins s σ H x y u v Q I rx ry h
  cases x <;> cases y <;> first | exact False.elim h | skip
  case int.int i j => exact op_lt pins s σ H _ _ u v Q I rx ry ⟨i, j, rfl, rfl, h⟩
theorem op_uLe : OpR X (compareOp .LtE) (uCmp fun i j => decide (i ≤ j)) := by
  intro pins s σ H x y u v Q I rx ry h
  cases x <;> cases y <;> first | exact False.elim h | skip
  case int.int i j => exact op_le pins s σ H _ _ u v Q I rx ry ⟨i, j, rfl, rfl, h⟩
theorem op_uGt : OpR X (compareOp .Gt) (uCmp fun i j => decide (j < i)) := by
  intro pins s σ H x y u v Q I rx ry h
  cases x <;> cases y <;> first | exact False.elim h | skip
  case int.int i j => exact op_gt pins s σ H _ _ u v Q I rx ry ⟨i, j, rfl, rfl, h⟩
theorem op_uGe : OpR X (compareOp .GtE) (uCmp fun i j => decide (j ≤ i)) := by
  intro pins s σ H x y u v Q I rx ry h
  cases x <;> cases y <;> first | exact False.elim h | skip
  case int.int i j => exact op_ge pins s σ H _ _ u v Q I rx ry ⟨i, j, rfl, rfl, h⟩
/-- x == y: scalars, else data at any depth -/
def uEq (K : PySem.W.Frag) (neg : Bool) : R2 := fun x y H Q =>
  (scal x y = true ∧ Q (.bl (if neg then !decide (x = y) else decide (x = y))) H) ∨ (∃ d e, Dp K H x d ∧ Dp K H y e ∧ SeqAt.shaped d = true ∧ SeqAt.shaped e = true ∧ Q (.bl (if neg then !PyData.eqv d e else PyData.eqv d e)) H)
theorem op_uEq0 (hu : X.A.units + 64 < cLine) : OpR X (compareOp .Eq) (uEq X.K false) := OpR.or op_eq (op_eqD hu)
theorem op_uNe0 (hu : X.A.units + 64 < cLine) : OpR X (compareOp .NotEq) (uEq X.K true) := OpR.or op_ne (op_neD hu)
/-- x[i] of a list, a tuple, a text -/
def uIx (K : PySem.W.Frag) : R2 := fun x y H Q => match x, y with
  | .ref p, .int i => (∃ xs v, (SqL K H p xs ∨ SqT K H p xs) ∧ atI xs i = some v ∧ Q v H)
  | .str z, .int i => z.length ≤ sizeLine ∧ ∃ c, atI z.cps.toList i = some c ∧ Q (.str ⟨#[c]⟩) H
  | _, _ => False
theorem ix_u0 : IxR X (uIx X.K) := by
  intro ea eb pins s σ H x y u v Q I rx ry h hs
  cases x <;> cases y <;> first | exact False.elim h | skip
  case ref.int p i =>
    obtain ⟨xs, v', h1 | h1, h2, q⟩ := h
    · exact ix_seq ea eb pins s σ H _ _ u v Q I rx ry (Or.inl ⟨p, xs, i, v', rfl, rfl, h1, h2, q⟩) hs
    · exact ix_seq ea eb pins s σ H _ _ u v Q I rx ry (Or.inr (Or.inl ⟨p, xs, i, v', rfl, rfl, h1, h2, q⟩)) hs
  case str.int z i =>
    obtain ⟨h1, c, h2, q⟩ := h
    exact ix_seq ea eb pins s σ H _ _ u v Q I rx ry (Or.inr (Or.inr ⟨z, i, c, rfl, rfl, h1, h2, q⟩)) hs
/-- x[lo:hi] -/
def uSl (K : PySem.W.Frag) : V → Option Int → Option Int → Hp → VK → Prop := fun x lo hi H Q => match x with
  | .ref a => (∃ xs, SqL K H a xs ∧ ∀ p, H p = none → Q (.ref p) (upd H p (.lst (cutV xs lo hi)))) ∨ rSlT K (.ref a) lo hi H Q
  | .str z => z.length ≤ sizeLine ∧ Q (.str (cutS z lo hi)) H
  | _ => False
theorem sl_u0 : SlR X (uSl X.K) := by
  intro pins s σ H x v vl vu lo hi sl Q I rx hs pl pu h
  cases x <;> first | exact False.elim h | skip
  case ref a =>
    rcases h with ⟨xs, h1, h2⟩ | h
    · exact sl_list pins s σ H _ v vl vu lo hi sl Q I rx hs pl pu ⟨a, xs, rfl, h1, h2⟩
    · exact sl_tup pins s σ H _ v vl vu lo hi sl Q I rx hs pl pu h
  case str z => exact sl_str pins s σ H _ v vl vu lo hi sl Q I rx hs pl pu ⟨z, rfl, h.1, h.2⟩
/-- len(x) -/
def uLen (K : PySem.W.Frag) : List V → Hp → VK → Prop := fun xs H Q => match xs with
  | [.str z] => z.length ≤ sizeLine ∧ Q (.int z.length) H
  | [.ref p] => (∃ ys, (SqL K H p ys ∨ SqT K H p ys) ∧ Q (.int ys.length) H) ∨ ∃ kvs, H p = some (.dK kvs) ∧ Q (.int kvs.length) H
  | _ => False
theorem call_uLen0 : CallR X (.builtin "len") (uLen X.K) := by
  intro pins s σ H xs us Q I r h
  match xs, h with
  | [.str z], h => exact call_len_str pins s σ H _ us Q I r ⟨z, rfl, h.1, h.2⟩
  | [.ref p], h =>
    rcases h with ⟨ys, h1, h2⟩ | ⟨kvs, h1, h2⟩
    · exact call_len_seq pins s σ H _ us Q I r ⟨p, ys, rfl, h1, h2⟩
    · exact call_lenD pins s σ H _ us Q I r ⟨p, kvs, rfl, h1, h2⟩
/-- int(x) -/
def uInt : List V → Hp → VK → Prop := fun xs H Q => match xs with
  | [.int i] => Q (.int i) H
  | [.bl k] => Q (.int (if k then 1 else 0)) H
  | [.str a] => ∃ n, PySem.intText? a = some n ∧ a.length ≤ 640 ∧ Q (.int n) H
  | _ => False
theorem call_uInt : CallR X (.type "int") uInt := by
  intro pins s σ H xs us Q I r h
  match xs, h with
  | [.int i], h => exact call_int1 pins s σ H _ us Q I r (Or.inl ⟨i, rfl, h⟩)
  | [.bl k], h => exact call_int1 pins s σ H _ us Q I r (Or.inr ⟨k, rfl, h⟩)
  | [.str a], ⟨n, h1, h2, q⟩ => exact call_int_str pins s σ H _ us Q I r ⟨a, n, rfl, h1, h2, q⟩
/-- str(x) -/
def uStr : List V → Hp → VK → Prop := fun xs H Q => match xs with
  | [.int i] => i.natAbs.log2 < 1920 ∧ Q (.str (toString i)) H
  | [.str a] => Q (.str a) H
  | _ => False
/-- tuple(x), list(x) -/
def uTupC (K : PySem.W.Frag) : List V → Hp → VK → Prop := fun xs H Q => match xs with
  | [.ref p] => (∃ ys, SqL K H p ys ∧ ∀ l, H l = none → Q (.ref l) (upd H l (.tup ys))) ∨ (∃ ys, SqT K H p ys ∧ Q (.ref p) H)
  | _ => False
theorem call_uTuple0 : CallR X (.type "tuple") (uTupC X.K) := by
  intro pins s σ H xs us Q I r h
  match xs, h with
  | [.ref p], h =>
    rcases h with ⟨ys, h1, h2⟩ | ⟨ys, h1, h2⟩
    · exact call_tuple_of pins s σ H _ us Q I r ⟨p, ys, rfl, Or.inl ⟨h1, h2⟩⟩
    · exact call_tuple_of pins s σ H _ us Q I r ⟨p, ys, rfl, Or.inr ⟨h1, h2⟩⟩
def uLstC (K : PySem.W.Frag) : List V → Hp → VK → Prop := fun xs H Q => match xs with
  | [.ref p] => ∃ ys, (SqL K H p ys ∨ SqT K H p ys) ∧ ∀ l, H l = none → Q (.ref l) (upd H l (.lst ys))
  | _ => False
theorem call_uList0 : CallR X (.type "list") (uLstC X.K) := by
  intro pins s σ H xs us Q I r h
  match xs, h with
  | [.ref p], ⟨ys, h1, h2⟩ => exact call_list_of pins s σ H _ us Q I r ⟨p, ys, rfl, h1, h2⟩
/-- abs(i) -/
def uAbs : List V → Hp → VK → Prop := fun xs H Q => match xs with
  | [.int i] => Q (.int (if i < 0 then -i else i)) H
  | _ => False
theorem call_uAbs : CallR X (.builtin "abs") uAbs := by
  intro pins s σ H xs us Q I r h
  match xs, h with
  | [.int i], h => exact call_abs pins s σ H _ us Q I r ⟨i, rfl, h⟩
/-- min(i, j), max(i, j) -/
def uMM (f : Int → Int → Int) : List V → Hp → VK → Prop := fun xs H Q => match xs with
  | [.int i, .int j] => Q (.int (f i j)) H
  | _ => False
theorem call_uMin (hc : X.calm = true) : CallR X (.builtin "min") (uMM fun i j => if j < i then j else i) := by
  intro pins s σ H xs us Q I r h
  match xs, h with
  | [.int i, .int j], h => exact call_min2 hc pins s σ H _ us Q I r ⟨i, j, rfl, h⟩
theorem call_uMax (hc : X.calm = true) : CallR X (.builtin "max") (uMM fun i j => if j > i then j else i) := by
  intro pins s σ H xs us Q I r h
  match xs, h with
  | [.int i, .int j], h => exact call_max2 hc pins s σ H _ us Q I r ⟨i, j, rfl, h⟩
end
section
variable {X : Cx} {K : PySem.W.Frag}
/-! the same, K named: within a comprehension -/
theorem op_uAdd (hK : X.K = K) : OpR X (binaryOp .Add) (uAdd K) := by subst hK; exact op_uAdd0
theorem ix_u (hK : X.K = K) : IxR X (uIx K) := by subst hK; exact ix_u0
theorem sl_u (hK : X.K = K) : SlR X (uSl K) := by subst hK; exact sl_u0
theorem call_uLen (hK : X.K = K) : CallR X (.builtin "len") (uLen K) := by subst hK; exact call_uLen0
theorem op_uEq (hK : X.K = K) (hu : X.A.units + 64 < cLine) : OpR X (compareOp .Eq) (uEq K false) := by subst hK; exact op_uEq0 hu
theorem op_uNe (hK : X.K = K) (hu : X.A.units + 64 < cLine) : OpR X (compareOp .NotEq) (uEq K true) := by subst hK; exact op_uNe0 hu
theorem call_uAll (hK : X.K = K) (hc : X.calm = true) : CallR X (.builtin "all") (rAll K) := by subst hK; exact cr_all hc
theorem call_uSum (hK : X.K = K) (hc : X.calm = true) : CallR X (.builtin "sum") (rSum K) := by subst hK; exact cr_sum hc
theorem call_uTuple (hK : X.K = K) : CallR X (.type "tuple") (uTupC K) := by subst hK; exact call_uTuple0
theorem call_uList (hK : X.K = K) : CallR X (.type "list") (uLstC K) := by subst hK; exact call_uList0
theorem call_uIsi (hK : X.K = K) : CallR X (.builtin "isinstance") (rIsi K) := by subst hK; exact call_isi
theorem u_fld {e : Expr} {ta : TE} {f : Str} {pos : Pos} (hK : X.K = K) (he : PE X e ta) (hb : attributeBase e f X.env (eval e X.env) = eval e X.env) : PE X (.Attribute e f pos) (tFld K ta f) := by subst hK; exact pe_fld he hb
theorem u_list {tg l : Expr} {tl : TE} (hK : X.K = K) (hl : PE X l tl) : PI X tg l (iList K tl) := by subst hK; exact pi_list hl
theorem u_tup {tg l : Expr} {tl : TE} (hK : X.K = K) (hl : PE X l tl) : PI X tg l (iTup K tl) := by subst hK; exact pi_tup hl
theorem u_gtup {es : List Expr} {k : Nat} {t : TGs} {n : Nat} {pos : Pos} (hK : X.K = K) (hc : X.calm = true) (h : PGs X es t) (hn : (assignEach es X.env).length = n := by rfl) (hst : (assignEach es X.env).findIdx? (·.1) = none := by rfl) : PG X (.Tuple es k pos) (gTup K n t) := by subst hK; exact pg_tup hc h hn hst
end
/-! ### heaps -/
theorem same_new {H : Hp} {p : Addr} {o : HO} (h : H p = none) : Same H (upd H p o) := fun a u e => by
  rw [upd_ne (ne_of_none e h)]
  exact e
theorem nb1 {H : Hp} {a b : Addr} {o : HO} (h : (upd H a o) b = none) : H b = none := by
  by_cases e : b = a
  · subst e; rw [upd_same] at h; cases h
  · rw [upd_ne e] at h; exact h
/-- all that was tracked stays, but what stands at p -/
def SB (p : Addr) (H H' : Hp) : Prop := ∀ b o, H b = some o → b ≠ p → H' b = some o
theorem SB.refl (p : Addr) (H : Hp) : SB p H H := fun _ _ h _ => h
theorem SB.trans {p : Addr} {H H1 H2 : Hp} (a : SB p H H1) (b : SB p H1 H2) : SB p H H2 := fun c o h n => b c o (a c o h n) n
theorem SB.of {p : Addr} {H H' : Hp} (a : Same H H') : SB p H H' := fun c o h _ => a c o h
theorem SB.new {p a : Addr} {H H' : Hp} {o : HO} (s : SB p H H') (h : H' a = none) : SB p H (L2.upd H' a o) := fun c u e n => same_new h c u (s c u e n)
theorem SB.mut {p a : Addr} {H H' : Hp} {o : HO} (s : SB p H H') (h : H a = none) : SB p H (L2.upd H' a o) := fun c u e n => by
  rw [upd_ne (ne_of_none e h)]
  exact s c u e n
theorem SB.upd {p : Addr} {H : Hp} {o : HO} : SB p H (L2.upd H p o) := fun c u h n => by rw [L2.upd_ne n]; exact h
theorem SB.put {p : Addr} {H H' : Hp} {o : HO} (a : SB p H H') : SB p H (L2.upd H' p o) := fun c u h n => by rw [upd_ne n]; exact a c u h n
theorem get_same {H : Hp} {a : Addr} {o u : HO} (e : o = u) : (upd H a o) a = some u := by rw [upd_same, e]
theorem get_new {H : Hp} {p a : Addr} {o u : HO} (h : H p = none) (ha : H a = some u) : (upd H p o) a = some u := same_new h a u ha
theorem get_ne {H : Hp} {p a : Addr} {o : HO} {r : Option HO} (h : a ≠ p) (ha : H a = r) : (upd H p o) a = r := by rw [upd_ne h]; exact ha
/-! ### the reading's steps, each by its own lemma (goal on the right) -/
section
variable {σ : L2.St} {H : Hp} {Q : VK} {D : Ends} {K : PySem.W.Frag}
theorem g_var {i : Nat} {v : V} (h : σ[i]? = some (some v)) (q : Q v H) : tVar i σ H Q := ⟨v, h, q⟩
theorem g_c {v : V} (q : Q v H) : tC v σ H Q := q
theorem g_op {r : R2} {ta tb : TE} (q : ta σ H fun x H1 => tb σ H1 fun y H2 => r x y H2 Q) : tOp r ta tb σ H Q := q
theorem g_un {r : V → Hp → VK → Prop} {ta : TE} (q : ta σ H fun x H1 => r x H1 Q) : tUn r ta σ H Q := q
theorem g_nil {R : List V → Hp → Prop} (q : R [] H) : tNil σ H R := q
theorem g_cons {ta : TE} {t : TA} {R : List V → Hp → Prop} (q : ta σ H fun x H1 => t σ H1 fun xs H2 => R (x :: xs) H2) : tCons ta t σ H R := q
theorem g_cb {r : List V → Hp → VK → Prop} {t : TA} (q : t σ H fun vs H1 => r vs H1 Q) : tCB r t σ H Q := q
theorem g_call {sp : Sp} {dvs : List V} {E : XK} {t : TA} (q : t σ H fun vs H1 => sp (vs ++ dvs) H1 Q E) : tCall sp dvs E t σ H Q := q
theorem g_seq {t u : TS} (q : t { D with nx := u D } σ H) : tSeq t u D σ H := q
theorem g_next (q : D.nx σ H) : tNext D σ H := q
theorem g_asg {te : TE} {g : TG} (q : te σ H fun x H1 => g x σ H1 D.nx) : tAsg te g D σ H := q
theorem g_name {i : Nat} {v : V} {R : L2.St → Hp → Prop} (q : R (σ.set i (some v)) H) : gName i v σ H R := q
theorem g_ret {te : TE} (q : te σ H D.rt) : tRet te D σ H := q
theorem g_drop {te : TE} (q : te σ H fun _ H1 => D.nx σ H1) : tDrop te D σ H := q
theorem g_ifS {c : TT} {t u : TS} (q : c σ H fun b H1 => if b = true then t D σ H1 else u D σ H1) : tIfS c t u D σ H := q
theorem g_if {c : TT} {ta tb : TE} (q : c σ H fun b H1 => if b = true then ta σ H1 Q else tb σ H1 Q) : tIf c ta tb σ H Q := q
theorem g_test {t : TE} {R : Bool → Hp → Prop} (q : t σ H fun x H' => ∃ k, x = .bl k ∧ R k H') : tTest t σ H R := q
theorem g_B {t : TE} {R : Bool → Hp → Prop} (q : t σ H fun x H' => ∃ k, x = .bl k ∧ R k H') : tB t σ H R := q
theorem g_and {t u : TT} {R : Bool → Hp → Prop} (q : t σ H fun c H1 => if c = true then u σ H1 R else R false H1) : tAnd t u σ H R := q
theorem g_or {t u : TT} {R : Bool → Hp → Prop} (q : t σ H fun c H1 => if c = true then R true H1 else u σ H1 R) : tOr t u σ H R := q
theorem g_not {t : TT} {R : Bool → Hp → Prop} (q : t σ H fun c H1 => R (!c) H1) : tNot t σ H R := q
theorem g_andV {ta tb : TE} (q : ta σ H fun x H1 => ∃ c, x = .bl c ∧ if c = true then tb σ H1 Q else Q (.bl false) H1) : tAndV ta tb σ H Q := q
theorem g_orV {ta tb : TE} (q : ta σ H fun x H1 => ∃ c, x = .bl c ∧ if c = true then Q (.bl true) H1 else tb σ H1 Q) : tOrV ta tb σ H Q := q
theorem g_notV {ta : TE} (q : ta σ H fun x H1 => ∃ c, x = .bl c ∧ Q (.bl (!c)) H1) : tNotV ta σ H Q := q
theorem g_addI {i j : Int} (q : Q (.int (i + j)) H) : uAdd K (.int i) (.int j) H Q := q
theorem g_subI {i j : Int} (q : Q (.int (i - j)) H) : uSub (.int i) (.int j) H Q := q
theorem g_negI {i : Int} (q : Q (.int (-i)) H) : uNeg (.int i) H Q := q
theorem g_cmpI {p : Int → Int → Bool} {i j : Int} (q : Q (.bl (p i j)) H) : uCmp p (.int i) (.int j) H Q := q
theorem g_intI {i : Int} (q : Q (.int i) H) : uInt [.int i] H Q := q
theorem g_intB {k : Bool} (q : Q (.int (if k then 1 else 0)) H) : uInt [.bl k] H Q := q
theorem g_absI {i : Int} (q : Q (.int (if i < 0 then -i else i)) H) : uAbs [.int i] H Q := q
theorem g_mmI {f : Int → Int → Int} {i j : Int} (q : Q (.int (f i j)) H) : uMM f [.int i, .int j] H Q := q
theorem g_bl {b : Bool} {R : Bool → Hp → Prop} (q : R b H) : ∃ k, V.bl b = .bl k ∧ R k H := ⟨b, rfl, q⟩
theorem g_blP {b : Bool} {R : Bool → Prop} (q : R b) : ∃ k, V.bl b = .bl k ∧ R k := ⟨b, rfl, q⟩
theorem g_eqS {x y : V} {n : Bool} (h : scal x y = true) (q : Q (.bl (if n then !decide (x = y) else decide (x = y))) H) : uEq K n x y H Q := Or.inl ⟨h, q⟩
theorem g_modI {i j : Int} (h : 0 < j) (q : Q (.int (i % j)) H) : uMod (.int i) (.int j) H Q := ⟨h, q⟩
theorem g_ix {p : Addr} {xs : List V} {i : Int} {v : V} (h1 : SqL K H p xs ∨ SqT K H p xs) (h2 : atI xs i = some v) (q : Q v H) : uIx K (.ref p) (.int i) H Q := ⟨xs, v, h1, h2, q⟩
theorem g_lst {ta : TA} (q : ta σ H fun xs H1 => xs.length ≤ sizeLine ∧ ∀ p, H1 p = none → Q (.ref p) (upd H1 p (.lst xs))) : tLst ta σ H Q := q
theorem g_tup {ta : TA} (q : ta σ H fun xs H1 => xs.length ≤ sizeLine ∧ ∀ p, H1 p = none → Q (.ref p) (upd H1 p (.tup xs))) : tTup ta σ H Q := q
theorem g_sub {to ti : TE} {t : TSet} {v : V} {R : L2.St → Hp → Prop} (q : to σ H fun o H1 => ti σ H1 fun i H2 => t o i v H2 fun H3 => R σ H3) : gSub to ti t v σ H R := q
theorem g_setL {p : Addr} {xs : List V} {k : Int} {j : Nat} {v : V} {R : Hp → Prop} (h : H p = some (.lst xs)) (e : ixN xs.length k = some j) (q : R (upd H p (.lst (xs.set j v)))) : rSetL (.ref p) (.int k) v H R := ⟨p, xs, k, j, rfl, rfl, h, e, q⟩
theorem g_ixS {z : Str} {i : Int} {c : Nat} (h : z.length ≤ sizeLine) (e : atI z.cps.toList i = some c) (q : Q (.str ⟨#[c]⟩) H) : uIx K (.str z) (.int i) H Q := ⟨h, c, e, q⟩
theorem g_T {A B : Prop} (h : A) : if true = true then A else B := iteT h
theorem g_F {A B : Prop} (h : B) : if false = true then A else B := iteF h
theorem g_nT {A B : Prop} (h : B) : if (!true) = true then A else B := iteF h
theorem g_nF {A B : Prop} (h : A) : if (!false) = true then A else B := iteT h
theorem g_2 {b : Bool} {A B : Prop} (h1 : b = true → A) (h2 : b = false → B) : if b = true then A else B := by
  cases b with
  | true => exact iteT (h1 rfl)
  | false => exact iteF (h2 rfl)
theorem intBits_le {i : Int} {n : Nat} (h : i.natAbs < 2 ^ n) : Builtin.Int.intBits i ≤ n := by
  unfold Builtin.Int.intBits
  split
  · exact Nat.zero_le _
  · rename_i hn
    have h0 : i.natAbs ≠ 0 := fun z => hn (by simp [Int.natAbs_eq_zero.mp z])
    exact (Nat.log2_lt h0).mpr h
theorem g_pow3 {i : Int} (h0 : 0 ≤ i) (h : i < 2 ^ 100) (q : Q (.int (i ^ (3 : Int).toNat)) H) : uPow (.int i) (.int 3) H Q := by
  refine ⟨⟨by decide, ?_⟩, q⟩
  have z : Builtin.Int.intBits i ≤ 100 := intBits_le (by omega)
  have : ((Builtin.Int.intBits i : Nat) : Int) ≤ 100 := by exact_mod_cast z
  omega
theorem g_ix5 {p : Addr} {a b c d e k : Int} (h : SqL K H p [.int a, .int b, .int c, .int d, .int e]) (ha : ∀ v ∈ [a, b, c, d, e], (0 : Int) < v ∧ v < 2 ^ 32) (h0 : 0 ≤ k) (h5 : k < 5) (q : ∀ v : Int, 0 < v → v < 2 ^ 32 → Q (.int v) H) : uIx K (.ref p) (.int k) H Q := by
  have : k = 0 ∨ k = 1 ∨ k = 2 ∨ k = 3 ∨ k = 4 := by omega
  rcases this with rfl | rfl | rfl | rfl | rfl
  · exact g_ix (Or.inl h) rfl (q _ (ha a (by simp)).1 (ha a (by simp)).2)
  · exact g_ix (Or.inl h) rfl (q _ (ha b (by simp)).1 (ha b (by simp)).2)
  · exact g_ix (Or.inl h) rfl (q _ (ha c (by simp)).1 (ha c (by simp)).2)
  · exact g_ix (Or.inl h) rfl (q _ (ha d (by simp)).1 (ha d (by simp)).2)
  · exact g_ix (Or.inl h) rfl (q _ (ha e (by simp)).1 (ha e (by simp)).2)
theorem bnd_ckk {C k : Int} (h0 : 0 ≤ C) (h1 : C ≤ 2 ^ 20) (k0 : 0 ≤ k) (k1 : k ≤ 2 ^ 20) : 0 ≤ C * k * k ∧ C * k * k ≤ 2 ^ 60 := by
  have a1 : 0 ≤ C * k := Int.mul_nonneg h0 k0
  have a2 : C * k ≤ 2 ^ 20 * 2 ^ 20 := Int.mul_le_mul h1 k1 k0 (by decide)
  refine ⟨Int.mul_nonneg a1 k0, ?_⟩
  have a3 : C * k * k ≤ 2 ^ 20 * 2 ^ 20 * 2 ^ 20 := Int.mul_le_mul a2 k1 k0 (by decide)
  exact a3
theorem g_powB {s C k e : Int} (s0 : 0 ≤ s) (s1 : s < 2 ^ 61) (c0 : 0 ≤ C) (c1 : C ≤ 2 ^ 20) (k0 : 0 ≤ k) (k1 : k ≤ 2 ^ 20) (e0 : 0 ≤ e) (e1 : e ≤ 2 ^ 20) (q : Q (.int ((s + C * k * k + e) ^ (3 : Int).toNat)) H) : uPow (.int (s + C * k * k + e)) (.int 3) H Q := by
  obtain ⟨b0, b1⟩ := bnd_ckk c0 c1 k0 k1
  exact g_pow3 (by omega) (by omega) q
theorem at_nat {α : Type} {xs : List α} {z : Int} {j : Nat} {v : α} (e : z = (j : Int)) (h : xs[j]? = some v) : atI xs z = some v := by
  rw [e]
  exact atI_nat h
theorem g_mulB {i : Int} {b : Bool} (q : Q (.int (i * (if b = true then 1 else 0))) H) : uMul (.int i) (.int (if b = true then 1 else 0)) H Q := ⟨Or.inl (Or.inr (by cases b <;> decide)), q⟩
theorem g_powL {i j : Int} (h : decide (0 ≤ j ∧ (Builtin.Int.intBits i : Int) * j ≤ 2 ^ 27) = true) (q : Q (.int (i ^ j.toNat)) H) : uPow (.int i) (.int j) H Q := ⟨of_decide_eq_true h, q⟩
theorem g_modL {i j : Int} (h : decide (0 < j) = true) (q : Q (.int (i % j)) H) : uMod (.int i) (.int j) H Q := ⟨of_decide_eq_true h, q⟩
theorem g_sum {p : Addr} {ns : List Int} (h : SqL K H p (ns.map V.int)) (q : Q (.int ns.sum) H) : rSum K [.ref p] H Q := ⟨p, ns, rfl, h, q⟩
theorem mulB_bd {x : Int} {b : Bool} {M : Int} (h0 : 0 ≤ x) (h1 : x < M) : 0 ≤ x * (if b = true then 1 else 0) ∧ x * (if b = true then 1 else 0) < M := by
  cases b
  · simp; omega
  · simp; omega
theorem cut1 (ns : List Int) : cutV (ns.map V.int) none (some 1) = (ns.take 1).map V.int := by
  cases ns <;> rfl
theorem g_cut {t : TE} (P : V → Hp → Prop) (h1 : ∀ R : VK, (∀ v H1, P v H1 → R v H1) → t σ H R) (h2 : ∀ v H1, P v H1 → Q v H1) : t σ H Q := h1 Q h2
theorem g_lrg {te : L2.St → Hp → (Int → Int → Hp → Prop) → Prop} (q : te σ H fun a b H1 => RgOk a b ∧ ∀ q, H1 q = none → Q (.ref q) (upd H1 q (.lst (rgV a b)))) : tLstRg te σ H Q := q
theorem g_rg1 {ta : TE} {R : Int → Int → Hp → Prop} (q : ta σ H fun x H1 => ∃ n, x = .int n ∧ R 0 n H1) : tRg1 ta σ H R := q
theorem g_intE {i : Int} {R : Int → Prop} (q : R i) : ∃ n, V.int i = .int n ∧ R n := ⟨i, rfl, q⟩
theorem g_sl {r : V → Option Int → Option Int → Hp → VK → Prop} {te : TE} {tl th : TO} (q : te σ H fun x H1 => tl σ H1 fun l H2 => th σ H2 fun u H3 => r x l u H3 Q) : tSl r te tl th σ H Q := q
theorem g_noP {R : Option Int → Hp → Prop} (q : R none H) : tNoPart σ H R := q
theorem g_part {t : TE} {R : Option Int → Hp → Prop} (q : t σ H fun x H1 => ∃ i, x = .int i ∧ R (some i) H1) : tPart t σ H R := q
theorem g_slL {a : Addr} {xs : List V} {lo hi : Option Int} (h : SqL K H a xs) (q : ∀ p, H p = none → Q (.ref p) (upd H p (.lst (cutV xs lo hi)))) : uSl K (.ref a) lo hi H Q := Or.inl ⟨xs, h, q⟩
theorem log2_small {i : Int} (h : -(2 ^ 64) < i) (h' : i < 2 ^ 64) : i.natAbs.log2 < 1920 := by
  by_cases h0 : i.natAbs = 0
  · rw [h0]; decide
  · exact Nat.lt_of_lt_of_le ((Nat.log2_lt h0).mpr (show i.natAbs < 2 ^ 64 by omega)) (by decide)
theorem g_strI {i : Int} (h : -(2 ^ 64) < i ∧ i < 2 ^ 64) (q : Q (.str (toString i)) H) : uStr [.int i] H Q := ⟨log2_small h.1 h.2, q⟩
theorem g_strS {a : Str} (q : Q (.str a) H) : uStr [.str a] H Q := q
theorem g_mulL {i j : Int} (h : -(2 ^ 64) < i ∧ i < 2 ^ 64) (q : Q (.int (i * j)) H) : uMul (.int i) (.int j) H Q := ⟨Or.inl (Or.inl h), q⟩
theorem g_mulR {i j : Int} (h : -(2 ^ 64) < j ∧ j < 2 ^ 64) (q : Q (.int (i * j)) H) : uMul (.int i) (.int j) H Q := ⟨Or.inl (Or.inr h), q⟩
theorem g_divP {i j : Int} (h0 : 0 < j) (h1 : j < 2 ^ 62) (q : Q (.int (i / j)) H) : uDiv (.int i) (.int j) H Q := ⟨wide_div h0 (b := 62) (by omega) (by decide) (by decide), q⟩
theorem g_tupL {p : Addr} {ys : List V} (h : SqL K H p ys) (q : ∀ l, H l = none → Q (.ref l) (upd H l (.tup ys))) : uTupC K [.ref p] H Q := Or.inl ⟨ys, h, q⟩
theorem g_lstC {p : Addr} {ys : List V} (h : SqL K H p ys ∨ SqT K H p ys) (q : ∀ l, H l = none → Q (.ref l) (upd H l (.lst ys))) : uLstC K [.ref p] H Q := ⟨ys, h, q⟩
theorem g_allB {p : Addr} {bs : List Bool} (h : SqL K H p (bs.map V.bl)) (q : Q (.bl (bs.all id)) H) : rAll K [.ref p] H Q := ⟨p, bs, rfl, h, q⟩
theorem g_lenL {p : Addr} {ys : List V} (h : SqL K H p ys ∨ SqT K H p ys) (q : Q (.int ys.length) H) : uLen K [.ref p] H Q := Or.inl ⟨ys, h, q⟩
theorem g_lenS {z : Str} (h : z.length ≤ sizeLine) (q : Q (.int z.length) H) : uLen K [.str z] H Q := ⟨h, q⟩
end
end U
namespace U
open PySem PySem.Spec PyProof.Rows L2
section
variable {σ : L2.St} {H : Hp} {Q : VK} {D : Ends} {K : PySem.W.Frag}
/-- one turn of a comprehension; acc: what was made so far, at E; A, B: what is to be reached with an item, without -/
def LcT (E : Addr) (n : Nat) (Y : Nat → Hp → V → Hp → Prop) (Pv : Nat → List V → Hp → Prop) (σ : L2.St) (vs : List Nat) (g : TG) (tt : TT) (te : TE) : Prop :=
  ∀ i x acc H' H'' (A : VK) (B : Hp → Prop), i < n → H' E = some (.lst acc) → Pv i acc H' → Y i H' x H'' →
    (∀ y H4, H4 E = some (.lst acc) → Pv (i + 1) (acc ++ [y]) (upd H4 E (.lst (acc ++ [y]))) → A y H4) → (∀ H3, H3 E = some (.lst acc) → Pv (i + 1) acc H3 → B H3) →
    g x (wipe σ vs) H'' fun σ2 H2 => wipe σ2 vs = wipe σ vs ∧ tt σ2 H2 fun b H3 => if b = true then te σ2 H3 A else B H3
theorem lc_gen {J : It} {n : Nat} {G : Hp → Prop} {Y : Nat → Hp → V → Hp → Prop} (w : Walk J n G Y) (hn : n ≤ 1000000) {g : TG} {tt : TT} {te : TE} {vs : List Nat} {H1 : Hp} {E : Addr} {Qd : Hp → Prop} (Pv : Nat → List V → Hp → Prop) (h0 : Pv 0 [] (upd H1 E (.lst []))) (hG : ∀ i acc H', i ≤ n → Pv i acc H' → G H')
    (hs : LcT E n Y Pv σ vs g tt te)
    (hd : ∀ acc H', H' E = some (.lst acc) → Pv n acc H' → Qd H') :
    ∃ W : Nat → Nat → Hp → Prop, (∃ m, W 0 m (upd H1 E (.lst []))) ∧ ∀ i m H, W i m H →
      (J.stop i H ∧ Qd H) ∨ (J.go i H ∧ ∃ Nx : Hp → Prop, (∀ H', Nx H' → ∃ m', m' < m ∧ W (i + 1) m' H') ∧ ∀ x H', J.yld i H x H' → g x (wipe σ vs) H' fun σ2 H2 => wipe σ2 vs = wipe σ vs ∧ tt σ2 H2 fun b H3 =>
        if b = true then te σ2 H3 fun y H4 => ∃ acc, H4 E = some (.lst acc) ∧ acc.length < sizeLine ∧ Nx (upd H4 E (.lst (acc ++ [y]))) else Nx H3) := by
  refine lc_it w (fun i H' => ∃ acc, H' E = some (.lst acc) ∧ acc.length ≤ i ∧ Pv i acc H') ⟨[], upd_same, Nat.le_refl _, h0⟩ (fun i H' hi ⟨acc, _, _, p⟩ => hG i acc H' hi p) (fun i x H' H'' hi ⟨acc, ha, hl, p⟩ y => ?_) fun H' ⟨acc, ha, _, p⟩ => hd acc H' ha p
  have h : (1000000 : Nat) < sizeLine := by decide
  refine hs i x acc H' H'' _ _ hi ha p y (fun v H4 q1 q2 => ⟨acc, q1, by omega, acc ++ [v], upd_same, by rw [List.length_append]; show acc.length + 1 ≤ i + 1; omega, q2⟩) fun H3 q1 q2 => ⟨acc, q1, by omega, q2⟩
/-- what a comprehension, a for asks of the thing that is walked -/
def lcI (σ : L2.St) (vs : List Nat) (g : TG) (tt : TT) (te : TE) (Q : VK) (J : It) (H1 : Hp) : Prop := ∀ E, H1 E = none → ∃ W : Nat → Nat → Hp → Prop, (∃ m, W 0 m (upd H1 E (.lst []))) ∧ ∀ i m H, W i m H → (J.stop i H ∧ Q (.ref E) H) ∨ (J.go i H ∧ ∃ Nx : Hp → Prop, (∀ H', Nx H' → ∃ m', m' < m ∧ W (i + 1) m' H') ∧ ∀ x H', J.yld i H x H' → g x (wipe σ vs) H' fun σ2 H2 => wipe σ2 vs = wipe σ vs ∧ tt σ2 H2 fun b H3 => if b = true then te σ2 H3 fun y H4 => ∃ acc, H4 E = some (.lst acc) ∧ acc.length < sizeLine ∧ Nx (upd H4 E (.lst (acc ++ [y]))) else Nx H3)
def forI (σ : L2.St) (g : TG) (tb : TS) (D : Ends) (J : It) (H1 : Hp) : Prop := ∃ W : Nat → Nat → L2.St → Hp → Prop, (∃ m, W 0 m σ H1) ∧ ∀ i m σ H, W i m σ H → (J.stop i H ∧ D.nx σ H) ∨ (J.go i H ∧ ∃ N : L2.St → Hp → Prop, (∀ σ' H', N σ' H' → ∃ m', m' < m ∧ W (i + 1) m' σ' H') ∧ ∀ x H', J.yld i H x H' → g x σ H' fun σ2 H2 => tb { D with nx := N, ct := N, bk := D.nx } σ2 H2)
section
variable {g : TG} {tt : TT} {te tl : TE} {ta : TA} {tb : TS} {vs : List Nat} {wi : TI}
theorem g_lc (q : wi σ H fun J H1 => lcI σ vs g tt te Q J H1) : tLc wi g tt te vs σ H Q := q
theorem g_for (q : wi σ H fun J H1 => forI σ g tb D J H1) : tFor wi g tb D σ H := q
/-- the shapes of walks -/
theorem g_iList {R : It → Hp → Prop} (q : tl σ H fun x H1 => ∃ a, x = .ref a ∧ (∃ xs, SqL K H1 a xs) ∧ R (Itl K a) H1) : iList K tl σ H R := q
theorem g_iTup {R : It → Hp → Prop} (q : tl σ H fun x H1 => ∃ a, x = .ref a ∧ (∃ xs, SqT K H1 a xs) ∧ R (Itt K a) H1) : iTup K tl σ H R := q
theorem g_iRng1 {R : It → Hp → Prop} (q : ta σ H fun vs H1 => ∃ j : Int, vs = [.int j] ∧ -(2 ^ 62) ≤ j ∧ j < 2 ^ 62 ∧ R (Itr 0 j.toNat) H1) : iRng1 ta σ H R := q
theorem g_iStr {R : It → Hp → Prop} (q : tl σ H fun v H1 => ∃ x, v = .str x ∧ R (Its x) H1) : iStr tl σ H R := q
theorem g_iEnum {R : It → Hp → Prop} (q : ta σ H fun vs H1 => ∃ a xs, vs = [.ref a] ∧ SqL K H1 a xs ∧ R (Ite K a) H1) : iEnum K ta σ H R := q
theorem g_iVals {R : It → Hp → Prop} (q : tl σ H fun x H1 => ∃ d o kvs, x = .ref d ∧ H1 d = some (.frz o (.dK kvs)) ∧ R (Itd d o kvs) H1) : iVals tl σ H R := q
theorem e_list {a : Addr} {xs : List V} {R : It → Hp → Prop} (h : SqL K H a xs) (q : R (Itl K a) H) : ∃ b, V.ref a = .ref b ∧ (∃ xs, SqL K H b xs) ∧ R (Itl K b) H := ⟨a, rfl, ⟨xs, h⟩, q⟩
theorem e_tup {a : Addr} {xs : List V} {R : It → Hp → Prop} (h : SqT K H a xs) (q : R (Itt K a) H) : ∃ b, V.ref a = .ref b ∧ (∃ xs, SqT K H b xs) ∧ R (Itt K b) H := ⟨a, rfl, ⟨xs, h⟩, q⟩
theorem e_rng {j : Int} {R : It → Hp → Prop} (h : j ≤ 1000000) (h0 : -1000000 ≤ j) (q : R (Itr 0 j.toNat) H) : ∃ i : Int, [V.int j] = [.int i] ∧ -(2 ^ 62) ≤ i ∧ i < 2 ^ 62 ∧ R (Itr 0 i.toNat) H := ⟨j, rfl, by omega, by omega, q⟩
/-- a comprehension, a for, over any walk -/
theorem lcI_by {J : It} {n : Nat} {G : Hp → Prop} {Y : Nat → Hp → V → Hp → Prop} (w : Walk J n G Y) (hn : n ≤ 1000000) (h : ∀ E, H E = none → ∃ Pv, Pv 0 [] (upd H E (.lst [])) ∧ (∀ i acc H', i ≤ n → Pv i acc H' → G H') ∧ LcT E n Y Pv σ vs g tt te ∧ ∀ acc H', H' E = some (.lst acc) → Pv n acc H' → Q (.ref E) H') : lcI σ vs g tt te Q J H := fun E hE =>
  let ⟨Pv, p0, p1, p2, p3⟩ := h E hE
  lc_gen w hn Pv p0 p1 p2 p3
theorem forI_by {J : It} {n : Nat} {G : Hp → Prop} {Y : Nat → Hp → V → Hp → Prop} (w : Walk J n G Y) (Pv : Nat → L2.St → Hp → Prop) (h0 : Pv 0 σ H) (hG : ∀ i σ H, i ≤ n → Pv i σ H → G H)
    (hs : ∀ i x σ H H', i < n → Pv i σ H → Y i H x H' → g x σ H' fun σ2 H2 => tb { D with nx := Pv (i + 1), ct := Pv (i + 1), bk := D.nx } σ2 H2) (hd : ∀ σ H, Pv n σ H → D.nx σ H) : forI σ g tb D J H := for_it w Pv h0 hG hs hd
end
theorem same_mut {H H' : Hp} {a : Addr} {o : HO} (s : Same H H') (h : H a = none) : Same H (upd H' a o) := fun c u e => by
  rw [upd_ne (ne_of_none e h)]
  exact s c u e
/-- a comprehension that leaves all that stood: f tells what turn i gives -/
theorem lcI_same {g : TG} {tt : TT} {te : TE} {vs : List Nat} {J : It} {n : Nat} {G : Hp → Prop} {Y : Nat → Hp → V → Hp → Prop} (w : Walk J n G Y) (hn : n ≤ 1000000) (f : Nat → Option V) (hG : ∀ H', Same H H' → G H') (hY : ∀ i H' x H'', Y i H' x H'' → Same H' H'')
    (turn : ∀ i x H' H'' (A : VK) (B : Hp → Prop), i < n → Same H H' → Y i H' x H'' → (∀ y H4, f i = some y → Same H'' H4 → A y H4) → (f i = none → ∀ H3, Same H'' H3 → B H3) →
      g x (wipe σ vs) H'' fun σ2 H2 => wipe σ2 vs = wipe σ vs ∧ tt σ2 H2 fun b H3 => if b = true then te σ2 H3 A else B H3)
    (k : ∀ E H', H E = none → Same H H' → H' E = some (.lst ((List.range n).filterMap f)) → Q (.ref E) H') : lcI σ vs g tt te Q J H := by
  refine lcI_by w hn fun E hE => ⟨fun i acc H' => Same H H' ∧ acc = (List.range i).filterMap f, ⟨same_new hE, rfl⟩, fun i acc H' _ p => hG H' p.1, ?_, fun acc H' ha ⟨s, e⟩ => k E H' hE s (by rw [ha, e])⟩
  intro i x acc H' H'' A B hi ha ⟨s, e⟩ y kA kB
  have s' := hY i H' x H'' y
  refine turn i x H' H'' A B hi s y (fun v H4 ev s4 => kA v H4 (s4 _ _ (s' _ _ ha)) ⟨same_mut (s.trans (s'.trans s4)) hE, ?_⟩) fun en H3 s3 => kB H3 (s3 _ _ (s' _ _ ha)) ⟨s.trans (s'.trans s3), ?_⟩
  · rw [List.range_succ, List.filterMap_append, ← e]
    simp [ev]
  · rw [List.range_succ, List.filterMap_append, ← e]
    simp [en]
theorem range_fm {α β : Type} (h : α → Option β) : ∀ xs : List α, (List.range xs.length).filterMap (fun i => (xs[i]?).bind h) = xs.filterMap h := by
  intro xs
  induction xs with
  | nil => rfl
  | cons a r ih =>
    rw [List.length_cons, List.range_succ_eq_map, List.filterMap_cons, List.filterMap_map, List.filterMap_cons]
    have e : ((fun i => ((a :: r)[i]?).bind h) ∘ Nat.succ) = fun i => (r[i]?).bind h := by funext i; simp
    rw [e, ih]
    rfl
/-- .. over a list: h tells what an item gives -/
theorem lcI_list {g : TG} {tt : TT} {te : TE} {vs : List Nat} {a : Addr} {xs : List V} (hx : SqL K H a xs) (hn : xs.length ≤ 1000000) (h : V → Option V)
    (turn : ∀ x H' (A : VK) (B : Hp → Prop), x ∈ xs → Same H H' → (∀ y H4, h x = some y → Same H' H4 → A y H4) → (h x = none → ∀ H3, Same H' H3 → B H3) →
      g x (wipe σ vs) H' fun σ2 H2 => wipe σ2 vs = wipe σ vs ∧ tt σ2 H2 fun b H3 => if b = true then te σ2 H3 A else B H3)
    (k : ∀ E H', H E = none → Same H H' → H' E = some (.lst (xs.filterMap h)) → Q (.ref E) H') : lcI σ vs g tt te Q (Itl K a) H := by
  refine lcI_same walk_list hn (fun i => (xs[i]?).bind h) (fun H' s => s.seq hx) (fun i H' x H'' y => by rw [y.1]; exact Same.refl _) (fun i x H' H'' A B hi s y kA kB => ?_) fun E H' e s q => k E H' e s (by rw [q, range_fm])
  obtain ⟨rfl, ex⟩ := y
  exact turn x H'' A B (List.mem_of_getElem? ex) s (fun v H4 ev s4 => kA v H4 (by rw [ex]; exact ev) s4) fun en H3 s3 => kB (by rw [ex]; exact en) H3 s3
theorem g_cont (q : D.ct σ H) : tCont D σ H := q
theorem g_yes {R : Bool → Hp → Prop} (q : R true H) : tYes σ H R := q
/-! ### dicts, methods of lists and texts -/
section
variable {ty td tv to te tx : TE} {t : TA} {tt : TT}
theorem g_dnotin (q : ty σ H fun y H1 => td σ H1 fun x H2 => ∃ a o, x = .ref a ∧ DGet H2 a y o ∧ Q (.bl (!o.isSome)) H2) : tDNotIn ty td σ H Q := q
theorem g_din (q : ty σ H fun y H1 => td σ H1 fun x H2 => ∃ a o, x = .ref a ∧ DGet H2 a y o ∧ Q (.bl o.isSome) H2) : tDIn ty td σ H Q := q
theorem g_dget (q : td σ H fun x H1 => ty σ H1 fun y H2 => ∃ a v, x = .ref a ∧ DGet H2 a y (some v) ∧ Q v H2) : tDGet td ty σ H Q := q
theorem g_dput (q : tv σ H fun v H1 => td σ H1 fun x H2 => ty σ H2 fun y H3 => ∃ a H4, x = .ref a ∧ DPut H3 a y v H4 ∧ D.nx σ H4) : sDPut td ty tv D σ H := q
theorem g_bm {T : String} {r : V → List V → Hp → VK → Prop} (q : to σ H fun x H1 => tyV K T x H1 ∧ t σ H1 fun xs H2 => r x xs H2 Q) : tBM K T r to t σ H Q := q
theorem g_bm0 {T : String} {r : V → List V → Hp → VK → Prop} (q : to σ H fun x H1 => tyV K T x H1 ∧ r x [] H1 Q) : tBM0 K T r to σ H Q := q
theorem g_gtup {n : Nat} {g : TGs} {a : Addr} {xs : List V} {R : L2.St → Hp → Prop} (h : SqT K H a xs) (e : xs.length = n) (q : g xs σ H R) : gTup K n g (.ref a) σ H R := ⟨a, xs, rfl, h, e, q⟩
theorem g_gcons {g : TG} {u : TGs} {v : V} {r : List V} {R : L2.St → Hp → Prop} (q : g v σ H fun σ' H' => u r σ' H' R) : gCons g u (v :: r) σ H R := ⟨v, r, rfl, q⟩
theorem g_gnil {R : L2.St → Hp → Prop} (q : R σ H) : gNil [] σ H R := ⟨rfl, q⟩
theorem g_par {i j : Nat} {ta : TA} (q : ta σ H fun vs H1 => ∃ v w, vs = [v, w] ∧ D.nx ((σ.set i (some v)).set j (some w)) H1) : tPar i j ta D σ H := q
theorem e_two {v w : V} {R : V → V → Prop} (q : R v w) : ∃ x y, [v, w] = [x, y] ∧ R x y := ⟨v, w, rfl, q⟩
theorem g_disp {trs : List (TE × TE)} (q : ∀ p, H p = none → tPairs trs σ (upd H p (.dK [])) fun ps H2 => H2 p = some (.dK []) ∧ ∃ kvs : List (Key × V), ps = kvs.map (fun kv => (kV kv.1, kv.2)) ∧ kvs.length ≤ 15 ∧ Q (.ref p) (upd H2 p (.dK (mergeK [] kvs)))) : tDisp trs σ H Q := q
theorem g_pcons {tk tv : TE} {r : List (TE × TE)} {R : List (V × V) → Hp → Prop} (q : tk σ H fun x H1 => tv σ H1 fun y H2 => tPairs r σ H2 fun ps H3 => R ((x, y) :: ps) H3) : tPairs ((tk, tv) :: r) σ H R := q
theorem g_pnil {R : List (V × V) → Hp → Prop} (q : R [] H) : tPairs [] σ H R := q
theorem e_non {R : Prop} (q : R) : V.non = V.non ∧ R := ⟨rfl, q⟩
theorem g_ext {l b : Addr} {xs zs : List V} (h : H l = some (.lst xs)) (hb : H b = some (.lst zs)) (hl : xs.length + zs.length ≤ 1000000) (q : Q .non (upd H l (.lst (xs ++ zs)))) : rExtend (.ref l) [.ref b] H Q := ⟨l, b, xs, zs, rfl, rfl, h, hb, Nat.le_trans hl (by decide), q⟩
theorem g_m1 {r : V → List V → Hp → VK → Prop} (q : to σ H fun x H1 => (∃ a, x = .str a) ∧ te σ H1 fun y H2 => r x [y] H2 Q) : tM1 r to te σ H Q := q
theorem e_strE {z : Str} {R : Prop} (q : R) : (∃ a, V.str z = .str a) ∧ R := ⟨⟨z, rfl⟩, q⟩
/-- a comprehension over a tuple -/
theorem lcI_tup {g : TG} {tt : TT} {te : TE} {vs : List Nat} {a : Addr} {xs : List V} (hx : ∀ H', Same H H' → SqT K H' a xs) (hn : xs.length ≤ 1000000) (h : V → Option V)
    (turn : ∀ x H' (A : VK) (B : Hp → Prop), x ∈ xs → Same H H' → (∀ y H4, h x = some y → Same H' H4 → A y H4) → (h x = none → ∀ H3, Same H' H3 → B H3) →
      g x (wipe σ vs) H' fun σ2 H2 => wipe σ2 vs = wipe σ vs ∧ tt σ2 H2 fun b H3 => if b = true then te σ2 H3 A else B H3)
    (k : ∀ E H', H E = none → Same H H' → H' E = some (.lst (xs.filterMap h)) → Q (.ref E) H') : lcI σ vs g tt te Q (Itt K a) H := by
  refine lcI_same walk_tup hn (fun i => (xs[i]?).bind h) (fun H' s => hx H' s) (fun i H' x H'' y => by rw [y.1]; exact Same.refl _) (fun i x H' H'' A B hi s y kA kB => ?_) fun E H' e s q => k E H' e s (by rw [q, range_fm])
  obtain ⟨rfl, ex⟩ := y
  exact turn x H'' A B (List.mem_of_getElem? ex) s (fun v H4 ev s4 => kA v H4 (by rw [ex]; exact ev) s4) fun en H3 s3 => kB (by rw [ex]; exact en) H3 s3
theorem g_chain {r r' : R2} {ta tb tc : TE} (q : ta σ H fun x H1 => tb σ H1 fun y H2 => r x y H2 fun z H3 => ∃ k, z = .bl k ∧ (if k = true then tc σ H3 fun w' H4 => r' y w' H4 Q else Q (.bl false) H3)) : tChain r r' ta tb tc σ H Q := q
theorem e_isi {x : V} {t n : String} {b : Bool} (h : TyX K H x (.type t)) (k : kitB t n = some b) (q : Q (.bl b) H) : rIsi K [x, .ty n] H Q := ⟨x, _, _, _, b, rfl, ClsV.ty n, h, kit_ty k, q⟩
theorem ty_int {i : Int} : TyX K H (.int i) (.type "int") := .base (.int i)
theorem ty_str {s : Str} : TyX K H (.str s) (.type "str") := .base (.str s)
theorem ty_bl {b : Bool} : TyX K H (.bl b) (.type "bool") := .base (.bl b)
theorem ty_non : TyX K H .non (.type "NoneType") := .base .non
theorem ty_tup {a : Addr} {xs : List V} (h : H a = some (.tup xs)) : TyX K H (.ref a) (.type "tuple") := .base (.tup h)
theorem g_dnewK (q : ∀ d, H d = none → Q (.ref d) (upd H d (.dK []))) : tDNewK σ H Q := q
theorem g_appL {l : Addr} {xs : List V} {y : V} (h : H l = some (.lst xs)) (hl : xs.length ≤ 1000000) (q : Q .non (upd H l (.lst (xs ++ [y])))) : rAppend (.ref l) [y] H Q := ⟨l, xs, y, rfl, rfl, h, Nat.lt_of_le_of_lt hl (by decide), q⟩
theorem ty_lst {l : Addr} {xs : List V} {R : Prop} (h : H l = some (.lst xs)) (q : R) : tyV K "list" (.ref l) H ∧ R := ⟨Or.inl ⟨rfl, _, SqL.of h⟩, q⟩
end
end
end U
namespace M
open PySem L2
/-! ### names -/
def sign (c : Nat) : Bool := (decide (48 ≤ c) && decide (c ≤ 57)) || (decide (97 ≤ c) && decide (c ≤ 122))
def isName (s : Str) : Bool := decide (1 ≤ s.length) && decide (s.length ≤ 12) && s.cps.toList.all sign
def isNameV (v : V) : Bool := match v with
  | .str s => isName s
  | _ => false
def intIn (a b : Int) (v : V) : Bool := match v with
  | .int i => decide (a ≤ i) && decide (i ≤ b)
  | _ => false
theorem intIn_out {a b : Int} {v : V} (h : intIn a b v = true) : ∃ i, v = .int i ∧ a ≤ i ∧ i ≤ b := by
  cases v <;> first | (rename_i i; have h : (decide (a ≤ i) && decide (i ≤ b)) = true := h; rw [Bool.and_eq_true] at h; exact ⟨i, rfl, of_decide_eq_true h.1, of_decide_eq_true h.2⟩) | cases h
theorem all_at {α : Type} {xs : List α} {f : α → Bool} (h : xs.all f = true) {j : Nat} {y : α} (e : xs[j]? = some y) : f y = true := List.all_eq_true.mp h y (List.mem_of_getElem? e)
/-- a dict of True by names -/
def known (ns : List Str) : List (Key × V) := ns.map fun s => (Sum.inr s, V.bl true)
/-- 'q' + str(i) -/
def qn (i : Nat) : Str := ("q" : Str) ++ (toString (i : Int) : Str)
def notIn (ns : List Str) (v : V) : Option V := match v with
  | .str x => if x ∈ ns then none else some (.str x)
  | _ => none
abbrev words : List V := [V.str "row", V.str "none", V.str "line", V.str "kinds", V.str "person", V.str "column", V.str "kind", V.str "0", V.str "abcdefghijkl"]
/-! ### registers as data -/
structure Knd where
  col : Str
  name : Str
  up : Option Str
  loss : Int
def upV : Option Str → V
  | none => .non
  | some s => .str s
def kindV (k : Knd) : List V := [.str k.col, .str k.name, upV k.up, .int k.loss]
/-- the kinds of one column, as they are drawn -/
inductive KOk (c : Str) : List Knd → Prop
  | nil : KOk c []
  | top {n : Str} {l : Int} (h : isName n = true) (hn : n ≠ "none") (h0 : 0 ≤ l) (h1 : l ≤ 1000000) : KOk c [⟨c, n, none, l⟩]
  | more {ks : List Knd} {o : Knd} {n : Str} {l : Int} (k : KOk c ks) (ho : o ∈ ks) (h : isName n = true) (hn : n ≠ "none") (nd : n ∉ ks.map (·.name)) (h0 : 0 ≤ l) (h1 : l ≤ o.loss) : KOk c (ks ++ [⟨c, n, some o.name, l⟩])
theorem KOk.loss {c : Str} {ks : List Knd} (k : KOk c ks) : ∀ o ∈ ks, 0 ≤ o.loss ∧ o.loss ≤ 1000000 := by
  induction k with
  | nil => intro o h; cases h
  | top h hn h0 h1 => intro o h; rw [List.mem_singleton] at h; subst h; exact ⟨h0, h1⟩
  | more k ho h hn nd h0 h1 ih =>
    intro o' h'
    rcases List.mem_append.mp h' with h' | h'
    · exact ih o' h'
    · rw [List.mem_singleton] at h'; subst h'
      have := ih _ ho
      exact ⟨h0, by show _ ≤ _; simp only; omega⟩
/-- tuples at their addresses -/
def TupAt (H : Hp) (v : V) (xs : List V) : Prop := ∃ a, v = .ref a ∧ H a = some (.tup xs)
abbrev TupL (H : Hp) : List V → List (List V) → Prop := Paired (TupAt H)
/-- all tuples stay -/
def TS (H H' : Hp) : Prop := ∀ a xs, H a = some (.tup xs) → H' a = some (.tup xs)
theorem TS.refl (H : Hp) : TS H H := fun _ _ h => h
theorem TS.trans {H H1 H2 : Hp} (a : TS H H1) (b : TS H1 H2) : TS H H2 := fun c o h => b c o (a c o h)
theorem TS.of {H H' : Hp} (s : Same H H') : TS H H' := fun a xs h => s a _ h
theorem TS.new {H : Hp} {p : Addr} {o : HO} (h : H p = none) : TS H (upd H p o) := TS.of (U.same_new h)
theorem TS.lst {H : Hp} {p : Addr} {o : HO} {xs : List V} (h : H p = some (.lst xs)) : TS H (upd H p o) := fun a ys e => by
  rw [upd_ne (ne_of e h (by intro z; cases z))]
  exact e
theorem TS.dK {H : Hp} {p : Addr} {o : HO} {xs : List (Key × V)} (h : H p = some (.dK xs)) : TS H (upd H p o) := fun a ys e => by
  rw [upd_ne (ne_of e h (by intro z; cases z))]
  exact e
theorem TS.ins {H : Hp} {p C dx : Addr} {o : HO} {fs : List (Str × V)} (h : H p = some (.ins C dx fs)) : TS H (upd H p o) := fun a ys e => by
  rw [upd_ne (ne_of e h (by intro z; cases z))]
  exact e
theorem TupAt.mono {H H' : Hp} {v : V} {xs : List V} (t : TS H H') (h : TupAt H v xs) : TupAt H' v xs := let ⟨a, e, h⟩ := h; ⟨a, e, t a xs h⟩
theorem TupL.mono {H H' : Hp} (t : TS H H') : ∀ {vs : List V} {xs : List (List V)}, TupL H vs xs → TupL H' vs xs
  | _, _, .nil => .nil
  | _, _, .cons a r => .cons (a.mono t) (TupL.mono t r)
theorem prd_at {α β : Type} {R : α → β → Prop} : ∀ {xs : List α} {ys : List β} {i : Nat} {x : α}, Paired R xs ys → xs[i]? = some x → ∃ y, ys[i]? = some y ∧ R x y
  | _, _, _, _, .nil, h => by simp at h
  | _, _, 0, _, .cons a _, h => by simp at h; subst h; exact ⟨_, rfl, a⟩
  | _, _, i + 1, x, .cons _ r, h => by
    obtain ⟨y, e, q⟩ := prd_at (i := i) r (by simpa using h)
    exact ⟨y, by simpa using e, q⟩
/-- names but none -/
def notNone (v : V) : Option V := match v with
  | .str x => if x = "none" then none else some (.str x)
  | _ => none
end M
namespace M
open PySem L2
/-! ### a register as data, and as it lies in the heap of a law -/
structure Reg where
  cols : List (Str × Bool)
  kinds : List Knd
  persons : List (Str × List V)
def wordOf (b : Bool) : Str := if b then "kinds" else "line"
def colV (c : Str × Bool) : List V := [.str c.1, .str (wordOf c.2)]
def PerAt (H : Hp) (v : V) (p : Str × List V) : Prop := ∃ a b, v = .ref a ∧ H a = some (.tup [.str p.1, .ref b]) ∧ H b = some (.tup p.2)
abbrev PerL (H : Hp) : List V → List (Str × List V) → Prop := Paired (PerAt H)
theorem PerL.mono {H H' : Hp} (t : TS H H') : ∀ {vs : List V} {xs : List (Str × List V)}, PerL H vs xs → PerL H' vs xs
  | _, _, .nil => .nil
  | _, _, .cons ⟨a, b, e, h1, h2⟩ r => .cons ⟨a, b, e, t a _ h1, t b _ h2⟩ (PerL.mono t r)
def valOk (R : Reg) (c : Str × Bool) (v : V) : Prop := if c.2 = true then ∃ k ∈ R.kinds, k.col = c.1 ∧ v = .str k.name else ∃ z : Int, v = .int z ∧ -1000000 ≤ z ∧ z ≤ 1000000
/-- the names of a column's kinds -/
def kindNames (R : Reg) (c : Str) : List Str := (R.kinds.filter fun k => decide (k.col = c)).map (·.name)
structure ColsOk (cs : List (Str × Bool)) : Prop where
  pos : 1 ≤ cs.length
  four : cs.length ≤ 4
  nd : (cs.map (·.1)).Nodup
  nm : ∀ c ∈ cs, isName c.1 = true
structure KindsOk (cs : List (Str × Bool)) (ks : List Knd) : Prop where
  each : ∀ c ∈ cs, c.2 = true → KOk c.1 (ks.filter fun k => decide (k.col = c.1)) ∧ 1 ≤ (ks.filter fun k => decide (k.col = c.1)).length ∧ (ks.filter fun k => decide (k.col = c.1)).length ≤ 60
  of : ∀ k ∈ ks, (k.col, true) ∈ cs
structure RegOk (R : Reg) : Prop where
  cols : ColsOk R.cols
  kinds : KindsOk R.cols R.kinds
  pl : R.persons.length ≤ 60
  pn : (R.persons.map (·.1)).Nodup
  pk : ∀ p ∈ R.persons, isName p.1 = true ∧ Paired (valOk R) R.cols p.2
def ownD (lc lk lp : Addr) : List (Key × V) := [(Sum.inr "columns", .ref lc), (Sum.inr "kinds", .ref lk), (Sum.inr "persons", .ref lp)]
/-- the law's own register: a dict of three lists -/
structure OwnX (H : Hp) (o lc lk lp : Addr) (R : Reg) : Prop where
  d : H o = some (.dK (ownD lc lk lp))
  c : ∃ cv, H lc = some (.lst cv) ∧ TupL H cv (R.cols.map colV)
  k : ∃ kv, H lk = some (.lst kv) ∧ TupL H kv (R.kinds.map kindV)
  p : ∃ pv, H lp = some (.lst pv) ∧ PerL H pv R.persons
def OwnAt (H : Hp) (o : Addr) (R : Reg) : Prop := ∃ lc lk lp, OwnX H o lc lk lp R
theorem TupL.refs {H : Hp} {vs : List V} {xs : List (List V)} (h : TupL H vs xs) : ∀ v ∈ vs, ∃ a, v = .ref a := by
  intro v hv
  obtain ⟨i, hi⟩ := List.getElem?_of_mem hv
  obtain ⟨y, _, a, e, _⟩ := prd_at h hi
  exact ⟨a, e⟩
theorem PerL.refs {H : Hp} {vs : List V} {xs : List (Str × List V)} (h : PerL H vs xs) : ∀ v ∈ vs, ∃ a, v = .ref a := by
  intro v hv
  obtain ⟨i, hi⟩ := List.getElem?_of_mem hv
  obtain ⟨y, _, a, b, e, _⟩ := prd_at h hi
  exact ⟨a, e⟩
theorem KOk_col {c : Str} {ks : List Knd} (k : KOk c ks) : ∀ o ∈ ks, o.col = c := by
  induction k with
  | nil => intro o h; cases h
  | top => intro o h; rw [List.mem_singleton] at h; subst h; rfl
  | more k ho h hn nd h0 h1 ih =>
    intro o' h'
    rcases List.mem_append.mp h' with h' | h'
    · exact ih o' h'
    · rw [List.mem_singleton] at h'; subst h'; rfl
/-- one column's kinds more -/
theorem KindsOk.more {cs : List (Str × Bool)} {ks ks' : List Knd} {c : Str × Bool} (K : KindsOk cs ks) (nd : ((cs ++ [c]).map (·.1)).Nodup) (hc : c.2 = true) (ok : KOk c.1 ks') (h1 : 1 ≤ ks'.length) (h2 : ks'.length ≤ 60) : KindsOk (cs ++ [c]) (ks ++ ks') := by
  have hne : ∀ d ∈ cs, d.1 ≠ c.1 := fun d hd e => by
    rw [List.map_append, List.nodup_append] at nd
    exact nd.2.2 d.1 (List.mem_map_of_mem hd) c.1 (by simp) e
  have col := KOk_col ok
  refine ⟨fun d hd h => ?_, fun k hk => ?_⟩
  · rcases List.mem_append.mp hd with hd | hd
    · have : (ks'.filter fun k => decide (k.col = d.1)) = [] := List.filter_eq_nil_iff.mpr fun k hk => by
        rw [col k hk]
        intro z
        exact hne d hd (of_decide_eq_true z).symm
      rw [List.filter_append, this, List.append_nil]
      exact K.each d hd h
    · rw [List.mem_singleton] at hd
      subst hd
      have e1 : (ks.filter fun k => decide (k.col = d.1)) = [] := List.filter_eq_nil_iff.mpr fun k hk => by
        intro z
        exact hne _ (K.of k hk) (of_decide_eq_true z)
      have e2 : (ks'.filter fun k => decide (k.col = d.1)) = ks' := List.filter_eq_self.mpr fun k hk => decide_eq_true (col k hk)
      rw [List.filter_append, e1, e2, List.nil_append]
      exact ⟨ok, h1, h2⟩
  · rcases List.mem_append.mp hk with hk | hk
    · exact List.mem_append_left _ (K.of k hk)
    · refine List.mem_append_right _ ?_
      rw [List.mem_singleton, col k hk, ← hc]
/-- a column without kinds more -/
theorem KindsOk.line {cs : List (Str × Bool)} {ks : List Knd} {c : Str × Bool} (K : KindsOk cs ks) (hc : c.2 = false) : KindsOk (cs ++ [c]) ks := by
  refine ⟨fun d hd h => ?_, fun k hk => List.mem_append_left _ (K.of k hk)⟩
  rcases List.mem_append.mp hd with hd | hd
  · exact K.each d hd h
  · rw [List.mem_singleton] at hd; subst hd; rw [hc] at h; cases h
/-! ### data at any depth -/
def vD : V → PyData
  | .int i => .int i
  | .str s => .str s
  | .bl b => .bool b
  | _ => .none
def flat2 : V → Bool
  | .int _ => true
  | .str s => PyData.canLay0 (.str s)
  | .non => true
  | .bl _ => true
  | _ => false
theorem lay_all : ∀ {ds : List PyData}, (∀ d ∈ ds, d.canLay0 = true) → PyData.canLayAll0 ds = true
  | [], _ => rfl
  | d :: r, h => by
    show (d.canLay0 && PyData.canLayAll0 r) = true
    rw [h d List.mem_cons_self, lay_all fun x hx => h x (List.mem_cons_of_mem _ hx)] <;> rfl
theorem depth_all {m : Nat} : ∀ {ds : List PyData}, (∀ d ∈ ds, d.depth ≤ m) → PyData.depthAll ds ≤ m
  | [], _ => Nat.zero_le _
  | d :: r, h => by
    show max d.depth (PyData.depthAll r) ≤ m
    exact Nat.max_le.mpr ⟨h d List.mem_cons_self, depth_all fun x hx => h x (List.mem_cons_of_mem _ hx)⟩
def perD (p : Str × List V) : PyData := .tuple [.str p.1, .tuple (p.2.map vD)]
def perFlat (p : Str × List V) : Prop := PyData.canLay0 (.str p.1) = true ∧ p.2.all flat2 = true
theorem KOk_name {c : Str} {ks : List Knd} (k : KOk c ks) : ∀ o ∈ ks, isName o.name = true ∧ o.name ≠ "none" := by
  induction k with
  | nil => intro o h; cases h
  | top h hn => intro o h'; rw [List.mem_singleton] at h'; subst h'; exact ⟨h, hn⟩
  | more k ho h hn nd h0 h1 ih =>
    intro o' h'
    rcases List.mem_append.mp h' with h' | h'
    · exact ih o' h'
    · rw [List.mem_singleton] at h'; subst h'; exact ⟨h, hn⟩
theorem KindsOk.name {cs : List (Str × Bool)} {ks : List Knd} (K : KindsOk cs ks) : ∀ k ∈ ks, isName k.name = true ∧ k.name ≠ "none" := fun k hk => by
  have hc := K.of k hk
  have ok := (K.each _ hc rfl).1
  exact KOk_name ok k (List.mem_filter.mpr ⟨hk, decide_eq_true rfl⟩)
/-! ### the text of a register -/
def upS (o : Option Str) : Str := o.getD "none"
def vS : V → Str
  | .int z => (toString z : Str)
  | .str s => s
  | _ => ""
def colLine (c : Str × Bool) : Str := ((("column " : Str) ++ c.1) ++ (" " : Str)) ++ wordOf c.2
def kindWords (k : Knd) : List Str := ["kind", k.col, k.name, upS k.up, (toString k.loss : Str)]
def perWords (p : Str × List V) : List Str := ("person" : Str) :: p.1 :: p.2.map vS
def regLines (R : Reg) : List Str := R.cols.map colLine ++ (R.kinds.map fun k => Txt.join " " (kindWords k)) ++ R.persons.map fun p => Txt.join " " (perWords p)
def regText (R : Reg) : Str := Txt.join "\n" (regLines R)
end M
namespace M
open PySem L2
/-! ### the scales of the program -/
def wayOf (ps : List (Str × List Str)) (n : Str) : List Str := (ps.lookup n).getD []
def wayStep (ps : List (Str × List Str)) (k : Knd) : List Str := k.name :: match k.up with
  | none => []
  | some u => wayOf ps u
/-- each kind with the way up from it, in their order -/
def ways (ks : List Knd) : List (Str × List Str) := ks.foldl (fun ps k => ps ++ [(k.name, wayStep ps k)]) []
def WayAt (H : Hp) (kv : Key × V) (p : Str × List Str) : Prop := kv.1 = Sum.inr p.1 ∧ TupAt H kv.2 (p.2.map V.str)
theorem g_sfld {K : PySem.W.Frag} {σ : L2.St} {H : Hp} {D : Ends} {ta tv : TE} {f : Str} (q : tv σ H fun y H1 => ta σ H1 fun x H2 => ∃ a C dx fs, x = .ref a ∧ H2 a = some (.ins C dx fs) ∧ Cls K C ∧ NoAttr K C f ∧ fs.length < 1000 ∧ D.nx σ (upd H2 a (.ins C dx (putF f y fs)))) : sFld K ta tv f D σ H := q
theorem g_fld {K : PySem.W.Frag} {σ : L2.St} {H : Hp} {Q : VK} {ta : TE} {f : Str} (q : ta σ H fun x H1 => ∃ a C dx fs v, x = .ref a ∧ H1 a = some (.ins C dx fs) ∧ Cls K C ∧ NoAttr K C f ∧ fs.lookup f = some v ∧ Q v H1) : tFld K ta f σ H Q := q
def lossD (ks : List Knd) : List (Key × V) := ks.map fun k => (Sum.inr k.name, V.int k.loss)
theorem lk_fst {k : Str} {v : V} {r : List (Str × V)} : ((k, v) :: r).lookup k = some v := by rw [List.lookup_cons_self]
theorem lk_nxt {k j : Str} {v : V} {r : List (Str × V)} (h : (k == j) = false) : ((j, v) :: r).lookup k = r.lookup k := by rw [List.lookup_cons, h]
/-- a tree of kinds at a: its dict at dx, its ways up at u, its losses at l -/
structure TreeX (CT : Addr) (H : Hp) (a dx u l : Addr) (ks : List Knd) : Prop where
  hi : H a = some (.ins CT dx [("ups", .ref u), ("losses", .ref l)])
  hu : ∃ kvs, H u = some (.dK kvs) ∧ Paired (WayAt H) kvs (ways ks)
  hl : H l = some (.dK (lossD ks))
  hn : l ≠ u
theorem TreeX.ups {K : PySem.W.Frag} {CT : Addr} {H : Hp} {a dx u l : Addr} {ks : List Knd} (tr : TreeX CT H a dx u l ks) (c : Cls K CT) (n : NoAttr K CT "ups") {R : V → Prop} (q : R (.ref u)) :
    ∃ a' C dx fs v, V.ref a = .ref a' ∧ H a' = some (.ins C dx fs) ∧ Cls K C ∧ NoAttr K C "ups" ∧ fs.lookup ("ups" : Str) = some v ∧ R v := ⟨a, CT, dx, _, _, rfl, tr.hi, c, n, lk_fst, q⟩
theorem TreeX.losses {K : PySem.W.Frag} {CT : Addr} {H : Hp} {a dx u l : Addr} {ks : List Knd} (tr : TreeX CT H a dx u l ks) (c : Cls K CT) (n : NoAttr K CT "losses") {R : V → Prop} (q : R (.ref l)) :
    ∃ a' C dx fs v, V.ref a = .ref a' ∧ H a' = some (.ins C dx fs) ∧ Cls K C ∧ NoAttr K C "losses" ∧ fs.lookup ("losses" : Str) = some v ∧ R v := ⟨a, CT, dx, _, _, rfl, tr.hi, c, n, (lk_nxt (by decide +kernel)).trans lk_fst, q⟩
theorem WayAt.mono {H H' : Hp} (t : TS H H') {kv : Key × V} {p : Str × List Str} (h : WayAt H kv p) : WayAt H' kv p := ⟨h.1, h.2.mono t⟩
theorem prd_snoc {α β : Type} {R : α → β → Prop} {a : α} {b : β} : ∀ {xs : List α} {ys : List β}, Paired R xs ys → R a b → Paired R (xs ++ [a]) (ys ++ [b])
  | _, _, .nil, h => .cons h .nil
  | _, _, .cons p r, h => .cons p (prd_snoc r h)
theorem prd_mono {α β : Type} {R S : α → β → Prop} (h : ∀ a b, R a b → S a b) : ∀ {xs : List α} {ys : List β}, Paired R xs ys → Paired S xs ys
  | _, _, .nil => .nil
  | _, _, .cons p r => .cons (h _ _ p) (prd_mono h r)
theorem TreeX.mono {CT a dx u l : Addr} {ks : List Knd} {H H' : Hp} (s : Same H H') (h : TreeX CT H a dx u l ks) : TreeX CT H' a dx u l ks :=
  ⟨s _ _ h.hi, let ⟨kvs, e, p⟩ := h.hu; ⟨kvs, s _ _ e, prd_mono (fun _ _ => WayAt.mono (TS.of s)) p⟩, s _ _ h.hl, h.hn⟩
/-- a scale: of a line, of a column of kinds -/
def ScaleAt (CL CT : Addr) (H : Hp) (v : V) (c : Str × Bool) (ks : List Knd) : Prop :=
  if c.2 = true then ∃ a dx u l, v = .ref a ∧ TreeX CT H a dx u l ks else ∃ a dx, v = .ref a ∧ H a = some (.ins CL dx [])
theorem ScaleAt.mono {CL CT : Addr} {H H' : Hp} {v : V} {c : Str × Bool} {ks : List Knd} (s : Same H H') (h : ScaleAt CL CT H v c ks) : ScaleAt CL CT H' v c ks := by
  unfold ScaleAt at h ⊢
  split at h
  · rename_i e
    rw [if_pos e]
    obtain ⟨a, dx, u, l, rfl, t⟩ := h
    exact ⟨a, dx, u, l, rfl, t.mono s⟩
  · rename_i e
    rw [if_neg e]
    obtain ⟨a, dx, rfl, t⟩ := h
    exact ⟨a, dx, rfl, s _ _ t⟩
/-- the kinds of a column -/
abbrev ksOf (ks : List Knd) (c : Str) : List Knd := ks.filter fun k => decide (k.col = c)
/-- the dict of the scales of the columns -/
def ScalesAt (CL CT : Addr) (H : Hp) (kvs : List (Key × V)) (cs : List (Str × Bool)) (ks : List Knd) : Prop :=
  Paired (fun kv c => kv.1 = Sum.inr c.1 ∧ ScaleAt CL CT H kv.2 c (ksOf ks c.1)) kvs cs
theorem ScalesAt.mono {CL CT : Addr} {H H' : Hp} {kvs : List (Key × V)} {cs : List (Str × Bool)} {ks : List Knd} (s : Same H H') (h : ScalesAt CL CT H kvs cs ks) : ScalesAt CL CT H' kvs cs ks :=
  prd_mono (fun _ _ q => ⟨q.1, q.2.mono s⟩) h
def isKind (ks : List Knd) (v : V) : Bool := match v with
  | .str n => decide (n ∈ ks.map (·.name))
  | _ => false
theorem TreeX.lock {CT : Addr} {H H' : Hp} {a dx u l d : Addr} {ks : List Knd} {kvs : List (Key × V)} {k : Key} {od : Obj} (hd : H d = some (.dK kvs)) (hx : (k, V.ref a) ∈ kvs) (h : TreeX CT H a dx u l ks) (s : Same (upd H d (.frz od (.dK kvs))) H') : TreeX CT H' a dx u l ks := by
  have ts : TS H H' := fun c xs e => s _ _ ((upd_ne (fun z => by rw [z, hd] at e; cases e)).trans e)
  refine ⟨s _ _ ((upd_ne (fun z => by rw [← z, h.hi] at hd; cases hd)).trans h.hi), ?_, ?_, h.hn⟩
  · obtain ⟨kvs', e, p⟩ := h.hu
    refine ⟨kvs', s _ _ ((upd_ne fun z => ?_).trans e), prd_mono (fun _ _ => WayAt.mono ts) p⟩
    rw [z, hd] at e
    cases e
    obtain ⟨i, hi⟩ := List.getElem?_of_mem hx
    obtain ⟨y, _, _, a', e', t⟩ := prd_at p hi
    cases e'
    rw [h.hi] at t
    cases t
  · refine s _ _ ((upd_ne fun z => ?_).trans h.hl)
    have e := h.hl
    rw [z, hd] at e
    cases e
    obtain ⟨k', _, e'⟩ := List.mem_map.mp hx
    cases e'
theorem ScaleAt.lock {CL CT : Addr} {H H' : Hp} {d : Addr} {c : Str × Bool} {ks : List Knd} {kvs : List (Key × V)} {k : Key} {x : V} {od : Obj} (hd : H d = some (.dK kvs)) (hx : (k, x) ∈ kvs) (h : ScaleAt CL CT H x c ks) (s : Same (upd H d (.frz od (.dK kvs))) H') : ScaleAt CL CT H' x c ks := by
  unfold ScaleAt at h ⊢
  split at h
  · rename_i e
    rw [if_pos e]
    obtain ⟨a, dx, u, l, rfl, t⟩ := h
    exact ⟨a, dx, u, l, rfl, t.lock hd hx s⟩
  · rename_i e
    rw [if_neg e]
    obtain ⟨a, dx, rfl, t⟩ := h
    exact ⟨a, dx, rfl, s _ _ ((upd_ne (fun z => by rw [← z, t] at hd; cases hd)).trans t)⟩
/-- what is a value of a column -/
def isVal (c : Str × Bool) (ks : List Knd) (v : V) : Bool := if c.2 = true then isKind ks v else intIn (-1000000) 1000000 v
/-- None, a truth value, an int, a text -/
def plainV : V → Bool
  | .non => true
  | .bl _ => true
  | .int _ => true
  | .str s => decide (s.length ≤ 1000000)
  | _ => false
def valsStand (cs : List (Str × Bool)) (ks : List Knd) (vals : List V) : Bool := decide (vals.length = cs.length) && (cs.zip vals).all fun p => isVal p.1 (ksOf ks p.1.1) p.2
theorem plain_int {K : PySem.W.Frag} {H : Hp} {v : V} (h : plainV v = true) (h2 : ∀ z, v ≠ .int z) : ∃ (t : String) (b1 b2 : Bool), TyX K H v (.type t) ∧ kitB t "int" = some b1 ∧ kitB t "bool" = some b2 ∧ (b1 && !b2) = false := by
  cases v with
  | non => exact ⟨"NoneType", false, false, U.ty_non, by decide +kernel, by decide +kernel, rfl⟩
  | bl b => exact ⟨"bool", true, true, U.ty_bl, by decide +kernel, by decide +kernel, rfl⟩
  | int z => exact absurd rfl (h2 z)
  | str s => exact ⟨"str", false, false, U.ty_str, by decide +kernel, by decide +kernel, rfl⟩
  | _ => cases h
theorem none_of {H H' : Hp} {p : Addr} (s : Same H H') (h : H' p = none) : H p = none := by
  cases e : H p with
  | none => rfl
  | some o => have := s _ _ e; rw [h] at this; cases this
def lossOf (ks : List Knd) (n : Str) : Int := ((ks.find? fun k => decide (k.name = n)).map (·.loss)).getD 0
/-- what can stand above the next kind -/
def canUp (ks : List Knd) (up : V) (loss : Int) : Bool := if ks.isEmpty then decide (up = .non) else isKind ks up && (match up with
  | .str u => decide (loss ≤ lossOf ks u)
  | _ => false)
end M
namespace U
open PySem PySem.Spec PyProof.Rows L2
end U
namespace ZV
open PySem PySem.Spec PyProof.Rows L2
/-! C() of a class that has no __init__ of its own -/
structure MkO (K : PySem.W.Frag) (C : Addr) : Prop where
  makes : PySem.W.makesIn K C = true
  init : PySem.W.findIn K (.ref C) "__init__" = some (some (.builtin "object.__init__"))
  kp : PySem.W.keepIn K (.ref C) = true
def tMakeO (C : Addr) : TE := fun _ H Q => ∀ x dx, H x = none → H dx = none → dx ≠ x → Q (.ref x) (upd (upd H dx (.own x)) x (.ins C dx []))
section
variable {X : Cx} {C : Addr} {x : Str} {p pos : Pos}
end
end ZV
namespace ZV
open PySem PySem.Spec PyProof.Rows L2
/-! zip(d.values(), list or tuple), d locked -/
section
variable {prog : Program} {w : World} {K : Type} [DecidableEq K] {knd : KeyKind prog w K} {A : Around} {E : Value → Shared → Prop} {s : Shared}
end
/-- the values of the locked dict d beside the items at b, in new pairs -/
def ItvT (K : PySem.W.Frag) (d : Addr) (o : Obj) (kvs : List (Key × V)) (b : Addr) : It :=
  ⟨fun i H => H d = some (.frz o (.dK kvs)) ∧ i < kvs.length ∧ ∃ (ys : List V), SqT K H b ys ∧ i < ys.length,
    fun i H v H' => ∃ T k x y, v = .ref T ∧ H T = none ∧ H' = upd H T (.tup [x, y]) ∧ kvs[i]? = some (k, x) ∧ ∀ ys, SqT K H b ys → ys[i]? = some y,
    fun i H => H d = some (.frz o (.dK kvs)) ∧ ∃ ys : List V, SqT K H b ys ∧ i ≤ kvs.length ∧ i ≤ ys.length ∧ (i = kvs.length ∨ i = ys.length)⟩
/-- the values of the locked dict d beside the items at b, in new pairs -/
def ItvL (K : PySem.W.Frag) (d : Addr) (o : Obj) (kvs : List (Key × V)) (b : Addr) : It :=
  ⟨fun i H => H d = some (.frz o (.dK kvs)) ∧ i < kvs.length ∧ ∃ (ys : List V), SqL K H b ys ∧ i < ys.length,
    fun i H v H' => ∃ T k x y, v = .ref T ∧ H T = none ∧ H' = upd H T (.tup [x, y]) ∧ kvs[i]? = some (k, x) ∧ ∀ ys, SqL K H b ys → ys[i]? = some y,
    fun i H => H d = some (.frz o (.dK kvs)) ∧ ∃ ys : List V, SqL K H b ys ∧ i ≤ kvs.length ∧ i ≤ ys.length ∧ (i = kvs.length ∨ i = ys.length)⟩
def iZipV (K : PySem.W.Frag) (td : TE) (t2 : TA) : TI := fun σ H R => td σ H fun x H1 => ∃ d o kvs, x = .ref d ∧ H1 d = some (.frz o (.dK kvs)) ∧ t2 σ H1 fun vs H2 => ∃ b, vs = [.ref b] ∧ H2 d = some (.frz o (.dK kvs)) ∧ ((∃ ys, SqT K H2 b ys ∧ R (ItvT K d o kvs b) H2) ∨ ∃ ys, SqL K H2 b ys ∧ R (ItvL K d o kvs b) H2)
section
variable {σ : L2.St} {H : Hp} {Q : VK} {K : PySem.W.Frag}
theorem g_or {te tf : TE} (q : te σ H Q ∨ tf σ H Q) : (fun σ H Q => te σ H Q ∨ tf σ H Q : TE) σ H Q := q
theorem g_meth {C : Addr} {m : Str} {sp : Sp} {dvs : List V} {E : XK} {ta : TE} {t : TA} (q : ta σ H fun x H1 => ∃ a dx fs, x = .ref a ∧ H1 a = some (.ins C dx fs) ∧ fs.lookup m = none ∧ t σ H1 fun vs H2 => sp (x :: (vs ++ dvs)) H2 Q E) : tMeth C m sp dvs E ta t σ H Q := q
end
end ZV
namespace M
open PySem L2
/-- a scale, with the dicts that it owns -/
def ScaleX (CL CT : Addr) (H : Hp) (v : V) (c : Str × Bool) (ks : List Knd) (g : List Addr) : Prop :=
  if c.2 = true then ∃ a dx u l, v = .ref a ∧ TreeX CT H a dx u l ks ∧ g = [u, l] else ∃ a dx, v = .ref a ∧ H a = some (.ins CL dx []) ∧ g = []
theorem ScaleX.at {CL CT : Addr} {H : Hp} {v : V} {c : Str × Bool} {ks : List Knd} {g : List Addr} (h : ScaleX CL CT H v c ks g) : ScaleAt CL CT H v c ks := by
  unfold ScaleX at h
  unfold ScaleAt
  split at h
  · rename_i e
    rw [if_pos e]
    obtain ⟨a, dx, u, l, rfl, t, _⟩ := h
    exact ⟨a, dx, u, l, rfl, t⟩
  · rename_i e
    rw [if_neg e]
    obtain ⟨a, dx, rfl, t, _⟩ := h
    exact ⟨a, dx, rfl, t⟩
abbrev Col := (Str × Bool) × List Addr
abbrev flatG (gs : List Col) : List Addr := gs.flatMap (·.2)
def SclX (CL CT : Addr) (H : Hp) (kvs : List (Key × V)) (gs : List Col) (ks : List Knd) : Prop :=
  Paired (fun kv (g : Col) => kv.1 = Sum.inr g.1.1 ∧ ScaleX CL CT H kv.2 g.1 (ksOf ks g.1.1) g.2) kvs gs
theorem SclX.at {CL CT : Addr} {H : Hp} {ks : List Knd} : ∀ {kvs : List (Key × V)} {gs : List Col}, SclX CL CT H kvs gs ks → ScalesAt CL CT H kvs (gs.map (·.1)) ks
  | _, _, .nil => .nil
  | _, _, .cons h r => .cons ⟨h.1, h.2.at⟩ (SclX.at r)
def numD : Nat → List (Str × List V) → List (Key × V)
  | _, [] => []
  | i, p :: r => (Sum.inr p.1, V.int i) :: numD (i + 1) r
def draftF (lc lk lp ds dn : Addr) : List (Str × V) := [("columns", .ref lc), ("kinds", .ref lk), ("persons", .ref lp), ("scales", .ref ds), ("numbers", .ref dn)]
structure DraftX (CL CT CD : Addr) (H : Hp) (a dx lc lk lp ds dn : Addr) (gs : List Col) (ks : List Knd) (ps : List (Str × List V)) : Prop where
  hi : H a = some (.ins CD dx (draftF lc lk lp ds dn))
  hc : ∃ cv, H lc = some (.lst cv) ∧ TupL H cv (gs.map fun g => colV g.1)
  hk : ∃ kv, H lk = some (.lst kv) ∧ TupL H kv (ks.map kindV)
  hp : ∃ pv, H lp = some (.lst pv) ∧ PerL H pv ps
  hs : ∃ kvs, H ds = some (.dK kvs) ∧ SclX CL CT H kvs gs ks
  hn : H dn = some (.dK (numD 0 ps))
  ne1 : lc ≠ lk
  ne2 : lc ≠ lp
  ne3 : lk ≠ lp
  nd : (ds :: dn :: flatG gs).Nodup
/-- no column of kinds lacks kinds -/
def bareOf (gs : List Col) (ks : List Knd) : List Col := gs.filter fun g => g.1.2 && (ksOf ks g.1.1).isEmpty
end M
namespace M
open PySem L2
section
variable {K : PySem.W.Frag} {σ : L2.St} {H : Hp} {D : Ends} {a C dx : Addr} {fs : List (Str × V)} {f : Str}
end
theorem putF_skip {f g : Str} {v x : V} {r : List (Str × V)} (h : ¬ g = f) : putF f v ((g, x) :: r) = (g, x) :: putF f v r := by
  show (if g = f then _ else _) = _
  rw [if_neg h]
end M
namespace M
open PySem L2
end M
namespace M
open PySem L2
/-! ### what stays when lists and dicts in S change -/
structure Keep (S : List Addr) (H H' : Hp) : Prop where
  k : ∀ c o, c ∉ S → H c = some o → H' c = some o
  s : ∀ c ∈ S, (∃ xs, H c = some (.lst xs)) ∨ ∃ kvs, H c = some (.dK kvs)
theorem Keep.tup {S : List Addr} {H H' : Hp} (q : Keep S H H') : TS H H' := fun a xs e => q.k a _ (fun z => by
  rcases q.s a z with ⟨ys, h⟩ | ⟨kvs, h⟩ <;> rw [e] at h <;> cases h) e
theorem Keep.ins {S : List Addr} {H H' : Hp} (q : Keep S H H') {a C dx : Addr} {fs : List (Str × V)} (e : H a = some (.ins C dx fs)) : H' a = some (.ins C dx fs) := q.k a _ (fun z => by
  rcases q.s a z with ⟨ys, h⟩ | ⟨kvs, h⟩ <;> rw [e] at h <;> cases h) e
theorem TreeX.keep {CT : Addr} {H H' : Hp} {a dx u l : Addr} {ks : List Knd} {S : List Addr} (q : Keep S H H') (hu : u ∉ S) (hl : l ∉ S) (h : TreeX CT H a dx u l ks) : TreeX CT H' a dx u l ks :=
  ⟨q.ins h.hi, let ⟨kvs, e, p⟩ := h.hu; ⟨kvs, q.k _ _ hu e, prd_mono (fun _ _ => WayAt.mono q.tup) p⟩, q.k _ _ hl h.hl, h.hn⟩
theorem ScaleX.keep {CL CT : Addr} {H H' : Hp} {v : V} {c : Str × Bool} {ks : List Knd} {g : List Addr} {S : List Addr} (q : Keep S H H') (hg : ∀ c ∈ g, c ∉ S) (h : ScaleX CL CT H v c ks g) : ScaleX CL CT H' v c ks g := by
  unfold ScaleX at h ⊢
  split at h
  · rename_i e
    rw [if_pos e]
    obtain ⟨a, dx, u, l, rfl, t, rfl⟩ := h
    exact ⟨a, dx, u, l, rfl, t.keep q (hg u (by simp)) (hg l (by simp)), rfl⟩
  · rename_i e
    rw [if_neg e]
    obtain ⟨a, dx, rfl, t, rfl⟩ := h
    exact ⟨a, dx, rfl, q.ins t, rfl⟩
theorem SclX.keep {CL CT : Addr} {H H' : Hp} {S : List Addr} {ks : List Knd} (q : Keep S H H') : ∀ {kvs : List (Key × V)} {gs : List Col}, (∀ c ∈ flatG gs, c ∉ S) → SclX CL CT H kvs gs ks → SclX CL CT H' kvs gs ks
  | _, _, _, .nil => .nil
  | _, _, hg, .cons h r => .cons ⟨h.1, h.2.keep q fun c hc => hg c (List.mem_append_left _ hc)⟩ (SclX.keep q (fun c hc => hg c (List.mem_append_right _ hc)) r)
/-- the keys of the scales -/
theorem SclX.val {CL CT : Addr} {H : Hp} {ks : List Knd} {n : Str} : ∀ {kvs : List (Key × V)} {gs : List Col}, SclX CL CT H kvs gs ks →
    ((n ∉ gs.map (fun g => g.1.1) ∧ valV kvs (Sum.inr n) = none) ∨ ∃ g ∈ gs, g.1.1 = n ∧ ∃ v, valV kvs (Sum.inr n) = some v ∧ ScaleX CL CT H v g.1 (ksOf ks g.1.1) g.2)
  | _, _, .nil => .inl ⟨by simp, valV_nil⟩
  | (k, v) :: kvs, g :: gs, .cons ⟨e, t⟩ r => by
    have e : k = Sum.inr g.1.1 := e
    subst e
    by_cases c : g.1.1 = n
    · exact .inr ⟨g, List.mem_cons_self, c, v, valV_pos (by show (Sum.inr g.1.1 : Key) = _; rw [c]), t⟩
    · have nk : ¬ ((Sum.inr g.1.1 : Key) = Sum.inr n) := fun z => c (Sum.inr.inj z)
      rw [valV_neg nk]
      rcases SclX.val (n := n) r with ⟨h1, h2⟩ | ⟨g', h1, h2⟩
      · exact .inl ⟨by simp only [List.map_cons, List.mem_cons, not_or]; exact ⟨fun z => c z.symm, h1⟩, h2⟩
      · exact .inr ⟨g', List.mem_cons_of_mem _ h1, h2⟩
end M
namespace M
open PySem L2
theorem SclX.flat {CL CT : Addr} {H : Hp} {ks : List Knd} : ∀ {kvs : List (Key × V)} {gs : List Col}, SclX CL CT H kvs gs ks → ∀ c ∈ flatG gs, ∃ m, H c = some (.dK m)
  | _, _, .nil, c, hc => by cases hc
  | _, _, .cons h r, c, hc => by
    rcases List.mem_append.mp hc with z | z
    · have t := h.2
      unfold ScaleX at t
      split at t
      · obtain ⟨a, dx, u, l, _, tr, e⟩ := t
        dsimp only at z
        rw [e] at z
        simp only [List.mem_cons, List.not_mem_nil, or_false] at z
        rcases z with rfl | rfl
        · obtain ⟨m, e, _⟩ := tr.hu; exact ⟨m, e⟩
        · exact ⟨_, tr.hl⟩
      · obtain ⟨a, dx, _, _, e⟩ := t
        dsimp only at z
        rw [e] at z
        cases z
    · exact SclX.flat r c z
end M
namespace G
open PySem PySem.Spec PyProof.Rows L2
/-! ### defs that are called where nothing is being shown: so repr of things may be reckoned -/
/-- what a def promises, called where no guard stands -/
structure FnG (P : Program) (w : World) (K : PySem.W.Frag) (mg : Str → Option Value) (base : Heap) (k : Nat) (f : Addr) (fd : FuncData) (ps : List Str) (sp : Sp) : Prop where
  plen : ∀ us H Q E, sp us H Q E → us.length = ps.length
  go : ∀ (A : Around) (outer : List Env) (s : Shared) (H : Hp) (args : Args) (us : List Value) (vs : List V) (Q : VK) (E : XK), Room k A → A.guards = some [] → Env0 P w K mg base A outer s H →
    BindsTo s fd args (ps.zip us) → Vals vs us → sp vs H Q E → codeAny (model P w) A (.call (.ref f) args) (CR CX0 outer P w H s Q E) s
theorem gd_deeper {A : Around} (env : Env) (h : A.guards = some []) : (A.deeper env).guards = some [] := by
  first | exact h | (simpa [Around.deeper] using h)
section
variable {X : Cx} {k : Nat} {f : Addr} {fd : FuncData} {ps ks : List Str} {sp : Sp} {dvs : List V} {ds : List Value} {E : XK} {x : Str} {p pos : Pos} {e : Expr} {es : List Expr} {kws : List Keyword} {t tk : TA}
theorem run_g {pins : List (Addr × Obj)} {σ : L2.St} {H : Hp} {s : Shared} {Q : VK} {us : List Value} {vs : List V} (F : FnG X.prog X.w X.K X.mg X.base k f fd ps sp) (hr : Room k X.A) (hgd : X.A.guards = some []) (hb : Binds X.K fd ps ds) (hd : Vals dvs ds)
    (I : Inv X pins σ H s) (r : Vals vs us) (h : sp (vs ++ dvs) H Q E) : wpAny (model X.prog X.w) X.A (call (.ref f) us) (EP X pins σ Q) X.xe s := by
  have both := r.append hd
  have n : (us ++ ds).length = ps.length := both.length ▸ F.plen _ _ _ _ h
  have c := F.go X.A X.stack s H ⟨us, []⟩ (us ++ ds) (vs ++ dvs) Q E hr hgd I.env0 (hb s us I.kIn n) both h
  refine wpAny_call (codeAny_mono c fun res s2 z => ?_)
  match res, z with
  | .ok (.ret _), z => exact I.after z
theorem pe_callG (F : FnG X.prog X.w X.K X.mg X.base k f fd ps sp) (hr : Room k X.A) (hgd : X.A.guards = some []) (hg : Gl X x) (hm : X.mg x = some (.ref f)) (hk : PySem.W.keepIn X.K (.ref f) = true) (hb : Binds X.K fd ps ds) (hd : Vals dvs ds)
    (ha : PA X (e :: es) t) (hdb : (x == ("__debug__" : Str)) = false := by decide) (he : starEach (e :: es) X.env = (false, eval e X.env) :: starEach es X.env := by rfl) (hpl : (backTo pos (starEach es X.env)).any (·.1) = false := by rfl) :
    PE X (.Call (.Name x p) (e :: es) [] pos) (tCall sp dvs E0 t) := ⟨fun pins s σ H Q I h =>
  wpAny_Call_Name_kw (ld_glob I hg hm (PySem.W.callWith_K (h₀ := X.base) I.ok.mod.kin hk (thn (ha.run pos pins s σ H _ I h) fun _ _ ⟨_, _, I1, r, q⟩ => ⟨I1.kIn, run_g F hr hgd hb hd I1 r q⟩) he hpl) hdb)⟩
end
section
variable {P : Program} {w : World} {K : PySem.W.Frag} {mg : Str → Option Value} {base : Heap} {k : Nat} {f : Addr} {fd : FuncData} {N ps : List Str} {sp : Sp}
theorem FnG.of (F : FnOk P w K mg base CX0 k f fd ps sp) : FnG P w K mg base k f fd ps sp := ⟨F.len, fun A outer s H args us vs Q E hr _ => F.run A outer s H args us vs Q E hr⟩
/-- a def by its body -/
theorem okG {x qual : Str} {st : Stmt} (F : Fun K x qual st f fd) (S : FnScope N ps (defScope st)) (plen : ∀ us H Q E, sp us H Q E → us.length = ps.length)
    (body : ∀ (cdv : Value) (A : Around) (outer : List Env) (s : Shared) (H : Hp) (vs : List V) (Q : VK) (E : XK), Room k (A.deeper (envOfC qual (defScope st) s.heap.objs.size f cdv)) →
      (A.deeper (envOfC qual (defScope st) s.heap.objs.size f cdv)).guards = some [] → sp vs H Q E →
      ∃ t, PSs (cxOf CX0 P w K mg base N qual (defScope st) f cdv A outer s H E).nox (defBody st) t ∧ t { nx := fun _ H' => Q .non H', rt := Q } (start N vs) H) : FnG P w K mg base (k + 1) f fd ps sp := by
  obtain ⟨oc, od, kV, doc, pm, an, cdv, ct, osl, rfl, lk, hcd⟩ := F.ex
  constructor
  · exact plen
  intro A outer s H args us vs Q E hr hgd e0 hb r hsp
  have old : K.In s.heap := e0.mod.kin.keeps fun b o z => (e0.bs b o z).1
  have nolim : s.heap.NoLimit := e0.mod.nolimit.keeps fun b o z => (e0.bs b o z).1
  have kinds : ∀ y ∈ ps.zip us, (defScope st).names.lookup y.1 = some .local ∨ ((defScope st).names.lookup y.1 = some .cell ∧ ((cellsFrom (s.heap.objs.size + 1) (defScope st).names []).lookup y.1).isSome = true) := by
    rintro ⟨n, v⟩ hy
    rcases S.par n (List.of_mem_zip hy).1 with q | q
    · exact Or.inl q
    · exact Or.inr ⟨q, PySem.W.cellsFrom_some _ _ _ (Or.inl q)⟩
  obtain ⟨t, ht, hq⟩ := body cdv A outer s H vs Q E (hr.deeper _) (gd_deeper _ hgd) hsp
  refine codeAny_call_function hr.depth (old _ _ lk) rfl S.co S.gen rfl (PySem.W.codeRec_of old hcd) (hb _ _ _ _ (wpAny_newFunctionEnv_cells S.kind kinds fun env he s1 x => ?_))
  cases he
  have I : Inv (cxOf CX0 P w K mg base N qual (defScope st) f cdv A outer s H E) [] (start N vs) H s1 := inv_start S hr.hd e0 (plen _ _ _ _ hsp) r x
  refine ⟨nolim.keeps x.toInCall.keep, codeAny_func (wpAny_mono (ht.nox.run [] s1 (start N vs) H _ I hq) ?_ fun _ _ z => z)⟩
  intro fl s2 z
  cases fl with
  | ret u =>
    obtain ⟨v, _, H2, J, rv, q⟩ := z
    exact ⟨v, H2, J.os, J.bare, J.base, J.hok, rv, q⟩
  | next =>
    obtain ⟨_, H2, J, q⟩ := z
    exact ⟨V.non, H2, J.os, J.bare, J.base, J.hok, rfl, q⟩
  | brk => obtain ⟨_, _, _, q⟩ := z; exact q.elim
  | cont => obtain ⟨_, _, _, q⟩ := z; exact q.elim
end
end G
namespace G
open PySem PySem.Spec PyProof.Rows L2
/-! ### the law's end: the def of the law, called where the top has run -/
theorem guards_caller : callerA.guards = some [] := rfl
section
variable {P : Program} {w : World} {K : PySem.W.Frag} {mg mb : Str → Option Value} {k : Nat} {fa a : Addr} {fd : FuncData} {x : Str} {sp : Sp} {s : Shared} {vs : List Value} {ns : List Int}
/-- what is tracked at the law's call: the script, where it is none of the top's own objects -/
def scrH (K : PySem.W.Frag) (a : Addr) (vs : List Value) (ns : List Int) : Hp := fun b => if b = a ∧ K.lookup a = none then some (.frz { cls := .type "list", data := .seq vs.toArray } (.lst (ns.map V.int))) else none
theorem scr_some {b : Addr} {o : HO} (h : scrH K a vs ns b = some o) : b = a ∧ K.lookup a = none ∧ o = .frz { cls := .type "list", data := .seq vs.toArray } (.lst (ns.map V.int)) := by
  unfold scrH at h
  split at h
  · rename_i c
    exact ⟨c.1, c.2, (Option.some.inj h).symm⟩
  · cases h
theorem scr_none {b : Addr} (h : b ≠ a) : scrH K a vs ns b = none := if_neg fun c => h c.1
theorem scr_K {b : Addr} {o : Obj} (h : K.lookup b = some o) : scrH K a vs ns b = none := if_neg fun c => by
  rw [c.1, c.2] at h
  cases h
end
end G
namespace QD
open PySem PySem.Spec PyProof.Rows L2
/-! ### repr, != and count of data; small dicts among them -/
/-- v is the datum d -/
inductive Dq (K : PySem.W.Frag) (H : Hp) : V → PyData → Prop
  | dp {v : V} {d : PyData} (h : Dp K H v d) : Dq K H v d
  | d0 {a : Addr} (h : H a = some (.dK [])) : Dq K H (.ref a) (.dict [])
  | d1 {a : Addr} {x : Str} {i : Int} (h : H a = some (.dK [(Sum.inr x, .int i)])) : Dq K H (.ref a) (.dict [(.str x, .int i)])
theorem seqT {K : PySem.W.Frag} {H H' : Hp} {a : Addr} {xs : List V} (s : Same H H') (h : SqT K H a xs) : SqT K H' a xs := by
  rcases h with (h | ⟨o, h⟩) | h
  · exact Or.inl (Or.inl (s _ _ h))
  · exact Or.inl (Or.inr ⟨o, s _ _ h⟩)
  · exact Or.inr h
mutual
theorem dp_mono {K : PySem.W.Frag} {H H' : Hp} (s : Same H H') : ∀ (d : PyData) (v : V), Dp K H v d → Dp K H' v d
  | .none, _, h => by cases h; exact .non
  | .bool b, _, h => by cases h; exact .bl b
  | .int i, _, h => by cases h; exact .int i
  | .str x, _, h => by cases h; exact .str x
  | .list ds, _, h => by
    cases h with
    | lst hs ha => exact .lst (s.seq hs) (dpa_mono s ds _ ha)
  | .tuple ds, _, h => by
    cases h with
    | tup hs ha => exact .tup (seqT s hs) (dpa_mono s ds _ ha)
  | .dict _, _, h => by cases h
theorem dpa_mono {K : PySem.W.Frag} {H H' : Hp} (s : Same H H') : ∀ (ds : List PyData) (vs : List V), DpAll K H vs ds → DpAll K H' vs ds
  | [], _, h => by cases h; exact .nil
  | d :: ds, _, h => by
    cases h with
    | cons h1 h2 => exact .cons (dp_mono s d _ h1) (dpa_mono s ds _ h2)
end
theorem Dq.mono {K : PySem.W.Frag} {H H' : Hp} {v : V} {d : PyData} (s : Same H H') (h : Dq K H v d) : Dq K H' v d := by
  cases h with
  | dp h => exact .dp (dp_mono s d v h)
  | d0 h => exact .d0 (s _ _ h)
  | d1 h => exact .d1 (s _ _ h)
mutual
theorem dp_noDict {K : PySem.W.Frag} {H : Hp} : ∀ (d : PyData) (v : V), Dp K H v d → d.hasDict = false
  | .none, _, _ => by simp only [PyData.hasDict]
  | .bool _, _, _ => by simp only [PyData.hasDict]
  | .int _, _, _ => by simp only [PyData.hasDict]
  | .str _, _, _ => by simp only [PyData.hasDict]
  | .list ds, _, h => by
    cases h with
    | lst _ ha => simp only [PyData.hasDict]; exact dpa_noDict ds _ ha
  | .tuple ds, _, h => by
    cases h with
    | tup _ ha => simp only [PyData.hasDict]; exact dpa_noDict ds _ ha
  | .dict _, _, h => by cases h
theorem dpa_noDict {K : PySem.W.Frag} {H : Hp} : ∀ (ds : List PyData) (vs : List V), DpAll K H vs ds → PyData.hasDictAll ds = false
  | [], _, _ => by simp only [PyData.hasDictAll]
  | d :: ds, _, h => by
    cases h with
    | cons h1 h2 => simp only [PyData.hasDictAll, dp_noDict d _ h1, dpa_noDict ds _ h2, Bool.or_false]
end
section
variable {X : Cx} {K : PySem.W.Frag}
theorem Dq.reads {pins : List (Addr × Obj)} {σ : L2.St} {H : Hp} {s : Shared} (I : Inv X pins σ H s) {v : V} {d : PyData} {u : Value} (h : Dq X.K H v d) (r : RelV v u) : ∃ as, Reads s.heap u d as ∧ (d.hasDict = true → sysModules ∉ as) := by
  cases h with
  | dp h =>
    obtain ⟨as, q⟩ := Dp.reads I d v u h r
    refine ⟨as, q, fun hd => ?_⟩
    exact absurd hd (by rw [dp_noDict d v h]; exact Bool.false_ne_true)
  | @d0 a h =>
    cases (show u = Value.ref a from r)
    obtain ⟨_, ns, vs, kv, o, es, ep, e1, ex, e2, ko, pr, nd⟩ := (show ObjOk X.prog X.w H s.heap a (.dK []) from I.hok a _ h)
    cases kv
    generalize hl : es.toList = l at pr
    cases pr
    refine ⟨_, .dict e1 ex.1 e2 (as := []) (bs := []) (by rw [hl]; exact .nil) (by rw [hl]; exact .nil), fun _ hm => ?_⟩
    have hm : sysModules ∈ [a] := by simpa using hm
    rw [List.mem_singleton] at hm
    rw [← hm] at ns
    cases ns
  | @d1 a x i h =>
    cases (show u = Value.ref a from r)
    obtain ⟨_, ns, vs, kv, o, es, ep, e1, ex, e2, ko, pr, nd⟩ := (show ObjOk X.prog X.w H s.heap a (.dK [(Sum.inr x, .int i)]) from I.hok a _ h)
    cases kv with
    | @cons _ p _ ps h1 h2 =>
      cases h2
      obtain ⟨k', u'⟩ := p
      obtain ⟨z1, z2⟩ := h1
      have z1 : (Sum.inr x : Key) = k' := z1
      subst z1
      obtain ⟨t, z2⟩ := (show ∃ t, u' = Value.int i t from z2)
      subst z2
      generalize hl : es.toList = l at pr
      cases pr with
      | @cons e kv es2 kvs hk hv p2 =>
        cases p2
        obtain ⟨tx, ek⟩ : ∃ t, e.key = Value.str x t := by
          rcases keyIs_shape (show keyIs (Sum.inr x) e.key = true from hk) with ⟨i2, t2, q, _⟩ | ⟨x2, t2, q, q2⟩
          · cases q
          · cases q; exact ⟨t2, q2⟩
        have ev : e.val = Value.int i t := hv
        refine ⟨_, .dict e1 ex.1 e2 (as := [] ++ []) (bs := [] ++ []) ?_ ?_, fun _ hm => ?_⟩
        · rw [hl]
          show ReadsAll s.heap [e.key] [.str x] _
          rw [ek]
          exact .cons (.str x tx) .nil
        · rw [hl]
          show ReadsAll s.heap [e.val] [.int i] _
          rw [ev]
          exact .cons (.int i t) .nil
        · have hm : sysModules ∈ [a] := by simpa using hm
          rw [List.mem_singleton] at hm
          rw [← hm] at ns
          cases ns
/-- repr(x) -/
def rRep (K : PySem.W.Frag) : List V → Hp → VK → Prop := fun xs H Q => ∃ x d, xs = [x] ∧ Dq K H x d ∧ d.showable = true ∧ d.depth ≤ 50 ∧ d.shown.length ≤ sizeLine ∧ Q (.str d.shown) H
theorem call_rep (hK : X.K = K) (hgd : X.A.guards = some []) (hu : X.A.units + 64 < cLine) : CallR X (.builtin "repr") (rRep K) := by
  subst hK
  intro pins s σ H xs us Q I r h
  obtain ⟨x, d, rfl, hx, hs, hdp, hz, q⟩ := h
  obtain ⟨u, rfl, ru⟩ := r.one
  have rf : ∀ a, x = V.ref a → wpAny (model X.prog X.w) X.A (call (.builtin "repr") [u]) (EP X pins σ Q) X.xe s := by
    intro a ex
    subst ex
    cases (show u = Value.ref a from ru)
    obtain ⟨as, rd, hsm⟩ := hx.reads I (u := Value.ref a) rfl
    exact repr_of_reads' rd hs hsm hgd (by omega) (fun _ _ e => e) (fun h' u tk hk => ⟨.str d.shown, H, I.kept (t' := tk) hk, ⟨u, rfl⟩, q⟩) hz
  cases hx with
  | d0 h => exact rf _ rfl
  | d1 h => exact rf _ rfl
  | dp h =>
    cases h with
    | lst h1 h2 => exact rf _ rfl
    | tup h1 h2 => exact rf _ rfl
    | non => cases (show u = Value.none from ru); simp only [PyData.shown] at q; exact P.repr_of_none ⟨.str "None", H, I.tok _, ⟨_, rfl⟩, q⟩
    | bl b => cases (show u = Value.bool b from ru); simp only [PyData.shown] at q; exact P.repr_of_bool ⟨.str (if b then "True" else "False"), H, I.tok _, ⟨_, rfl⟩, q⟩
    | int i =>
      obtain ⟨t, rfl⟩ := (show ∃ t, u = Value.int i t from ru)
      simp only [PyData.shown] at q
      simp only [PyData.showable] at hs
      exact P.repr_of_int (of_decide_eq_true hs) ⟨.str (toString i), H, I.tok _, ⟨_, rfl⟩, q⟩
    | str z =>
      obtain ⟨t, rfl⟩ := (show ∃ t, u = Value.str z t from ru)
      simp only [PyData.shown] at q hz
      exact P.repr_of_str ⟨.str (reprText z), H, I.tok _, ⟨_, rfl⟩, q⟩ hz
/-- l.count(y) of flat values -/
def rCntF (K : PySem.W.Frag) : V → List V → Hp → VK → Prop := fun x xs H Q => ∃ (p : Addr) (ys : List V) (y : V), x = .ref p ∧ xs = [y] ∧ SqL K H p ys ∧ flatV y = true ∧ ys.all flatV = true ∧ Q (.int ((ys.countP fun z => eqV z y : Nat) : Int)) H
end
end QD
namespace KW
open PySem PySem.Spec PyProof.Rows L2
/-! ### f(k = v, ..): every parameter by its name -/
/-- these places of a list, in this order -/
def pk {α : Type} (ix : List Nat) (l : List α) : List α := ix.filterMap fun i => l[i]?
theorem pk_vals {zs : List V} {ws : List Value} (r : Vals zs ws) : ∀ ix : List Nat, Vals (pk ix zs) (pk ix ws)
  | [] => .nil
  | i :: ix => by
    unfold pk
    rw [List.filterMap_cons, List.filterMap_cons]
    cases e : zs[i]? with
    | some z =>
      obtain ⟨w, h, rw'⟩ := r.get e
      rw [h]
      exact .cons rw' (pk_vals r ix)
    | none =>
      have l := r.length
      have : ws[i]? = none := by
        rw [List.getElem?_eq_none_iff] at e ⊢
        omega
      rw [this]
      exact pk_vals r ix
def tK0 (m : Nat) (sp : Sp) (ix : List Nat) (E : XK) (tk : TA) : TE := fun σ H Q => tk σ H fun zs H2 => zs.length = m ∧ sp (pk ix zs) H2 Q E
theorem g_K0 {m : Nat} {sp : Sp} {ix : List Nat} {E : XK} {tk : TA} {σ : L2.St} {H : Hp} {Q : VK} (q : tk σ H fun zs H2 => zs.length = m ∧ sp (pk ix zs) H2 Q E) : tK0 m sp ix E tk σ H Q := q
section
variable {K : PySem.W.Frag} {fd : FuncData} {ps ks : List Str} {x qual : Str} {st : Stmt} {f : Addr}
theorem kb0 (F : Fun K x qual st f fd) (ix : List Nat) (h : ∀ (kV doc pm : Value) (an : Option Addr) (cdv ct : Value) (ws : List Value), ws.length = ks.length → bindArgs (PySem.W.fnOf x qual (defArgs st) (defBody st) (defScope st) .none kV doc pm an cdv ct) ⟨[], ks.zip ws⟩ = pure (ps.zip (pk ix ws))) :
    KBn K fd ps 0 ks (fun _ ws => pk ix ws) (fun _ zs => pk ix zs) := by
  obtain ⟨oc, od, kV, doc, pm, an, cdv, ct, osl, rfl, lk, hcd⟩ := F.ex
  refine ⟨fun s us ws X l1 l2 => ?_, fun r1 r2 => pk_vals r2 ix⟩
  cases us with
  | nil => exact BindsTo.of_eq (h kV doc pm an cdv ct ws l2)
  | cons a r => simp at l1
end
section
variable {X : Cx} {CX : CXT} {k : Nat} {f : Addr} {fd : FuncData} {ps ks : List Str} {sp : Sp} {E : XK} {x : Str} {p pos : Pos} {kws : List Keyword} {tk : TA} {ix : List Nat}
theorem pe_callK0 (F : FnOk X.prog X.w X.K X.mg X.base CX k f fd ps sp) (hr : Room k X.A) (hg : Gl X x) (hm : X.mg x = some (.ref f)) (hk : PySem.W.keepIn X.K (.ref f) = true) (hb : KBn X.K fd ps 0 ks (fun _ ws => pk ix ws) (fun _ zs => pk ix zs)) (hx : Passes CX X E)
    (hkw : PK X kws tk) (hall : (backToKw pos (keywordEach kws X.env)).all (·.1.isSome) = true := by rfl) (hks : (backToKw pos (keywordEach kws X.env)).filterMap (·.1) = ks := by rfl) (hdb : (x == ("__debug__" : Str)) = false := by decide)
    (hpl : ((backTo pos (starEach [] X.env)).any (·.1) || (backToKw pos (keywordEach kws X.env)).any (·.1.isNone)) = false := by rfl) : PE X (.Call (.Name x p) [] kws pos) (tK0 ks.length sp ix E tk) := by
  refine ⟨fun pins s σ H Q I h => ?_⟩
  refine wpAny_Call_Name_kw (ld_glob I hg hm ?_ hdb)
  refine PySem.W.callWith_KW0 (h₀ := X.base) I.ok.mod.kin hk hall ?_ hpl
  refine thn (hkw.run pos pins s σ H _ I h) fun ws s2 ⟨zs, H2, I2, rz, l2, q2⟩ => ⟨I2.kIn, ?_⟩
  rw [hks]
  exact run_fnN (us := []) (vs := []) F hr hb hx I2 .nil rz rfl l2 q2
end
end KW
namespace HX
open PySem PySem.Spec PyProof.Rows L2 He
/-! ### the head's facts, with a look of one's own at the written part -/
/-- what the names stand for, and what these objects name: twice over -/
def nmA (g : Addr → Option Obj) (nm : List Str) : List Addr := nm.map fun x => ga (frG g [mainGlobals]) x
def nxt (g : Addr → Option Obj) (as : List Addr) : List Addr := as.flatMap fun a => match g a with
  | some o => (match o.data with
    | .dict es _ => es.toList.flatMap fun e => refV e.val
    | .func fd => refV fd.code
    | .cls cd => [cd.ns]
    | _ => [])
  | none => []
def asX (g : Addr → Option Obj) (nm : List Str) : List Addr :=
  let a1 := nmA g nm
  let a2 := nxt g a1
  let a3 := nxt g a2
  let a4 := nxt g a3
  mainGlobals :: (a1 ++ (a2 ++ (a3 ++ a4)))
def obsX (nm : List Str) (fa : List Fa) (fn : List FnD) (xb : PySem.W.Frag → Bool) (g : Addr → Option Obj) : Al × Bool := (fun K : PySem.W.Frag => (obsE fa fn K, xb K)) (frG g (asX g nm))
def hookX (nm : List Str) (fa : List Fa) (fn : List FnD) (xb : PySem.W.Frag → Bool) : PySem.W.Hook where
  α := Al × Bool
  obs := fun s => obsX nm fa fn xb s.heap.get?
  val := fun _ => (valE fn, true)
  says := fun _ h => ∃ K : PySem.W.Frag, K.In h ∧ SaysE fa fn K ∧ xb K = true
  of := fun _ _ e => ⟨_, frG_in, congrArg Prod.fst e, congrArg Prod.snd e⟩
  keeps := fun _ _ _ ⟨K, hK, c⟩ k => ⟨K, PySem.W.Frag.In.keeps hK k, c⟩
end HX
namespace EX
open PySem PySem.Spec PyProof.Rows L2
/-! ### own errors as values: made, their value read, isinstance -/
/-- what the written part says of an own error class, whose __init__ stands at fI -/
structure ErrC (K : PySem.W.Frag) (fI C : Addr) : Prop where
  oex : OexC K C
  ini : PySem.W.findIn K (.ref C) "__init__" = some (some (.ref fI))
  noV : PySem.W.findIn K (.ref C) "value" = some none
  ga : PySem.W.findIn K (.ref C) "__getattribute__" = some (some (.builtin "BaseException.__getattribute__"))
  gg : PySem.W.findIn K (.ref C) "__getattr__" = some none
  hd : PySem.W.hasDictIn K C = true
  hcl : (PySem.W.clsIn K C).isSome = true
  ha : PySem.W.findIn K (.ref C) "__class__" = some (some (.builtin "object.__class__"))
  hm : PySem.W.mroIn K C (.type "object") = some true
/-- at e: an own error of the class at C that keeps v -/
def ErrAt (H : Hp) (e C : Addr) (v : V) : Prop := ∃ d, H e = some (exo e C (some d)) ∧ H d = some (exd d [(("value" : Str), v)])
theorem ErrAt.mono {H H' : Hp} {e C : Addr} {v : V} (s : Same H H') (h : ErrAt H e C v) : ErrAt H' e C v := let ⟨d, a, b⟩ := h; ⟨d, s _ _ a, s _ _ b⟩
def sp_eini (K : PySem.W.Frag) : Sp := fun vs H Q _ => ∃ (a C : Addr) (v : V), vs = [.ref a, v] ∧ OexC K C ∧ PySem.W.findIn K (.ref C) "value" = some none ∧ H a = some (exo a C none) ∧
  ∀ dx, H dx = none → dx ≠ a → Q .non (upd (upd H dx (exd dx [(("value" : Str), v)])) a (exo a C (some dx)))
/-- C(e) -/
def tMkE (C : Addr) (ta : TA) : TE := fun σ H Q => ta σ H fun vs H1 => ∃ v, vs = [v] ∧ ∀ e H2, H1 e = none → Same H1 H2 → ErrAt H2 e C v → Q (.ref e) H2
section
variable {X : Cx} {K : PySem.W.Frag} {fI : Addr}
/-- e.value -/
def tErrF (K : PySem.W.Frag) (fI : Addr) (te : TE) : TE := fun σ H Q => te σ H fun x H1 => ∃ a C v, x = .ref a ∧ ErrC K fI C ∧ ErrAt H1 a C v ∧ Q v H1
/-- isinstance(e, C2) -/
def rIsErr (K : PySem.W.Frag) (fI : Addr) : List V → Hp → VK → Prop := fun xs H Q => ∃ (a C : Addr) (v c : V) (u : Value) (b : Bool), xs = [.ref a, c] ∧ ErrAt H a C v ∧ ErrC K fI C ∧ ClsV c u ∧ PySem.W.kitOne K (.ref C) u = some b ∧ Q (.bl b) H
end
/-! ### the reading's steps -/
section
variable {K : PySem.W.Frag} {fI : Addr} {σ : L2.St} {H : Hp} {Q : VK}
end
end EX
namespace EX
open PySem PySem.Spec PyProof.Rows L2
/-! ### the facts of own error classes, by one look at the written part -/
/-- the class object of an own error class, and its bases' chain -/
def excB (K : PySem.W.Frag) (C Cr : Addr) : Bool := match K.lookup C with
  | some ⟨.type "type", _, .cls cd, sl⟩ => (match sl.toList with
    | [_, _, _, _, some (.builtin n), _] => n == "ValueError.__new__" && (!cd.hasDel && (cd.hasDict && (cd.mro == (if C = Cr then [] else [.ref C]) ++ [.ref Cr, .type "ValueError", .type "Exception", .type "BaseException", .type "object"])))
    | _ => false)
  | _ => false
def chain (C Cr : Addr) : List Value := (if C = Cr then [] else [.ref C]) ++ [.ref Cr, .type "ValueError", .type "Exception", .type "BaseException", .type "object"]
theorem chain_head (C Cr : Addr) : ∃ bm, chain C Cr = .ref C :: bm ∧ PySem.HandSPX.refsVE bm = true := by
  unfold chain
  by_cases h : C = Cr
  · subst h
    rw [if_pos rfl]
    exact ⟨_, rfl, by decide +kernel⟩
  · rw [if_neg h]
    exact ⟨_, rfl, by
      show PySem.HandSPX.refsVE [.type "ValueError", .type "Exception", .type "BaseException", .type "object"] = true
      decide +kernel⟩
theorem excB_ok {K : PySem.W.Frag} {C Cr : Addr} (q : excB K C Cr = true) :
    (∃ nm q N bs bm sn sub ab col dd k0 k1 k2 k3 k5, K.lookup C = some (excClassObj nm q C N bs bm true sn sub ab col dd k0 k1 k2 k3 k5 "ValueError.__new__") ∧ PySem.HandSPX.refsVE bm = true) ∧ ∃ cd, PySem.W.clsIn K C = some cd ∧ cd.mro = chain C Cr := by
  unfold excB at q
  split at q
  · rename_i dd cd sl ho
    split at q
    · rename_i k0 k1 k2 k3 n k5 hs
      simp only [Bool.and_eq_true, beq_iff_eq, Bool.not_eq_true'] at q
      obtain ⟨rfl, hdel, hdict, hm⟩ := q
      have hcl : PySem.W.clsIn K C = some cd := by unfold PySem.W.clsIn; rw [ho] <;> rfl
      refine ⟨?_, cd, hcl, hm⟩
      obtain ⟨bm, e, r⟩ := chain_head C Cr
      obtain ⟨nm, bs, mro, ns, qn, hd, sn, sub, ab, col, del⟩ := cd
      dsimp only at hm hdel hdict
      have hm : mro = .ref C :: bm := by rw [hm]; exact e
      subst hm hdel hdict
      have hsl : sl = #[k0, k1, k2, k3, some (.builtin "ValueError.__new__"), k5] := by
        obtain ⟨l⟩ := sl
        simp only at hs
        rw [hs]
      subst hsl
      exact ⟨nm, qn, ns, bs, bm, sn, sub, ab, col, dd, k0, k1, k2, k3, k5, ho, r⟩
    · cases q
  · cases q
def errB (K : PySem.W.Frag) (fI Cr C : Addr) : Bool := excB K C Cr && (
  decide (PySem.W.findIn K (.ref C) "__setattr__" = some (some (.builtin "object.__setattr__"))) && (decide (PySem.W.typeIn K (.ref C) = some (.type "type")) && (PySem.W.keepIn K (.ref C) && (
  decide (PySem.W.findIn K (.ref C) "__init__" = some (some (.ref fI))) && (decide (PySem.W.findIn K (.ref C) "value" = some none) && (
  decide (PySem.W.findIn K (.ref C) "__getattribute__" = some (some (.builtin "BaseException.__getattribute__"))) && (decide (PySem.W.findIn K (.ref C) "__getattr__" = some none) && (PySem.W.hasDictIn K C &&
  decide (PySem.W.findIn K (.ref C) "__class__" = some (some (.builtin "object.__class__")))))))))))
theorem mro_has {K : PySem.W.Frag} {C Cr : Addr} {cd : ClassData} (h : PySem.W.clsIn K C = some cd) (m : cd.mro = chain C Cr) (v : Value) : PySem.W.mroIn K C v = some ((chain C Cr).contains v) := by
  unfold PySem.W.mroIn
  rw [h, Option.bind_some, m]
  obtain ⟨bm, e, _⟩ := chain_head C Cr
  rw [if_neg (by rw [e]; simp)]
theorem chain_has (C Cr : Addr) (v : Value) (h : v ∈ [Value.type "ValueError", .type "Exception", .type "BaseException", .type "object"]) : (chain C Cr).contains v = true := by
  rw [List.contains_iff_mem]
  exact List.mem_append_right _ (List.mem_cons_of_mem _ h)
theorem errB_ok {K : PySem.W.Frag} {fI Cr C : Addr} (q : errB K fI Cr C = true) : ErrC K fI C ∧ (∃ cd, PySem.W.clsIn K C = some cd ∧ cd.mro = chain C Cr) ∧ PySem.W.typeIn K (.ref C) = some (.type "type") := by
  unfold errB at q
  simp only [Bool.and_eq_true, decide_eq_true_eq] at q
  obtain ⟨h1, h2, h3, h4, h5, h6, h7, h8, h9, h10⟩ := q
  obtain ⟨e1, cd, e2, e3⟩ := excB_ok h1
  refine ⟨⟨⟨e1, h2, ?_, h3, h4⟩, h5, h6, h7, h8, h9, by rw [e2]; rfl, h10, ?_⟩, ⟨cd, e2, e3⟩, h3⟩
  · show PySem.W.mroIn K C _ = _
    rw [mro_has e2 e3, chain_has _ _ _ (by simp)]
  · rw [mro_has e2 e3, chain_has _ _ _ (by simp)]
section
variable {K : PySem.W.Frag} {C D Cr : Addr}
end
end EX
namespace EX
open PySem PySem.Spec PyProof.Rows L2
/-- an own error's value read in the suite that holds it -/
theorem pe_xv {X : Cx} {fI a C : Addr} {oe : Obj} {cls : Value} {d : Option Addr} {pn : List (Addr × Obj)} {e : Expr} {te : TE} {pos : Pos} (T : ErrC X.K fI C)
    (hz : Zc cls d oe) (hf : ∃ vs, oe.data = .fields vs) (he : PE (X.suite a ((a, oe) :: pn)) e te) (hb : attributeBase e "value" X.env (eval e X.env) = eval e X.env := by rfl) :
    PE (X.suite a ((a, oe) :: pn)) (.Attribute e "value" pos) (tXf a cls d C "value" te) := pe_xf ⟨T.ga, T.gg, T.oex.exC, T.hd⟩ T.noV hz hf he hb
end EX
namespace LX
open PySem PySem.Spec PyProof.Rows L2 LamX
/-! ### lambdas without parameters, kept as values -/
structure LF where
  qual : Str
  params : Arguments
  body : Expr
  scope : Scope
  cl : List (Str × Addr)
  code : Addr
def LF.ob (F : LF) (pm ctv : Value) : Obj := PySem.W.kla_obj "<lambda>" F.qual F.params F.body F.scope F.cl pm F.code ctv
def LamO (f : Addr) (F : LF) : HO := .ext fun h => ∃ pm ctv : Value, h.get? f = some (F.ob pm ctv)
theorem lamO_ne {f : Addr} {F : LF} (ps : Array Value) : LamO f F ≠ .tbl ps := fun z => nomatch z
theorem lam_know {X : Cx} {pins : List (Addr × Obj)} {σ : L2.St} {H : Hp} {s : Shared} {t' : Nat} {F : LF} {pm ctv : Value} (I : Inv X pins σ H s) :
    Inv X pins σ (upd H s.heap.objs.size (LamO s.heap.objs.size F)) { s with heap := s.heap.push (F.ob pm ctv), toks := t' } := by
  have at_ : (s.heap.push (F.ob pm ctv)).get? s.heap.objs.size = some (F.ob pm ctv) := Heap.get?_push_size _ rfl
  exact I.laid (fun _ _ => Heap.get?_push_of_some _) (Nat.le_refl _) ⟨⟨pm, ctv, at_⟩, ⟨_, at_⟩, fun _ _ ⟨p, c, z⟩ st => ⟨p, c, st _ z⟩⟩
def tMkLam (T : List (Addr × Str)) (mk : Addr → LF) : TE := fun _ H Q => Tabs T H ∧ ∀ (f c' : Addr) (H1 : Hp), ExtN H H1 → (∀ b, H1 b = none → H b = none) → Tabs T H1 → H f = none → H1 f = some (LamO f (mk c')) → H1 c' = some (CodeO c' (mk c').qual) → Q (.ref f) H1
section
variable {X : Cx}
theorem un_none {H : Hp} {a b : Addr} {o : HO} (e : upd H a o b = none) : H b = none := by
  by_cases c : b = a
  · rw [c, upd_same] at e
    cases e
  · rwa [upd_ne c] at e
/-- lambda: body, made in a def whose code object stands at c, with its table at P -/
theorem pe_lam {T : List (Addr × Str)} {c P : Addr} {params : Arguments} {body : Expr} {scope : Scope} {pos : Pos} (TB : TabB X.base X.mg c P) (hcode : X.env.code = .ref c) (hm : (P, X.env.qual ++ "<lambda>") ∈ T) (hu : ∀ p ∈ T, p.1 = P → p.2 = X.env.qual ++ "<lambda>")
    (L : LamS X.env.scope scope) (hdef : defaultsOf params X.env = ([], [])) :
    PE X (.Lambda params body scope pos) (tMkLam T fun c' => ⟨X.env.qual ++ "<lambda>", params, body, scope, cloFrom X.env.cells scope.names [], c'⟩) := by
  refine ⟨fun pins s σ H Q I hq => ?_⟩
  obtain ⟨hT, k⟩ := hq
  obtain ⟨ps, hP, trip, among⟩ := hT _ hm
  have free := L.has I.ok
  have bP : s.heap.BuiltinsAt X.mg P := TB.bm.keeps I.bk
  have oP : s.heap.get? P = some { cls := .none, data := .fields ps } := I.hok P _ hP
  refine PySem.W.kla_eval hdef ?_
  cases ca : codeAmong pos ps.toList with
  | some cv =>
    obtain ⟨c', rfl, hco⟩ := among pos cv ca
    refine PySem.W.kla_makeFunctionHit (mg := X.mg) (closure_ok free) I.ok.glob (I.mod.glob.keeps I.bk) hcode (TB.code.keeps I.bk) oP trip ca bP fun ctv h' tk kp hsz => ?_
    have J : Inv X pins σ H { s with heap := h', toks := tk } := I.kept kp
    have nF : H h'.objs.size = none := J.hok.fresh (Nat.le_refl _)
    have keep : ∀ b o, H b = some o → upd H h'.objs.size (LamO h'.objs.size ⟨X.env.qual ++ "<lambda>", params, body, scope, cloFrom X.env.cells scope.names [], c'⟩) b = some o := fun b o e => (upd_ne (ne_of_none e nF)).trans e
    exact ⟨.ref h'.objs.size, _, lam_know (t' := tk) J, rfl, k _ c' _ (fun b o e _ => keep b o e) (fun b e => un_none e) (hT.ext keep) nF upd_same (keep _ _ hco)⟩
  | none =>
    refine PySem.W.kla_makeFunction (mg := X.mg) (closure_ok free) I.ok.glob (I.mod.glob.keeps I.bk) hcode (TB.code.keeps I.bk) oP trip ca TB.gP bP fun c' ctv h' tk hx hge hlt hrec htb => ?_
    obtain ⟨c2, oc, vs, t, e2, hoc, hd, hv⟩ := hrec
    cases e2
    have nC : H c' = none := I.hok.fresh hge
    have PC : P ≠ c' := ne_of_none hP nC
    have J := inv_table (t' := tk) (more := #[rawInt pos.line, rawInt pos.col, .ref c']) (h' := h') I hP (fun b o hb e => hx b o hb e) htb hge ⟨oc, vs, t, hoc, hd, hv⟩
    obtain ⟨H1, hH1⟩ : ∃ H1, upd (upd H P (.tbl (ps ++ #[rawInt pos.line, rawInt pos.col, .ref c']))) c' (CodeO c' (X.env.qual ++ "<lambda>")) = H1 := ⟨_, rfl⟩
    rw [hH1] at J
    have atC : H1 c' = some (CodeO c' (X.env.qual ++ "<lambda>")) := by rw [← hH1]; exact upd_same
    have atP : H1 P = some (.tbl (ps ++ #[rawInt pos.line, rawInt pos.col, .ref c'])) := by rw [← hH1, upd_ne PC, upd_same]
    have other : ∀ b, b ≠ P → b ≠ c' → H1 b = H b := fun b h1 h2 => by rw [← hH1, upd_ne h2, upd_ne h1]
    have ext : ExtN H H1 := fun b o e n => by
      rw [other b (fun z => n ps (by rw [z, hP] at e; exact (Option.some.inj e).symm)) (ne_of_none e nC)]
      exact e
    have tl : (ps ++ #[rawInt pos.line, rawInt pos.col, .ref c']).toList = ps.toList ++ [rawInt pos.line, rawInt pos.col, .ref c'] := by simp
    have tabs : Tabs T H1 := fun p hp => by
      by_cases hb : p.1 = P
      · rw [hu p hp hb, hb]
        refine ⟨_, atP, by rw [tl]; exact PySem.TriplesOk_snoc _ _ _ _ trip, fun p' cv hcv => ?_⟩
        rw [tl] at hcv
        rcases among_app _ trip hcv with z | z
        · obtain ⟨c0, e1, e2⟩ := among p' cv z
          exact ⟨c0, e1, ext _ _ e2 codeO_ne⟩
        · exact ⟨c', z, atC⟩
      · obtain ⟨ps', a1, a2, a3⟩ := hT p hp
        refine ⟨ps', (other _ hb (ne_of_none a1 nC)).trans a1, a2, fun p' cv hcv => ?_⟩
        obtain ⟨c0, e1, e2⟩ := a3 p' cv hcv
        exact ⟨c0, e1, ext _ _ e2 codeO_ne⟩
    have nF1 : H1 h'.objs.size = none := J.hok.fresh (Nat.le_refl _)
    have nF : H h'.objs.size = none := I.hok.fresh (Nat.le_trans hge (Nat.le_of_lt hlt))
    have keep : ∀ b o, H1 b = some o → upd H1 h'.objs.size (LamO h'.objs.size ⟨X.env.qual ++ "<lambda>", params, body, scope, cloFrom X.env.cells scope.names [], c'⟩) b = some o := fun b o e => (upd_ne (ne_of_none e nF1)).trans e
    refine ⟨.ref h'.objs.size, _, lam_know (t' := tk) J, rfl, k _ c' _ (fun b o e n => keep b o (ext b o e n)) (fun b e => ?_) (tabs.ext keep) nF upd_same (keep _ _ atC)⟩
    have e1 := un_none e
    rw [← hH1] at e1
    exact un_none (un_none e1)
end
/-! ### a name that holds a lambda, called where it was made -/
def tLCall (W : WX) (mk : Addr → LF) (i : Nat) (t : XK → TE) : TE := fun σ H Q => ∃ f c', σ[i]? = some (some (.ref f)) ∧ H f = some (LamO f (mk c')) ∧ H c' = some (CodeO c' (mk c').qual) ∧ t (WE W σ) σ H Q
section
variable {X : Cx}
theorem pe_lcall {W : WX} {params : Arguments} {body : Expr} {scope : Scope} {k i : Nat} {a : Str} {t : XK → TE} {p1 p2 : Pos} (L : LamS X.env.scope scope)
    (hbind : ∀ (q : Str) (cl : List (Str × Addr)) (pm cv ctv : Value), bindArgs (PySem.W.kla_fn "<lambda>" q params body scope cl pm cv ctv) ⟨[], []⟩ = pure [])
    (tk : Takes X W) (hr : Room (k + 1) X.A) (hbody : ∀ (E : XK) (A : Around) (outer : List Env) (s : Shared) (H : Hp) (f c' : Addr), Room k (A.deeper (lamEnv X scope s.heap.objs.size f c')) → PE (lamCx X A outer s H E scope f c') body (t E))
    (hN : X.N[i]? = some a) (hv : Vis X.env.scope a) (hd : (a == ("__debug__" : Str)) = false := by decide) (hcd : (a == ("__classdict__" : Str)) = false := by decide) :
    PE X (.Call (.Name a p1) [] [] p2) (tLCall W (fun c' => ⟨X.env.qual ++ "<lambda>", params, body, scope, cloFrom X.env.cells scope.names [], c'⟩) i t) := by
  refine ⟨fun pins s σ H Q I h => ?_⟩
  obtain ⟨f, c', hs, hf, hc, ht⟩ := h
  refine wpAny_Call_Name_kw (thn ((pe_var (pos := p1) (i := i) hN hv hd hcd).run pins s σ H (fun v H1 => v = .ref f ∧ H1 = H) I ⟨.ref f, hs, rfl, rfl⟩) fun u s1 ⟨v, H1, I1, r1, q1⟩ => ?_)
  obtain ⟨rfl, rfl⟩ := q1
  cases (show u = Value.ref f from r1)
  obtain ⟨⟨pm, ctv, of1⟩, _, _⟩ := I1.hok f _ hf
  obtain ⟨⟨oc, vs, tt, hoc, hdc, hvc⟩, _, _⟩ := I1.hok c' _ hc
  refine PySem.W.callWith_F0 ⟨_, _, _, _, of1⟩ ?_
  have rc : codeAny (model X.prog X.w) X.A (.call (.ref f) ⟨[], []⟩) (CR (L2.CX X.prog X.w) X.stack X.prog X.w H1 s1 Q (WE W σ)) s1 := by
    refine PySem.W.kla_callFunE hr.depth of1 rfl L.co L.gen rfl ⟨c', oc, vs, tt, rfl, hoc, hdc, hvc⟩ ?_
    rw [hbind]
    refine wpAny_pure (wpAny_newFunctionEnv (fun y hy => (L.own y hy).2) (fun y hy => absurd hy (by simp)) (fun h₁ hns hsb => ⟨I1.nolimit.fresh _ hsb, ?_⟩) L.kind)
    have kp : ∀ b o, s1.heap.get? b = some o → h₁.get? b = some o := fun b o e => hsb.extBut b o (Nat.ne_of_lt (Heap.lt_size e)) (Heap.get?_push_of_some _ e)
    have J : Inv (lamCx X X.A X.stack s1 H1 (WE W σ) scope f c') [] σ H1 { s1 with heap := h₁, toks := s1.toks + ([] : List (Str × Value)).length } := lam_start2 I1 L I1.env0 hr.hd Un.refl hns kp
    show codeAny _ _ (.expr body (lamEnv X scope s1.heap.objs.size f c')) _ _
    refine PySem.W.kla_codeExpr (wpAny_mono ((hbody _ _ _ s1 H1 f c' (hr.deeper _)).run [] _ _ H1 Q J ht) (fun v s' ⟨w', H', J', rv, q⟩ => ?_) fun e s' hq => hq)
    exact ⟨w', H', J'.os, J'.bare, J'.base, J'.hok, rv, q⟩
  refine wpAny_call (codeAny_mono rc fun r s' hq => ?_)
  match r, hq with
  | .error e, hq => exact passAt tk σ pins H1 s1 e s' I1 hq
  | .ok (.ret u), hq => exact I1.after hq
end
end LX
namespace LX
open PySem PySem.Spec PyProof.Rows L2 LamX He
/-! ### a law whose defs make lambdas: their code objects and tables, as the head has laid them -/
def cdOf (K : PySem.W.Frag) (f : Addr) : Option Addr := match K.lookup f with
  | some ⟨_, _, .func fd, _⟩ => (match fd.code with | .ref c => some c | _ => none)
  | _ => none
def tbOf (K : PySem.W.Frag) (c : Addr) : Option Addr := match K.lookup c with
  | some ⟨_, _, .fields vs, _⟩ => (match (vs[11]? : Option Value) with | some (.ref P) => some P | _ => none)
  | _ => none
def pcode (K : PySem.W.Frag) (x : Str) : Addr := (cdOf K (ga K x)).getD 0
def ptab (K : PySem.W.Frag) (x : Str) : Addr := (tbOf K (pcode K x)).getD 0
def isS : Value → Bool | .str _ _ => true | _ => false
def isI : Value → Bool | .int _ _ => true | _ => false
def isB : Value → Bool | .bool _ => true | _ => false
def isR (P : Addr) : Value → Bool | .ref Q => decide (Q = P) | _ => false
def isT (n : String) : Value → Bool | .type m => decide (m = n) | _ => false
theorem isS_ok {v : Value} (h : isS v = true) : ∃ x t, v = .str x t := by cases v <;> first | exact ⟨_, _, rfl⟩ | cases h
theorem isI_ok {v : Value} (h : isI v = true) : ∃ x t, v = .int x t := by cases v <;> first | exact ⟨_, _, rfl⟩ | cases h
theorem isB_ok {v : Value} (h : isB v = true) : ∃ x, v = .bool x := by cases v <;> first | exact ⟨_, rfl⟩ | cases h
theorem isR_ok {P : Addr} {v : Value} (h : isR P v = true) : v = .ref P := by
  cases v <;> first | (exact congrArg Value.ref (of_decide_eq_true h)) | cases h
theorem isT_ok {n : String} {v : Value} (h : isT n v = true) : v = .type n := by
  cases v <;> first | (exact congrArg Value.type (of_decide_eq_true h)) | cases h
def cdB (K : PySem.W.Frag) (c P : Addr) : Bool := match K.lookup c with
  | some ⟨cl, _, .fields vs, _⟩ => isT "code" cl && ((match vs[11]? with | some v => isR P v | none => false) && (isS (vs.getD 18 .none) && (isI (vs.getD 7 .none) && (isB (vs.getD 9 .none) && (isI (vs.getD 10 .none) && decide (c ≠ P))))))
  | _ => false
theorem cdB_ok {K : PySem.W.Frag} {h : Heap} {c P : Addr} (KX : K.In h) (e : cdB K c P = true) : PySem.W.CodeHd h c P := by
  unfold cdB at e
  split at e
  · rename_i cl d vs sl q
    simp only [Bool.and_eq_true] at e
    obtain ⟨e1, e2, e3, e4, e5, e6, e7⟩ := e
    obtain ⟨x1, t1, h1⟩ := isS_ok e3
    obtain ⟨x2, t2, h2⟩ := isI_ok e4
    obtain ⟨x3, h3⟩ := isB_ok e5
    obtain ⟨x4, t4, h4⟩ := isI_ok e6
    have h5 : vs[11]? = some (.ref P) := by
      cases q2 : vs[11]? with
      | none => rw [q2] at e2; cases e2
      | some v => rw [q2] at e2; rw [isR_ok e2]
    exact ⟨_, vs, x1, t1, x2, t2, x3, x4, t4, KX _ _ q, isT_ok e1, rfl, h5, by rw [Array.getD_eq_getD_getElem?, h5]; rfl, h1, h2, h3, h4, of_decide_eq_true e7⟩
  · cases e
def emB : Option Obj → Bool
  | some ⟨.none, none, .fields vs, sl⟩ => vs.isEmpty && sl.isEmpty
  | _ => false
theorem emB_ok {o : Option Obj} (h : emB o = true) : o = some { cls := .none, data := .fields #[] } := by
  unfold emB at h
  split at h
  · rename_i vs sl
    rw [Bool.and_eq_true, Array.isEmpty_iff, Array.isEmpty_iff] at h
    rw [h.1, h.2]
  · cases h
def lamB (g : Addr → Option Obj) (K : PySem.W.Frag) (x : Str) : Bool := eqO (PySem.W.nsIn K mainGlobals x) (some (some (.ref (ga K x)))) && (decide (cdOf K (ga K x) = some (pcode K x)) && (cdB K (pcode K x) (ptab K x) && (emB (g (ptab K x)) && (K.lookup (ptab K x)).isNone)))
structure LamSays (K : PySem.W.Frag) (h : Heap) (x : Str) : Prop where
  glo : eqO (PySem.W.nsIn K mainGlobals x) (some (some (.ref (ga K x)))) = true
  cd : cdOf K (ga K x) = some (pcode K x)
  hd : PySem.W.CodeHd h (pcode K x) (ptab K x)
  em : h.get? (ptab K x) = some { cls := .none, data := .fields #[] }
  no : K.lookup (ptab K x) = none
theorem lamB_ok {K : PySem.W.Frag} {h : Heap} {x : Str} (KX : K.In h) (e : lamB h.get? K x = true) : LamSays K h x := by
  unfold lamB at e
  simp only [Bool.and_eq_true] at e
  obtain ⟨e1, e2, e3, e4, e5⟩ := e
  exact ⟨e1, of_decide_eq_true e2, cdB_ok KX e3, emB_ok e4, by simpa using e5⟩
def obsT (nm : List Str) (fa : List Fa) (fn : List FnD) (xb : PySem.W.Frag → Bool) (mk : List Str) (g : Addr → Option Obj) : Al × Bool := (fun K : PySem.W.Frag => (obsE fa fn K, xb K && mk.all fun x => lamB g K x)) (frG g (HX.asX g nm))
def hookT (nm : List Str) (fa : List Fa) (fn : List FnD) (xb : PySem.W.Frag → Bool) (mk : List Str) : PySem.W.Hook where
  α := Al × Bool
  obs := fun s => obsT nm fa fn xb mk s.heap.get?
  val := fun _ => (valE fn, true)
  says := fun _ h => ∃ K : PySem.W.Frag, K.In h ∧ SaysE fa fn K ∧ xb K = true ∧ ∀ x ∈ mk, LamSays K h x
  of := fun _ _ e => by
    have e2 := congrArg Prod.snd e
    obtain ⟨e3, e4⟩ := He.ba e2
    exact ⟨_, frG_in, congrArg Prod.fst e, e3, fun x hx => lamB_ok frG_in (List.all_eq_true.mp e4 x hx)⟩
  keeps := fun _ _ _ ⟨K, hK, c, d, l⟩ k => ⟨K, PySem.W.Frag.In.keeps hK k, c, d, fun x hx => ⟨(l x hx).glo, (l x hx).cd, (l x hx).hd.keeps k, k _ _ (l x hx).em, (l x hx).no⟩⟩
theorem obsT_eq {nm : List Str} {fa : List Fa} {fn : List FnD} {xb : PySem.W.Frag → Bool} {mk : List Str} {g : Addr → Option Obj} {s : Shared} (h : ∀ a, g a = s.heap.get? a) : obsT nm fa fn xb mk g = (hookT nm fa fn xb mk).obs s := by
  have e : g = s.heap.get? := funext h
  subst e
  rfl
section
variable {P : Program} {w : World} {K : PySem.W.Frag} {mg mb : Str → Option Value} {k : Nat} {fa a : Addr} {fd : FuncData} {x : Str} {sp : Sp} {s : Shared} {vs : List Value} {ns : List Int}
/-- what is tracked at the law's call: the script, the tables -/
def tabH (ts : List Addr) (K : PySem.W.Frag) (a : Addr) (vs : List Value) (ns : List Int) : Hp := fun b => if b ∈ ts then some (.tbl #[]) else G.scrH K a vs ns b
theorem endT {cs : List (Addr × Addr)} (KX : K.In s.heap) (gm : s.heap.Ns mainGlobals mg) (gb : s.heap.Ns builtinsNs mb) (hbb : ∀ x : Str, x ≠ "__name__" → mb x = bootBuiltins x) (lim : s.heap.NoLimit) (gens : s.gens = #[])
    (hT : ∀ p ∈ cs, s.heap.get? p.2 = some { cls := .none, data := .fields #[] }) (nT : ∀ p ∈ cs, K.lookup p.2 = none) (C : ∀ p ∈ cs, PySem.W.CodeHd s.heap p.1 p.2)
    (hbm : ∃ (bm : Addr) (ob : Obj), mg "__builtins__" = some (.ref bm) ∧ bm ≠ builtinsNs ∧ s.heap.get? bm = some ob ∧ ob.cls = .type "module" ∧ ob.dict = some builtinsNs ∧ ob.data = .plain)
    (ha : s.heap.get? a = some { cls := .type "list", data := .seq vs.toArray }) (hi : IntsAre vs ns) (hl : ns.length ≤ sizeLine) (hr : Room k callerA)
    (F : ∀ base : Heap, K.In base → base.Ns mainGlobals mg → (∀ p ∈ cs, TabB base mg p.1 p.2) → G.FnG P w K mg base k fa fd [x] sp) (bind : ∀ (s : Shared) (u : Value), BindsTo s fd ⟨[u], []⟩ [(x, u)])
    (hsp : ∀ H : Hp, (∀ p ∈ cs, H p.2 = some (.tbl #[])) → SqL K H a (ns.map V.int) → sp [.ref a] H (fun v _ => v = .bl true) fun _ _ _ => False) :
    codeAny (model P w) callerA (.call (.ref fa) ⟨[.ref a], []⟩) (fun r s' => r = .ok (.ret (.bool true)) ∧ OldK s.heap s'.heap ∧ s'.os = s.os ∧ AllBare s'.gens) s := by
  have rv := vals_ints hi
  have nl := hi.length
  let H := tabH (cs.map (·.2)) K a vs ns
  have inT : ∀ b, b ∈ cs.map (·.2) → s.heap.get? b = some { cls := .none, data := .fields #[] } := fun b hb => by
    obtain ⟨p, hp, rfl⟩ := List.mem_map.mp hb
    exact hT p hp
  have onT : ∀ b, b ∈ cs.map (·.2) → H b = some (.tbl #[]) := fun b hb => if_pos hb
  have offT : ∀ b, b ∉ cs.map (·.2) → H b = G.scrH K a vs ns b := fun b hb => if_neg hb
  have aT : a ∉ cs.map (·.2) := fun z => by
    have q := inT a z
    rw [ha] at q
    have := congrArg Obj.data (Option.some.inj q)
    cases this
  have hok : HOk P w H s.heap := fun b u z => by
    by_cases hb : b ∈ cs.map (·.2)
    · rw [onT b hb] at z
      cases z
      exact inT b hb
    · rw [offT b hb] at z
      obtain ⟨rfl, _, rfl⟩ := G.scr_some z
      exact ⟨ha, by rw [List.length_map]; exact hl, vs, _, rv, ha⟩
  have hS : SqL K H a (ns.map V.int) := by
    cases q : K.lookup a with
    | none => exact Or.inl (Or.inr ⟨_, (offT a aT).trans (if_pos ⟨rfl, q⟩)⟩)
    | some o =>
      have e := KX a o q
      rw [ha] at e
      cases e
      exact Or.inr ⟨_, vs.toArray, _, q, rfl, rfl, rfl, by rw [List.size_toArray, nl]; exact hl, by simpa using rv⟩
  have noD : ∀ {b : Addr} {o : Obj}, s.heap.get? b = some o → (∀ zs n, o.data ≠ .seq zs n) → o.data ≠ .fields #[] → H b = none := fun {b o} e h1 h2 => by
    have hb : b ∉ cs.map (·.2) := fun z => by
      have q := inT b z
      rw [e] at q
      exact h2 (congrArg Obj.data (Option.some.inj q))
    rw [offT b hb]
    refine G.scr_none fun z => ?_
    rw [z, ha] at e
    exact h1 _ _ (congrArg Obj.data (Option.some.inj e)).symm
  have names : ∀ {b : Addr} {m : Str → Option Value}, s.heap.Ns b m → (hidT s.heap H).Ns b m := by
    rintro b m ⟨o, es, ep, e, d, r⟩
    exact ⟨o, es, ep, hidT_get e (noD e (fun zs n z => by rw [d] at z; cases z) fun z => by rw [d] at z; cases z), d, r⟩
  have KB : K.In (hidT s.heap H) := fun b o e => hidT_get (KX b o e) (by
    have hb : b ∉ cs.map (·.2) := fun z => by
      obtain ⟨p, hp, rfl⟩ := List.mem_map.mp z
      rw [nT p hp] at e
      cases e
    rw [offT b hb]
    exact G.scr_K e)
  have M : Mod K mg (hidT s.heap H) := by
    obtain ⟨mc, h1, h2⟩ := lim
    exact ⟨KB, names gm, ⟨mb, names gb, hbb⟩, ⟨mc, names h1, h2⟩⟩
  have TB : ∀ p ∈ cs, TabB (hidT s.heap H) mg p.1 p.2 := fun p hp => by
    have tp := hT p hp
    obtain ⟨bm, ob, b1, b2, b3, b4, b5, b6⟩ := hbm
    have bmN : bm ≠ mainGlobals := fun q => by
      obtain ⟨o, es, ep, e, hd, _⟩ := gm
      rw [q, e] at b3
      cases b3
      rw [hd] at b6
      cases b6
    have bmP : bm ≠ p.2 := fun q => by
      rw [q, tp] at b3
      cases b3
      cases b6
    refine ⟨?_, ⟨bm, ob, b1, b2, bmN, bmP, hidT_get b3 (noD b3 (fun zs n z => by rw [b6] at z; cases z) fun z => by rw [b6] at z; cases z), b4, b5, b6⟩, fun z => ?_⟩
    · obtain ⟨o, us, file, tf, flags, tg, inF, text, tt, e1, r1, r2, r3, r⟩ := C p hp
      refine ⟨o, us, file, tf, flags, tg, inF, text, tt, hidT_get e1 (noD e1 (fun zs n z => by rw [r2] at z; cases z) fun z => ?_), r1, r2, r3, r⟩
      rw [r2] at z
      injection z with z
      rw [z] at r3
      cases r3
    · obtain ⟨o, es, ep, e, hd, _⟩ := gm
      rw [z, tp] at e
      cases e
      cases hd
  have e0 : Env0 P w K mg (hidT s.heap H) callerA [] s H := by
    refine ⟨rfl, M, fun b o e => of_hidT e, Nat.le_of_eq (hidT_size _ _), trivial, fun b hb => ?_, hok, .of_eq gens⟩
    exact absurd (show b ∈ ([] : List Addr) from hb) (by simp)
  have run := (F _ KB (names gm) TB).go callerA [] s H ⟨[.ref a], []⟩ [.ref a] [.ref a] _ _ hr G.guards_caller e0 (bind s (.ref a)) (.cons rfl .nil) (hsp H (fun p hp => onT _ (List.mem_map_of_mem hp)) hS)
  refine codeAny_mono run fun r s2 z => ?_
  match r, z with
  | .ok (.ret u), z =>
    obtain ⟨v, H2, os, bare, un, hok2, rv2, q⟩ := z
    cases (show v = .bl true from q)
    cases (show u = Value.bool true from rv2)
    have key : ∀ b o, b ∉ cs.map (·.2) → s.heap.get? b = some o → s2.heap.get? b = some o := fun b o nb e => by
      cases q : H b with
      | none => exact un.keep b o e q (fun z => absurd (show b ∈ ([] : List Addr) from z) (by simp)) (by simp)
      | some u =>
        have q2 := q
        rw [offT b nb] at q2
        obtain ⟨rfl, _, rfl⟩ := G.scr_some q2
        obtain ⟨e2, _⟩ := hok2 b _ (un.frzs b _ _ q)
        rw [ha] at e
        cases e
        exact e2
    have grown : ∀ p ∈ cs, ∃ more : Array Value, s2.heap.get? p.2 = some { cls := .none, data := .fields more } := fun p hp => by
      obtain ⟨more, z⟩ := un.tbls p.2 #[] (onT _ (List.mem_map_of_mem hp))
      exact ⟨_, hok2 p.2 _ z⟩
    refine ⟨rfl, ⟨fun b o e => ?_, fun b o e => ?_⟩, os, bare⟩
    · by_cases hb : b ∈ cs.map (·.2)
      · obtain ⟨p, hp, rfl⟩ := List.mem_map.mp hb
        obtain ⟨more, hm⟩ := grown p hp
        rw [hT p hp] at e
        cases e
        exact .inr (.inl ⟨((C p hp).tab (hT p hp)).isCodeTable, rfl, #[], more, rfl, by rw [Array.empty_append]; exact hm⟩)
      · exact .inl (key b o hb e)
    · by_cases hb : b ∈ cs.map (·.2)
      · obtain ⟨p, hp, rfl⟩ := List.mem_map.mp hb
        obtain ⟨more, hm⟩ := grown p hp
        exact ⟨_, hm⟩
      · exact ⟨o, key b o hb e⟩
theorem walkGT {l : PySem.W.OpenLaw} {n k : Nat} {q : Program} {loose : List Str} {XP : (Str → Option Value) → Heap → Prop} {YP : World → Heap → Prop} {d : DefRec} {sp : PySem.W.Frag → Sp} {mk : List Str} {x : Str}
    (hn : l.most = some n) (hn2 : n ≤ sizeLine) (hdf : d.params.defaults = []) (hr : Room k callerA)
    (F : ∀ (w : World) (mg : Str → Option Value) (fa : Addr) (h : Heap), YP w h → h.Ns mainGlobals mg → mg d.name = some (.ref fa) →
      ∃ (K : PySem.W.Frag) (fd : FuncData), K.In h ∧ (∀ y ∈ mk, LamSays K h y) ∧ (∀ (s : Shared) (u : Value), BindsTo s fd ⟨[u], []⟩ [(x, u)]) ∧
        ∀ base : Heap, K.In base → base.Ns mainGlobals mg → (∀ y ∈ mk, TabB base mg (pcode K y) (ptab K y)) → G.FnG l.prog w K mg base k fa fd [x] (sp K))
    (hsp : ∀ (K : PySem.W.Frag) (H : Hp) (a : Addr) (ns : List Int), ns.length ≤ n → (∀ y ∈ mk, H (ptab K y) = some (.tbl #[])) → SqL K H a (ns.map V.int) → sp K [.ref a] H (fun v _ => v = .bl true) fun _ _ _ => False) :
    PySem.W.WalkO q loose XP YP l.row.toRowW d [] (fun f vs => PySem.call f vs) := by
  refine Att.attach_call hn hdf fun w s₀ s₁ mg mb fa o pm cd doc a vs ns T Y ho hd hcd hmg hobj hints hlen hg => ?_
  obtain ⟨K, fd, KX, ls, hb, hF⟩ := F w mg fa _ Y T.T.g hmg
  have all : ∀ {Pr : Addr × Addr → Prop}, (∀ y ∈ mk, Pr (pcode K y, ptab K y)) → ∀ p ∈ mk.map (fun y => (pcode K y, ptab K y)), Pr p := fun h p hp => by
    obtain ⟨y, hy, rfl⟩ := List.mem_map.mp hp
    exact h y hy
  have back : ∀ {Pr : Addr × Addr → Prop}, (∀ p ∈ mk.map (fun y => (pcode K y, ptab K y)), Pr p) → ∀ y ∈ mk, Pr (pcode K y, ptab K y) := fun h y hy => h _ (List.mem_map.mpr ⟨y, hy, rfl⟩)
  exact endT (cs := mk.map fun y => (pcode K y, ptab K y)) KX T.T.g T.T.b T.T.builtins T.T.nolimit hg (all fun y hy => (ls y hy).em) (all fun y hy => (ls y hy).no) (all fun y hy => (ls y hy).hd) T.T.bmain hobj hints (Nat.le_trans hlen hn2) hr
    (fun base h1 h2 h3 => hF base h1 h2 (back (Pr := fun p => TabB base mg p.1 p.2) h3)) hb fun H h1 => hsp _ H a ns hlen (back (Pr := fun p => H p.2 = some (.tbl #[])) h1)
end
/-- a def by its body, its code object told -/
theorem okGT {P : Program} {w : World} {K : PySem.W.Frag} {mg : Str → Option Value} {base : Heap} {k : Nat} {f c : Addr} {fd : FuncData} {N ps : List Str} {sp : Sp} {x qual : Str} {st : Stmt} (F : Fun K x qual st f fd) (hc : cdOf K f = some c) (S : FnScope N ps (defScope st)) (plen : ∀ us H Q E, sp us H Q E → us.length = ps.length)
    (body : ∀ (A : Around) (outer : List Env) (s : Shared) (H : Hp) (vs : List V) (Q : VK) (E : XK), Room k (A.deeper (envOfC qual (defScope st) s.heap.objs.size f (.ref c))) →
      (A.deeper (envOfC qual (defScope st) s.heap.objs.size f (.ref c))).guards = some [] → sp vs H Q E →
      ∃ t, PSs (cxOf CX0 P w K mg base N qual (defScope st) f (.ref c) A outer s H E).nox (defBody st) t ∧ t { nx := fun _ H' => Q .non H', rt := Q } (start N vs) H) : G.FnG P w K mg base (k + 1) f fd ps sp := by
  obtain ⟨oc, od, kV, doc, pm, an, cdv, ct, osl, rfl, lk, hcd⟩ := F.ex
  have e : cdv = .ref c := by
    unfold cdOf at hc
    rw [lk] at hc
    dsimp only at hc
    cases cdv <;> first | (cases hc; rfl) | cases hc
  subst e
  constructor
  · exact plen
  intro A outer s H args us vs Q E hr hgd e0 hb r hsp
  have old : K.In s.heap := e0.mod.kin.keeps fun b o z => (e0.bs b o z).1
  have nolim : s.heap.NoLimit := e0.mod.nolimit.keeps fun b o z => (e0.bs b o z).1
  have kinds : ∀ y ∈ ps.zip us, (defScope st).names.lookup y.1 = some .local ∨ ((defScope st).names.lookup y.1 = some .cell ∧ ((cellsFrom (s.heap.objs.size + 1) (defScope st).names []).lookup y.1).isSome = true) := by
    rintro ⟨n, v⟩ hy
    rcases S.par n (List.of_mem_zip hy).1 with q | q
    · exact Or.inl q
    · exact Or.inr ⟨q, PySem.W.cellsFrom_some _ _ _ (Or.inl q)⟩
  obtain ⟨t, ht, hq⟩ := body A outer s H vs Q E (hr.deeper _) (G.gd_deeper _ hgd) hsp
  refine codeAny_call_function hr.depth (old _ _ lk) rfl S.co S.gen rfl (PySem.W.codeRec_of old hcd) (hb _ _ _ _ (wpAny_newFunctionEnv_cells S.kind kinds fun env he s1 x => ?_))
  cases he
  have I : Inv (cxOf CX0 P w K mg base N qual (defScope st) f (.ref c) A outer s H E) [] (start N vs) H s1 := inv_start S hr.hd e0 (plen _ _ _ _ hsp) r x
  refine ⟨nolim.keeps x.toInCall.keep, codeAny_func (wpAny_mono (ht.nox.run [] s1 (start N vs) H _ I hq) ?_ fun _ _ z => z)⟩
  intro fl s2 z
  match fl, z with
  | .ret u, ⟨v, _, H2, J, rv, q⟩ => exact ⟨v, H2, J.os, J.bare, J.base, J.hok, rv, q⟩
  | .next, ⟨_, H2, J, q⟩ => exact ⟨V.non, H2, J.os, J.bare, J.base, J.hok, rfl, q⟩
  | .brk, ⟨_, _, _, q⟩ => exact q.elim
  | .cont, ⟨_, _, _, q⟩ => exact q.elim
end LX
namespace LM
/-! ### sums over places -/
def sm (f : Nat → Int) : Nat → Int
  | 0 => 0
  | n + 1 => sm f n + f n
def sg (f : Nat → Int) (b e : Nat) : Int := sm f e - sm f b
theorem sg_self (f : Nat → Int) (b : Nat) : sg f b b = 0 := by unfold sg; omega
theorem sg_succ (f : Nat → Int) (b e : Nat) : sg f b (e + 1) = sg f b e + f e := by
  unfold sg
  have : sm f (e + 1) = sm f e + f e := rfl
  omega
theorem sg_add (f : Nat → Int) (b m e : Nat) : sg f b m + sg f m e = sg f b e := by unfold sg; omega
theorem sg_one (f : Nat → Int) (b : Nat) : sg f b (b + 1) = f b := by rw [sg_succ, sg_self]; omega
theorem sg_le {f g : Nat → Int} {b : Nat} : ∀ {e : Nat}, b ≤ e → (∀ i, b ≤ i → i < e → f i ≤ g i) → sg f b e ≤ sg g b e
  | 0, h, _ => by
    have : b = 0 := by omega
    subst this
    rw [sg_self, sg_self]
    exact Int.le_refl _
  | e + 1, h, q => by
    by_cases c : b = e + 1
    · rw [c, sg_self, sg_self]
      exact Int.le_refl _
    · have ih := sg_le (f := f) (g := g) (b := b) (e := e) (by omega) fun i h1 h2 => q i h1 (by omega)
      have := q e (by omega) (by omega)
      rw [sg_succ, sg_succ]
      omega
theorem sg_congr {f g : Nat → Int} {b e : Nat} (h : b ≤ e) (q : ∀ i, b ≤ i → i < e → f i = g i) : sg f b e = sg g b e := by
  have h1 := sg_le h fun i a c => Int.le_of_eq (q i a c)
  have h2 := sg_le h fun i a c => Int.le_of_eq (q i a c).symm
  omega
theorem sg_subc (f : Nat → Int) (c : Int) {b : Nat} : ∀ {e : Nat}, b ≤ e → sg (fun i => f i - c) b e = sg f b e - c * ((e : Int) - (b : Int))
  | 0, h => by
    have : b = 0 := by omega
    subst this
    rw [sg_self, sg_self]
    simp
  | e + 1, h => by
    by_cases q : b = e + 1
    · rw [q, sg_self, sg_self, Int.sub_self]
      omega
    · have ih := sg_subc f c (b := b) (e := e) (by omega)
      rw [sg_succ, sg_succ, ih]
      have : c * (((e + 1 : Nat) : Int) - (b : Int)) = c * ((e : Int) - (b : Int)) + c := by
        rw [show ((e + 1 : Nat) : Int) - (b : Int) = ((e : Int) - (b : Int)) + 1 by omega, Int.mul_add, Int.mul_one]
      omega
theorem sg_neg (f : Nat → Int) {b : Nat} : ∀ {e : Nat}, b ≤ e → sg (fun i => - f i) b e = - sg f b e
  | 0, h => by
    have : b = 0 := by omega
    subst this
    rw [sg_self, sg_self]
    rfl
  | e + 1, h => by
    by_cases q : b = e + 1
    · rw [q, sg_self, sg_self]; rfl
    · have ih := sg_neg f (b := b) (e := e) (by omega)
      rw [sg_succ, sg_succ, ih]
      omega
/-- y - f -/
theorem sg_rsubc (f : Nat → Int) (c : Int) {b e : Nat} (h : b ≤ e) : sg (fun i => c - f i) b e = c * ((e : Int) - (b : Int)) - sg f b e := by
  have h1 := sg_neg (fun i => f i - c) h
  rw [sg_subc f c h] at h1
  rw [show (fun i => c - f i) = fun i => -(f i - c) by funext i; omega, h1]
  omega
def ab (x : Int) : Int := if x < 0 then -x else x
theorem ab_ge (x : Int) : x ≤ ab x ∧ -x ≤ ab x ∧ 0 ≤ ab x := by
  unfold ab
  split <;> omega
theorem ab_pos {x : Int} (h : 0 ≤ x) : ab x = x := by unfold ab; rw [if_neg (by omega)]
theorem ab_neg {x : Int} (h : x ≤ 0) : ab x = -x := by
  unfold ab
  split <;> omega
def Mon (a : Nat → Int) (n : Nat) : Prop := ∀ i j, i ≤ j → j < n → a i ≤ a j
/-- what the values from b to e lose if c is shown -/
def lossAt (a : Nat → Int) (c : Int) (b e : Nat) : Int := sg (fun i => ab (a i - c)) b e
/-- the least loss of a stretch -/
def cs (a : Nat → Int) (b e : Nat) : Int := lossAt a (a ((b + e) / 2)) b e
theorem lossAt_add (a : Nat → Int) (c : Int) (b m e : Nat) : lossAt a c b m + lossAt a c m e = lossAt a c b e := sg_add _ b m e
theorem lossAt_nonneg (a : Nat → Int) (c : Int) {b e : Nat} (h : b ≤ e) : 0 ≤ lossAt a c b e := by
  have := sg_le (f := fun _ => 0) (g := fun i => ab (a i - c)) h fun i _ _ => (ab_ge _).2.2
  have z := sg_subc (fun _ => (0 : Int)) 0 h
  simp at z
  have z2 : sg (fun _ => (0 : Int)) b e = 0 := by
    have : ∀ n, sm (fun _ => (0 : Int)) n = 0 := by
      intro n
      induction n with
      | zero => rfl
      | succ n ih =>
        show sm _ n + 0 = 0
        rw [ih]; rfl
    unfold sg
    rw [this, this]; rfl
  unfold lossAt
  omega
theorem loss_up {a : Nat → Int} {n : Nat} (M : Mon a n) {m e : Nat} (h : m ≤ e) (he : e ≤ n) : lossAt a (a m) m e = sg a m e - a m * ((e : Int) - (m : Int)) := by
  unfold lossAt
  rw [← sg_subc a (a m) h]
  exact sg_congr h fun i h1 h2 => ab_pos (by have := M m i h1 (by omega); omega)
theorem loss_dn {a : Nat → Int} {n : Nat} (M : Mon a n) {b m : Nat} (h : b ≤ m) (he : m < n) : lossAt a (a m) b m = a m * ((m : Int) - (b : Int)) - sg a b m := by
  unfold lossAt
  rw [← sg_rsubc a (a m) h]
  refine sg_congr h fun i h1 h2 => ?_
  have := M i m (by omega) he
  rw [ab_neg (by omega)]
  omega
theorem mid_bd {b e : Nat} (h : b < e) : b ≤ (b + e) / 2 ∧ (b + e) / 2 < e := by omega
/-- the program's sums -/
theorem cs_sums {a : Nat → Int} {n : Nat} (M : Mon a n) {b e : Nat} (h : b < e) (he : e ≤ n) :
    cs a b e = (sm a e - sm a ((b + e) / 2) - a ((b + e) / 2) * ((e : Int) - ((b + e) / 2 : Nat))) + (a ((b + e) / 2) * (((b + e) / 2 : Nat) - (b : Int)) - sm a ((b + e) / 2) + sm a b) := by
  obtain ⟨h1, h2⟩ := mid_bd h
  unfold cs
  generalize (b + e) / 2 = m at *
  rw [← lossAt_add a (a m) b m e, loss_up M (by omega) he, loss_dn M h1 (by omega)]
  unfold sg
  omega
theorem cs_le {a : Nat → Int} {n : Nat} (M : Mon a n) {b e : Nat} (h : b < e) (he : e ≤ n) (y : Int) : cs a b e ≤ lossAt a y b e := by
  obtain ⟨h1, h2⟩ := mid_bd h
  have hk : (e - (b + e) / 2 = (b + e) / 2 - b) ∨ (e - (b + e) / 2 = (b + e) / 2 - b + 1) := by omega
  unfold cs
  generalize (b + e) / 2 = m at *
  rw [← lossAt_add a (a m) b m e, loss_up M (by omega) he, loss_dn M h1 (by omega), ← lossAt_add a y b m e]
  have u1 : sg a m e - y * ((e : Int) - (m : Int)) ≤ lossAt a y m e := by
    rw [← sg_subc a y (by omega)]
    exact sg_le (by omega) fun i _ _ => (ab_ge _).1
  have u2 : y * ((m : Int) - (b : Int)) - sg a b m ≤ lossAt a y b m := by
    rw [← sg_rsubc a y h1]
    exact sg_le h1 fun i _ _ => by have := (ab_ge (a i - y)).2.1; omega
  obtain ⟨q, hq⟩ : ∃ q : Nat, m = b + q := ⟨m - b, by omega⟩
  have e1 : (m : Int) - (b : Int) = (q : Int) := by omega
  rw [e1] at u2 ⊢
  rcases hk with hk | hk
  · have e2 : (e : Int) - (m : Int) = (q : Int) := by omega
    rw [e2] at u1 ⊢
    omega
  · have e2 : (e : Int) - (m : Int) = (q : Int) + 1 := by omega
    rw [e2, Int.mul_add, Int.mul_one] at u1 ⊢
    by_cases c : y ≤ a m
    · omega
    · have u3 : sg a m e - y * ((q : Int) + 1) + 2 * (y - a m) ≤ lossAt a y m e := by
        have z1 : lossAt a y m e = ab (a m - y) + lossAt a y (m + 1) e := by
          rw [← lossAt_add a y m (m + 1) e]
          unfold lossAt
          rw [sg_one]
        have z2 : sg a m e = a m + sg a (m + 1) e := by rw [← sg_add a m (m + 1) e, sg_one]
        have z3 : sg a (m + 1) e - y * ((e : Int) - ((m + 1 : Nat) : Int)) ≤ lossAt a y (m + 1) e := by
          rw [← sg_subc a y (by omega)]
          exact sg_le (by omega) fun i _ _ => (ab_ge _).1
        have z4 := (ab_ge (a m - y)).2.1
        have e3 : (e : Int) - ((m + 1 : Nat) : Int) = (q : Int) := by omega
        rw [e3] at z3
        rw [Int.mul_add, Int.mul_one]
        omega
      rw [Int.mul_add, Int.mul_one] at u3
      omega
/-- a stretch cut into two loses no more -/
theorem cs_cut {a : Nat → Int} {n : Nat} (M : Mon a n) {b m e : Nat} (h1 : b < m) (h2 : m < e) (he : e ≤ n) : cs a b m + cs a m e ≤ cs a b e := by
  have z1 := cs_le M h1 (by omega) (a ((b + e) / 2))
  have z2 := cs_le M h2 he (a ((b + e) / 2))
  have z3 := lossAt_add a (a ((b + e) / 2)) b m e
  unfold cs at *
  omega
theorem cs_nonneg (a : Nat → Int) {b e : Nat} (h : b ≤ e) : 0 ≤ cs a b e := lossAt_nonneg a _ h
/-! ### the least of some -/
def lmin : List Int → Option Int
  | [] => none
  | x :: r => match lmin r with
    | none => some x
    | some y => some (if y < x then y else x)
theorem lmin_none {xs : List Int} : lmin xs = none ↔ xs = [] := by
  cases xs with
  | nil => exact ⟨fun _ => rfl, fun _ => rfl⟩
  | cons x r =>
    refine ⟨fun h => ?_, fun h => by cases h⟩
    unfold lmin at h
    split at h <;> cases h
theorem lmin_out : ∀ {xs : List Int} {v : Int}, lmin xs = some v → v ∈ xs ∧ ∀ w ∈ xs, v ≤ w
  | [], v, h => by cases h
  | x :: r, v, h => by
    unfold lmin at h
    split at h
    · rename_i e
      cases h
      rw [lmin_none] at e
      subst e
      simp
    · rename_i y e
      obtain ⟨h1, h2⟩ := lmin_out e
      cases h
      refine ⟨?_, fun w hw => ?_⟩
      · split
        · exact List.mem_cons_of_mem _ h1
        · exact List.mem_cons_self
      · rcases List.mem_cons.mp hw with rfl | hw
        · split <;> omega
        · have := h2 w hw
          split <;> omega
theorem lmin_in {xs : List Int} {v : Int} (h1 : v ∈ xs) (h2 : ∀ w ∈ xs, v ≤ w) : lmin xs = some v := by
  cases e : lmin xs with
  | none => rw [lmin_none] at e; subst e; cases h1
  | some u =>
    obtain ⟨h3, h4⟩ := lmin_out e
    have := h2 u h3
    have := h4 v h1
    congr 1
    omega
/-- two lists of which each has one below each of the other -/
theorem lmin_eq {xs ys : List Int} (h1 : ∀ x ∈ xs, ∃ y ∈ ys, y ≤ x) (h2 : ∀ y ∈ ys, ∃ x ∈ xs, x ≤ y) : lmin xs = lmin ys := by
  cases e : lmin ys with
  | none =>
    rw [lmin_none] at e ⊢
    subst e
    cases xs with
    | nil => rfl
    | cons x r => obtain ⟨y, hy, _⟩ := h1 x List.mem_cons_self; cases hy
  | some v =>
    obtain ⟨h3, h4⟩ := lmin_out e
    obtain ⟨x, hx, hxv⟩ := h2 v h3
    have e2 : x = v := by
      obtain ⟨y, hy, hyx⟩ := h1 x hx
      have := h4 y hy
      omega
    subst e2
    refine lmin_in hx fun w hw => ?_
    obtain ⟨y, hy, hyw⟩ := h1 w hw
    have := h4 y hy
    omega
/-! ### the least losses of the first values -/
def put (t : List (Option Int)) (b : Nat) : Option Int := (t[b]?).getD none
/-- what each begin gives -/
def cand (c : Nat → Nat → Int) (t : List (Option Int)) (lo hi e : Nat) : List Int := (List.range' lo (hi - lo)).filterMap fun b => (put t b).map (· + c b e)
def tab (c : Nat → Nat → Int) (s : Nat) : Nat → List (Option Int)
  | 0 => [some 0]
  | n + 1 => tab c s n ++ [lmin (cand c (tab c s n) 0 (n + 2 - s) (n + 1))]
theorem tab_len (c : Nat → Nat → Int) (s n : Nat) : (tab c s n).length = n + 1 := by
  induction n with
  | zero => rfl
  | succ n ih =>
    show (tab c s n ++ [_]).length = _
    rw [List.length_append, ih]
    rfl
def F (c : Nat → Nat → Int) (s e : Nat) : Option Int := put (tab c s e) e
theorem tab_at (c : Nat → Nat → Int) (s : Nat) : ∀ {n i : Nat}, i ≤ n → (tab c s n)[i]? = some (F c s i)
  | 0, i, h => by
    have : i = 0 := by omega
    subst this
    rfl
  | n + 1, i, h => by
    by_cases e : i = n + 1
    · subst e
      have l := tab_len c s (n + 1)
      unfold F put
      rw [List.getElem?_eq_getElem (by omega)]
      rfl
    · show (tab c s n ++ [_])[i]? = _
      rw [List.getElem?_append_left (by rw [tab_len]; omega)]
      exact tab_at c s (by omega)
theorem put_tab (c : Nat → Nat → Int) (s : Nat) {n i : Nat} (h : i ≤ n) : put (tab c s n) i = F c s i := by
  unfold put
  rw [tab_at c s h]
  rfl
theorem mem_cand {c : Nat → Nat → Int} {t : List (Option Int)} {lo hi e : Nat} {x : Int} : x ∈ cand c t lo hi e ↔ ∃ b u, lo ≤ b ∧ b < hi ∧ put t b = some u ∧ x = u + c b e := by
  unfold cand
  rw [List.mem_filterMap]
  constructor
  · rintro ⟨b, hb, h⟩
    rw [List.mem_range'_1] at hb
    cases q : put t b with
    | none => rw [q] at h; cases h
    | some u =>
      rw [q] at h
      cases h
      exact ⟨b, u, hb.1, by omega, q, rfl⟩
  · rintro ⟨b, u, h1, h2, h3, rfl⟩
    exact ⟨b, List.mem_range'_1.mpr ⟨h1, by omega⟩, by rw [h3]; rfl⟩
theorem F_zero (c : Nat → Nat → Int) (s : Nat) : F c s 0 = some 0 := rfl
theorem F_succ (c : Nat → Nat → Int) (s n : Nat) : F c s (n + 1) = lmin (cand c (tab c s n) 0 (n + 2 - s) (n + 1)) := by
  show put (tab c s n ++ [_]) (n + 1) = _
  unfold put
  rw [List.getElem?_append_right (by rw [tab_len]; omega), tab_len, Nat.sub_self]
  rfl
section
variable {c : Nat → Nat → Int} {s : Nat} (hs : 1 ≤ s)
include hs
theorem F_mem {e : Nat} {v : Int} (h0 : 0 < e) (h : F c s e = some v) : ∃ b u, b + s ≤ e ∧ F c s b = some u ∧ v = u + c b e := by
  obtain ⟨n, rfl⟩ : ∃ n, e = n + 1 := ⟨e - 1, by omega⟩
  rw [F_succ] at h
  obtain ⟨b, u, h1, h2, h3, h4⟩ := mem_cand.mp (lmin_out h).1
  rw [put_tab c s (by omega)] at h3
  exact ⟨b, u, by omega, h3, h4⟩
theorem F_le {b e : Nat} {u : Int} (h : b + s ≤ e) (hb : F c s b = some u) : ∃ v, F c s e = some v ∧ v ≤ u + c b e := by
  obtain ⟨n, rfl⟩ : ∃ n, e = n + 1 := ⟨e - 1, by omega⟩
  rw [F_succ]
  have m : u + c b (n + 1) ∈ cand c (tab c s n) 0 (n + 2 - s) (n + 1) := mem_cand.mpr ⟨b, u, Nat.zero_le _, by omega, by rw [put_tab c s (by omega)]; exact hb, rfl⟩
  cases q : lmin (cand c (tab c s n) 0 (n + 2 - s) (n + 1)) with
  | none => rw [lmin_none] at q; rw [q] at m; cases m
  | some v => exact ⟨v, rfl, (lmin_out q).2 _ m⟩
/-- stretches of fewer than twice the size are enough -/
theorem F_near {n N : Nat} (hc : ∀ b m e, b < m → m < e → e ≤ N → c b m + c m e ≤ c b e) (hn : n + 1 ≤ N) : lmin (cand c (tab c s n) (n + 2 - 2 * s) (n + 2 - s) (n + 1)) = F c s (n + 1) := by
  rw [F_succ]
  refine lmin_eq (fun x hx => ?_) (fun y hy => ?_)
  · obtain ⟨b, u, h1, h2, h3, h4⟩ := mem_cand.mp hx
    exact ⟨x, mem_cand.mpr ⟨b, u, Nat.zero_le _, h2, h3, h4⟩, Int.le_refl _⟩
  · obtain ⟨b, u, h1, h2, h3, rfl⟩ := mem_cand.mp hy
    by_cases q : n + 2 - 2 * s ≤ b
    · exact ⟨_, mem_cand.mpr ⟨b, u, q, h2, h3, rfl⟩, Int.le_refl _⟩
    · rw [put_tab c s (by omega)] at h3
      obtain ⟨v, hv, hle⟩ := F_le hs (e := n + 1 - s) (by omega) h3
      refine ⟨v + c (n + 1 - s) (n + 1), mem_cand.mpr ⟨n + 1 - s, v, by omega, by omega, by rw [put_tab c s (by omega)]; exact hv, rfl⟩, ?_⟩
      have := hc b (n + 1 - s) (n + 1) (by omega) (by omega) hn
      omega
theorem F_one {n : Nat} (h : n = 0 ∨ s ≤ n) : ∃ v, F c s n = some v := by
  by_cases h0 : n = 0
  · subst h0; exact ⟨0, rfl⟩
  · obtain ⟨v, h1, _⟩ := F_le (c := c) hs (b := 0) (e := n) (by omega) (F_zero c s)
    exact ⟨v, h1⟩
end
/-! ### in how many ways -/
def wcond (c : Nat → Nat → Int) (s : Nat) (b e : Nat) : Bool := match F c s b with
  | none => false
  | some u => decide (some (u + c b e) = F c s e)
def wtab (c : Nat → Nat → Int) (s : Nat) : Nat → List Int
  | 0 => [1]
  | n + 1 => wtab c s n ++ [(((List.range (n + 2 - s)).filter fun b => wcond c s b (n + 1)).map fun b => ((wtab c s n)[b]?).getD 0).sum]
/-! ### how many are at most so much, of rising ones -/
end LM
namespace ET
open PySem PySem.Spec PyProof.Rows L2
/-! ### enumerate of a tuple -/
set_option maxHeartbeats 1000000 in
theorem newB1 {u : Value} {ob : Obj} {Hh : Heap → Prop} (B : Begins u ob Hh) :
    Meets (Builtin.«enumerate.__new__» ⟨[.type "enumerate", u], []⟩) (fun _ R s => Hh s.heap ∧
      R (.ok (.ret (.ref (s.heap.push ob).objs.size))) { s with heap := (s.heap.push ob).push { cls := .type "enumerate", data := .fields #[.none, .bool false, .ref s.heap.objs.size, rawInt 0, .none, .none] } }) :=
  .of_wp fun prog w A R s hh => by
    obtain ⟨hp, gg, dd, tk, os⟩ := s; obtain ⟨h1, h⟩ := hh
    have hsub := sub_enumerate
    have hbeg : ∀ {A' : Around} {E : Value → Shared → Prop} {Q : Value → Shared → Prop}, Q (.ref hp.objs.size) ⟨hp.push ob, gg, dd, tk, os⟩ → wpAny (model prog w) A' (pyIter u) Q E ⟨hp, gg, dd, tk, os⟩ :=
      fun q => B.iter prog w _ _ ⟨hp, gg, dd, tk, os⟩ _ h1 q
    wp_walk using hbeg
    refine wpAny_stack_any fun st => wpAny_pure ?_
    split
    · rename_i cl _ _ _ _ _
      cases (cl == Value.type "enumerate")
      · wp_walk using hbeg
        exact ⟨_, rfl, h⟩
      · wp_walk using hbeg
        exact ⟨_, rfl, h⟩
    · wp_walk using hbeg
      exact ⟨_, rfl, h⟩
theorem call_enumB {prog : Program} {w : World} {A : Around} {E : Value → Shared → Prop} {s : Shared} {u : Value} {ob : Obj} {Hh : Heap → Prop} {Q : Value → Shared → Prop} (B : Begins u ob Hh) (h1 : Hh s.heap)
    (h : ∀ h', IsEnum h' (s.heap.objs.size + 1) s.heap.objs.size 0 .none → h'.get? s.heap.objs.size = some ob → (∀ b o, s.heap.get? b = some o → h'.get? b = some o) → Q (.ref (s.heap.objs.size + 1)) { s with heap := h' }) :
    wpAny (model prog w) A (call (.type "enumerate") [u]) Q E s := by
  refine callType_new F.called_enumerate (by decide) (F.typeCall_enumerate_1 _) (F.newCall_enumerate_1 _) (fun oo => F.args_object_init_2 oo _) F.entry_enumerate_new (newB1 B) ⟨h1, ?_⟩
  have sz : (s.heap.push ob).objs.size = s.heap.objs.size + 1 := Heap.size_push ..
  show _ ∧ _
  rw [sz]
  have en : IsEnum ((s.heap.push ob).push { cls := .type "enumerate", data := .fields #[.none, .bool false, .ref s.heap.objs.size, rawInt 0, .none, .none] }) (s.heap.objs.size + 1) s.heap.objs.size 0 .none := by
    have z := Heap.get?_push_size (s.heap.push ob) (o := { cls := .type "enumerate", data := .fields #[.none, .bool false, .ref s.heap.objs.size, rawInt 0, .none, .none] }) rfl
    rw [sz] at z; exact z
  refine ⟨⟨_, en, rfl⟩, h _ en (Heap.get?_push_of_some _ (Heap.get?_push_size _ B.free)) fun b o e => Heap.get?_push_of_some _ (Heap.get?_push_of_some _ e)⟩
def IteT (K : PySem.W.Frag) (a : Addr) : It :=
  ⟨fun i H => ∃ (xs : List V) (x : V), SqT K H a xs ∧ xs[i]? = some x, fun i H v H' => ∃ T x, v = .ref T ∧ H T = none ∧ H' = upd H T (.tup [.int ((i : Nat) : Int), x]) ∧ ∀ xs, SqT K H a xs → xs[i]? = some x, fun i H => ∃ xs : List V, SqT K H a xs ∧ xs.length = i⟩
theorem turn_enumT {P : Program} {w : World} {K : PySem.W.Frag} {elts : List Expr} {kk : Nat} {tpos : Pos} (a e it : Addr) :
    Turn P w K (.Tuple elts kk tpos) (IteT K a) [e, it] e (fun i h => (∃ old, IsEnum h e it ((i : Nat) : Int) old) ∧ h.IsTupleIter it a i ∧ e ≠ it ∧ a ≠ it ∧ a ≠ e) where
  mem := List.mem_cons_self
  obj := by
    intro i h st b hb
    obtain ⟨⟨old, he⟩, ⟨o, ho, hc, hd⟩, _⟩ := st
    rcases List.mem_cons.mp hb with z | hb
    · subst z; exact ⟨_, he, fun v q => nomatch q⟩
    · rw [List.mem_singleton] at hb
      subst hb; exact ⟨o, ho, fun v q => by rw [hd] at q; cases q⟩
  keep := by
    intro i h h' st k
    obtain ⟨⟨old, he⟩, hi, hne⟩ := st
    exact ⟨⟨old, k e List.mem_cons_self _ he⟩, hi.at fun o q => k it (List.mem_cons_of_mem _ List.mem_cons_self) o q, hne⟩
  item := by
    intro X hP hw hK hc i pins s σ H E I hf st hg
    subst hP hw hK
    obtain ⟨⟨old, he⟩, hit, hne, hai, hae⟩ := st
    obtain ⟨xs, x, hq, hx⟩ := hg
    obtain ⟨its, rv, pt, hz⟩ := I.tuple hq
    obtain ⟨u, hu, ru⟩ := rv.get hx
    have hel : e < s.heap.objs.size := Heap.lt_size he
    have hil : it < s.heap.objs.size := by obtain ⟨_, q, _⟩ := hit; exact Heap.lt_size q
    have ilt : i < its.toArray.size := by
      obtain ⟨z, _⟩ := List.getElem?_eq_some_iff.mp hu
      simpa using z
    have pt' : s.heap.IsTuple a its.toArray := pt
    refine wpAny_pyNext_enum_itemC (A := X.A) (Draws.tuple (A := X.A.in1) (I.ok.hd hc) it a hai its.toArray) he ⟨hit, pt'⟩ ilt hne (by simp [hne, Ne.symm hae]) fun v h' tk ev ho hst hT hsz hk => ?_
    obtain rfl : v = u := by
      have e2 : its.toArray[i]? = some u := by simpa using hu
      rw [e2] at ev; cases ev; rfl
    refine ⟨_, rfl, wpAny_letOwnedTupleGo_enum (s := { s with heap := h', toks := tk + 1 }) ho fun h'' he' sb => ?_⟩
    have hT2 : h''.get? s.heap.objs.size = some { cls := .type "tuple", data := .seq #[.int ((i : Nat) : Int) tk, v] } := (sb.2 _ (Nat.ne_of_gt hel)).trans hT
    have new : ObjOk X.prog X.w (upd H s.heap.objs.size (.tup [.int ((i : Nat) : Int), x])) h'' s.heap.objs.size (.tup [.int ((i : Nat) : Int), x]) :=
      ⟨by show 2 ≤ sizeLine; decide, [.int ((i : Nat) : Int) tk, v], .cons ⟨_, rfl⟩ (.cons ru .nil), ⟨_, hT2, rfl, _, rfl⟩⟩
    have I1 : Inv X pins σ (upd H s.heap.objs.size (.tup [.int ((i : Nat) : Int), x])) { s with heap := h'', toks := tk + 1 } :=
      I.turnedNew (t' := tk + 1) (ch := [e, it]) (fun b ob hb q => (sb.2 b (fun z => hb (by simp [z]))).trans (hk b ob (fun z => hb (by simp [z])) (fun z => hb (by simp [z])) q)) hf (Nat.le_refl _) new
    refine ⟨.ref s.heap.objs.size, _, I1, rfl, ⟨_, x, rfl, I.hok.fresh (Nat.le_refl _), rfl, fun ys hy => by rw [I.tuple_inj hy hq]; exact hx⟩, ⟨⟨v, ?_⟩, hst.1.at fun o q => (sb.2 it (Ne.symm hne)).trans q, hne, hai, hae⟩, fun b hb => ?_⟩
    · have e1 : ((i + 1 : Nat) : Int) = (i : Int) + 1 := by omega
      rw [e1]; exact he'
    · have hb' : b < s.heap.objs.size := by
        rcases List.mem_cons.mp hb with z | hb
        · rw [z]; exact hel
        · rw [List.mem_singleton] at hb
          rw [hb]; exact hil
      rw [upd_ne (Nat.ne_of_lt hb')]
      exact (hf b hb).1
  done := by
    intro X hP hw hK hc i pins s σ H E I hf st hg
    subst hP hw hK
    obtain ⟨⟨old, he⟩, hit, hne, hai, hae⟩ := st
    obtain ⟨xs, hq, hx⟩ := hg
    obtain ⟨its, rv, pt, hz⟩ := I.tuple hq
    obtain ⟨f0, f1, f2, f3, f4, f5⟩ := hf it (List.mem_cons_of_mem _ List.mem_cons_self)
    have hl := rv.length
    have z : i = its.toArray.size := by simp; omega
    rw [z] at hit
    have pt' : s.heap.IsTuple a its.toArray := pt
    exact wpAny_pyNext_enum_endD (A := X.A) (Draws.tuple (A := X.A.in1) (I.ok.hd hc) it a hai its.toArray) he ⟨hit, pt'⟩ fun h' eb => ⟨rfl, I.turned (t' := s.toks) (fun b o hb q => eb b o hb q) f0 f1 f3 f4 f5⟩
  self := fun A i s Q E st h => by
    obtain ⟨⟨_, he⟩, _⟩ := st
    exact wpAny_pyIter_enum he h
def iEnumT (K : PySem.W.Frag) (ta : TA) : TI := fun σ H R => ta σ H fun vs H1 => ∃ a xs, vs = [.ref a] ∧ SqT K H1 a xs ∧ R (IteT K a) H1
theorem pi_enumT {X : Cx} {K : PySem.W.Frag} {e : Expr} {ta : TA} {p pos tpos : Pos} {elts : List Expr} {kk : Nat} (hK : X.K = K) (hg : Gl X "enumerate") (hm : X.mg "enumerate" = none) (ha : PA X [e] ta) (hs : starEach [e] X.env = [(false, eval e X.env)] := by rfl) :
    PI X (.Tuple elts kk tpos) (.Call (.Name "enumerate" p) [e] [] pos) (iEnumT K ta) := by
  subst hK
  constructor
  intro pins s σ H R I h
  refine Call_ (ld_blt I hg hm boot_enumerate (PyProof.Rows.callWith_type1 (thn (ha.run pos pins s σ H _ I h) fun us s1 hh => ?_) hs rfl))
  obtain ⟨vs, H1, I1, r1, a, xs, ex, hq, q⟩ := hh
  subst ex
  obtain ⟨u, rfl, ru⟩ := r1.one
  cases (show u = Value.ref a from ru)
  obtain ⟨its, rv, pt, hz⟩ := I1.tuple hq
  have la : a < s1.heap.objs.size := by obtain ⟨o, q, _⟩ := (show s1.heap.IsTuple a its.toArray from pt); exact Heap.lt_size q
  refine call_enumB (begins_tuple a its.toArray) pt fun h' he hit hk => wpAny_pyIter_enum he ?_
  have I3 : Inv X pins σ H1 { s1 with heap := h' } := I1.kept (t' := s1.toks) hk
  refine ⟨s1.heap.objs.size + 1, [s1.heap.objs.size + 1, s1.heap.objs.size], _, _, H1, rfl, I3, turn_enumT a (s1.heap.objs.size + 1) s1.heap.objs.size, ⟨⟨.none, he⟩, ⟨_, hit, rfl, rfl⟩, Nat.succ_ne_self _, Nat.ne_of_lt la, Nat.ne_of_lt (Nat.lt_succ_of_lt la)⟩, fun b hb => ?_, q⟩
  have hle : s1.heap.objs.size ≤ b := by
    rcases List.mem_cons.mp hb with z | hb
    · rw [z]; exact Nat.le_add_right _ _
    · rw [List.mem_singleton] at hb
      rw [hb]; exact Nat.le_refl _
  exact I1.fpOk hle (I1.hok.fresh hle)
theorem walk_enumT {K : PySem.W.Frag} {a : Addr} {xs : List V} : Walk (IteT K a) xs.length (fun H => SqT K H a xs) (YPair (fun i => some (.int ((i : Nat) : Int))) (fun i => xs[i]?)) := by
  refine ⟨fun i _ hi q => ⟨xs, xs[i], q, List.getElem?_eq_getElem hi⟩, fun _ q => ⟨xs, q, rfl⟩, fun i H v H' _ q y => ?_⟩
  obtain ⟨T, x, h1, h2, h3, h4⟩ := y
  exact ⟨T, .int ((i : Nat) : Int), x, h1, h2, h3, rfl, h4 xs q⟩
theorem g_iEnumT {K : PySem.W.Frag} {σ : L2.St} {H : Hp} {ta : TA} {R : It → Hp → Prop} (q : ta σ H fun vs H1 => ∃ a xs, vs = [.ref a] ∧ SqT K H1 a xs ∧ R (IteT K a) H1) : iEnumT K ta σ H R := q
end ET
namespace MD
open PySem PySem.Spec PyProof.Rows L2
/-! ### min(list, default = ..) of whole numbers -/
def rMinD (K : PySem.W.Frag) : List V → List V → Hp → VK → Prop := fun xs zs H Q => ∃ (a : Addr) (ns : List Int) (d : V), xs = [V.ref a] ∧ zs = [d] ∧ SqL K H a (ns.map V.int) ∧ (ns = [] → Q d H) ∧ ∀ m, m ∈ ns → (∀ y ∈ ns, m ≤ y) → Q (.int m) H
theorem reads_ints {h : Heap} : ∀ {ns : List Int} {its : List Value}, Vals (ns.map V.int) its → ∃ as, ReadsAll h its (ns.map PyData.int) as
  | [], _, r => by cases r; exact ⟨_, .nil⟩
  | n :: ns, _, r => by
    cases r with
    | cons r1 r2 =>
      obtain ⟨t, rfl⟩ := r1
      obtain ⟨as, q⟩ := reads_ints r2
      exact ⟨_, .cons (.int n t) q⟩
theorem foldl_min : ∀ (ns : List Int) (n : Int), ns.foldl min n ∈ n :: ns ∧ ∀ y ∈ n :: ns, ns.foldl min n ≤ y
  | [], n => ⟨List.mem_cons_self, fun y h => by rw [List.mem_singleton] at h; rw [h]; exact Int.le_refl _⟩
  | k :: r, n => by
    obtain ⟨h2, h3⟩ := foldl_min r (min n k)
    rw [List.foldl_cons]
    have z := h3 _ List.mem_cons_self
    refine ⟨?_, fun y hy => ?_⟩
    · rcases List.mem_cons.mp h2 with q | q
      · rw [q]
        rcases (show min n k = n ∨ min n k = k by omega) with e | e
        · rw [e]; exact List.mem_cons_self
        · rw [e]; exact List.mem_cons_of_mem _ List.mem_cons_self
      · exact List.mem_cons_of_mem _ (List.mem_cons_of_mem _ q)
    · rcases List.mem_cons.mp hy with rfl | hy
      · omega
      · rcases List.mem_cons.mp hy with rfl | hy
        · omega
        · exact h3 y (List.mem_cons_of_mem _ hy)
theorem alike_ints (ns : List Int) : PySem.W.AlikeAll (ns.map PyData.int) := by
  refine ⟨fun x hx y hy => ?_, fun x hx => ?_⟩
  · obtain ⟨i, _, rfl⟩ := List.mem_map.mp hx
    obtain ⟨j, _, rfl⟩ := List.mem_map.mp hy
    rfl
  · obtain ⟨i, _, rfl⟩ := List.mem_map.mp hx
    intro z
    cases z
theorem depth_ints : ∀ ns : List Int, PyData.depthAll (ns.map PyData.int) ≤ 1
  | [] => by simp [PyData.depthAll]
  | n :: r => by
    have := depth_ints r
    simp only [List.map_cons, PyData.depthAll, PyData.depth]
    omega
theorem cr_minD {X : Cx} {K : PySem.W.Frag} (hK : X.K = K) (hc : X.calm = true) (hu : X.A.units + 64 < cLine) : CallRK X (.builtin "min") [Str.ofString "default"] (rMinD K) := by
  subst hK
  intro pins s σ H xs zs us ws Q I r rz h
  obtain ⟨a, ns, d, rfl, rfl, hs, h0, h1⟩ := h
  obtain ⟨u, rfl, ru⟩ := r.one
  cases (show u = Value.ref a from ru)
  obtain ⟨w, rfl, rw1⟩ := rz.one
  obtain ⟨its, rv, hl, _⟩ := I.list hs
  obtain ⟨as, rd⟩ := reads_ints (h := s.heap) rv
  have dd := depth_ints ns
  refine PySem.W.min_list_default (xs := ns.map PyData.int) (as := as) (I.ok.hd hc) hl.isList rd (alike_ints ns) (by omega) (fun e h' tk hk => ?_) fun y ys i v h' tk bs e hv hrd hk => ?_
  · have e : ns = [] := by
      cases ns with
      | nil => rfl
      | cons => cases e
    exact ⟨d, H, I.kept (t' := tk) hk, rw1, h0 e⟩
  · cases ns with
    | nil => cases e
    | cons n r =>
      rw [List.map_cons] at e
      injection e with e1 e2
      subst e1 e2
      rw [PySem.W.minD_ints] at hrd
      obtain ⟨m1, m2⟩ := foldl_min r n
      generalize r.foldl min n = m at hrd m1 m2
      obtain ⟨t, rfl⟩ : ∃ t, v = Value.int m t := by cases hrd; exact ⟨_, rfl⟩
      exact ⟨.int m, H, I.kept (t' := tk) hk, ⟨t, rfl⟩, h1 m m1 m2⟩
theorem g_minD {K : PySem.W.Frag} {a : Addr} {ns : List Int} {H : Hp} {Q : VK} {d : V} (hs : SqL K H a (ns.map V.int)) (q0 : ns = [] → Q d H) (q1 : ∀ m, m ∈ ns → (∀ y ∈ ns, m ≤ y) → Q (.int m) H) : rMinD K [V.ref a] [d] H Q := ⟨a, ns, d, rfl, rfl, hs, q0, q1⟩
theorem g_ckw {r : List V → List V → Hp → VK → Prop} {t tk : TA} {σ : L2.St} {H : Hp} {Q : VK} (q : t σ H fun vs H1 => tk σ H1 fun zs H2 => r vs zs H2 Q) : tCKw r t tk σ H Q := q
end MD
namespace U
open PySem PySem.Spec PyProof.Rows L2
/-! ### range from a begin, sorted, slices -/
section
variable {σ : L2.St} {H : Hp} {Q : VK} {D : Ends} {K : PySem.W.Frag}
theorem g_iRng2 {ta : TA} {R : It → Hp → Prop} (q : ta σ H fun vs H1 => ∃ i j : Int, vs = [.int i, .int j] ∧ (-(2 ^ 62) ≤ i ∧ i < 2 ^ 62 ∧ -(2 ^ 62) ≤ j ∧ j < 2 ^ 62) ∧ R (Itr i (j - i).toNat) H1) : iRng2 ta σ H R := q
theorem e_rng2 {i j : Int} {R : It → Hp → Prop} (h : -1000000 ≤ i ∧ i ≤ 1000000 ∧ -1000000 ≤ j ∧ j ≤ 1000000) (q : R (Itr i (j - i).toNat) H) : ∃ a b : Int, [V.int i, V.int j] = [.int a, .int b] ∧ (-(2 ^ 62) ≤ a ∧ a < 2 ^ 62 ∧ -(2 ^ 62) ≤ b ∧ b < 2 ^ 62) ∧ R (Itr a (b - a).toNat) H := ⟨i, j, rfl, by omega, q⟩
theorem lcI_rg {g : TG} {tt : TT} {te : TE} {vs : List Nat} {lo : Int} {n : Nat} (hn : n ≤ 1000000) (f : Nat → Option V)
    (turn : ∀ i H' (A : VK) (B : Hp → Prop), i < n → Same H H' → (∀ y H4, f i = some y → Same H' H4 → A y H4) → (f i = none → ∀ H3, Same H' H3 → B H3) →
      g (.int (lo + (i : Int))) (wipe σ vs) H' fun σ2 H2 => wipe σ2 vs = wipe σ vs ∧ tt σ2 H2 fun b H3 => if b = true then te σ2 H3 A else B H3)
    (k : ∀ E H', H E = none → Same H H' → H' E = some (.lst ((List.range n).filterMap f)) → Q (.ref E) H') : lcI σ vs g tt te Q (Itr lo n) H := by
  refine lcI_same walk_range hn f (fun _ _ => trivial) (fun i H' x H'' y => by rw [y.1]; exact Same.refl _) (fun i x H' H'' A B hi s y kA kB => ?_) k
  obtain ⟨rfl, rfl⟩ := y
  exact turn i H'' A B hi s kA kB
theorem call_uSortP {X : Cx} (hK : X.K = K) : CallR X (.builtin "sorted") (rSortedPO K) := by subst hK; exact cr_sortedPO
theorem g_maxL {p : Addr} {ns : List Int} (h : SqL K H p (ns.map V.int)) (hl : 0 < ns.length) (q : ∀ m, m ∈ ns → (∀ y, y ∈ ns → y ≤ m) → Q (.int m) H) : rMax K [.ref p] H Q := ⟨p, ns, rfl, h, hl, q⟩
theorem g_par3 {i j l : Nat} {ta : TA} (q : ta σ H fun vs H1 => ∃ u v w, vs = [u, v, w] ∧ D.nx (((σ.set i (some u)).set j (some v)).set l (some w)) H1) : tPar3 i j l ta D σ H := q
theorem e_three {u v w : V} {R : V → V → V → Prop} (q : R u v w) : ∃ x y z, [u, v, w] = [x, y, z] ∧ R x y z := ⟨u, v, w, rfl, q⟩
end
theorem cut_mid {xs : List V} {b e : Nat} (he : e ≤ xs.length) (hb : b ≤ e) : cutV xs (some (b : Int)) (some (e : Int)) = (xs.drop b).take (e - b) := by
  unfold cutV
  rw [HT.sIx_nat, HT.sIx_nat, show min b xs.length = b by omega, show min e xs.length = e by omega]
theorem at_end {α : Type} {xs ys : List α} {v : α} (e : xs = ys ++ [v]) : atI xs (-1) = some v := by
  rw [e]
  exact atI_last ys v
end U
namespace LM
open PySem L2
theorem fm_some {α β : Type} (f : α → β) : ∀ xs : List α, xs.filterMap (fun a => some (f a)) = xs.map f
  | [] => rfl
  | a :: r => by rw [List.filterMap_cons, List.map_cons, ← fm_some f r]
/-! ### pairs sorted -/
def keyAt (H : Hp) (v : V) : Int × Int := match v with
  | .ref t => match H t with
    | some (.tup [.int i, .int j]) => (i, j)
    | _ => (0, 0)
  | _ => (0, 0)
theorem keyAt_of {H : Hp} {t : Addr} {i j : Int} (h : H t = some (.tup [.int i, .int j])) : keyAt H (.ref t) = (i, j) := by
  unfold keyAt
  dsimp only
  rw [h]
/-- pairs of ints -/
def pairV (p : Int × Int) : List V := [.int p.1, .int p.2]
theorem key_prd {H : Hp} : ∀ {vs : List V} {ps : List (Int × Int)}, M.TupL H vs (ps.map pairV) → vs.map (keyAt H) = ps ∧ ∀ v ∈ vs, ∃ t, v = V.ref t ∧ H t = some (.tup [.int (keyAt H v).1, .int (keyAt H v).2])
  | [], [], _ => ⟨rfl, fun v h => by cases h⟩
  | v :: vs, p :: ps, .cons h r => by
    obtain ⟨a, rfl, h⟩ := h
    obtain ⟨e1, e2⟩ := key_prd (ps := ps) r
    have k := keyAt_of (i := p.1) (j := p.2) h
    refine ⟨by rw [List.map_cons, e1, k], fun w hw => ?_⟩
    rcases List.mem_cons.mp hw with rfl | hw
    · exact ⟨a, rfl, by rw [k]; exact h⟩
    · exact e2 w hw
theorem srt_fst {k : V → Int × Int} {ys : List V} (h : SrtO.Srtd (ltP k) ys) : (ys.map fun v => (k v).1).Pairwise (· ≤ ·) := by
  rw [List.pairwise_map]
  refine List.Pairwise.imp (fun {a b} q => ?_) h
  have q : SrtO.lexB (k b) (k a) = false := q
  refine Int.not_lt.mp fun c => ?_
  rw [SrtO.lexB_iff.mpr (.inl c)] at q
  cases q
/-- values with their places -/
def idx (ns : List Int) : List (Int × Int) := (List.range ns.length).map fun i : Nat => ((ns[i]?).getD 0, (i : Int))
theorem idx_len (ns : List Int) : (idx ns).length = ns.length := by unfold idx; rw [List.length_map, List.length_range]
theorem idx_fst (ns : List Int) : (idx ns).map (·.1) = ns := by
  unfold idx
  rw [List.map_map]
  refine List.ext_getElem? fun i => ?_
  rw [List.getElem?_map]
  by_cases h : i < ns.length
  · rw [List.getElem?_range h]
    show some ((ns[i]?).getD 0) = ns[i]?
    rw [List.getElem?_eq_getElem h]; rfl
  · rw [List.getElem?_eq_none (by rw [List.length_range]; omega), List.getElem?_eq_none (by omega)]; rfl
/-- a row of values in ascending order, and their places -/
structure RowOk (ns row pl : List Int) : Prop where
  up : row.Pairwise (· ≤ ·)
  len : row.length = ns.length
  pln : pl.length = ns.length
  perm : (row.zip pl).Perm (idx ns)
theorem zip_maps {α : Type} (f g : α → Int) : ∀ xs : List α, (xs.map f).zip (xs.map g) = xs.map fun x => (f x, g x)
  | [] => rfl
  | x :: r => by rw [List.map_cons, List.map_cons, List.zip_cons_cons, zip_maps f g r, List.map_cons]
theorem zip_fst : ∀ {xs ys : List Int}, xs.length = ys.length → (xs.zip ys).map (·.1) = xs
  | [], [], _ => rfl
  | x :: xs, y :: ys, h => by
    rw [List.zip_cons_cons, List.map_cons, zip_fst (by simpa using h)]
theorem RowOk.rp {ns row pl : List Int} (h : RowOk ns row pl) : row.Perm ns := by
  have := h.perm.map (·.1)
  rw [zip_fst (by rw [h.len, h.pln]), idx_fst] at this
  exact this
theorem RowOk.of {ns : List Int} {k : V → Int × Int} {xs ys : List V} (hx : xs.map k = idx ns) (hs : SrtO.Srtd (ltP k) ys) (hp : ys.Perm xs) : RowOk ns (ys.map fun v => (k v).1) (ys.map fun v => (k v).2) := by
  have l := hp.length_eq
  have l2 : xs.length = ns.length := by rw [← idx_len ns, ← hx, List.length_map]
  refine ⟨srt_fst hs, by rw [List.length_map]; omega, by rw [List.length_map]; omega, ?_⟩
  rw [zip_maps]
  have := hp.map k
  rw [hx] at this
  exact this
/-! ### a ladder -/
def rowF (row : List Int) (i : Nat) : Int := (row[i]?).getD 0
theorem rowF_at {row : List Int} {i : Nat} (h : i < row.length) : row[i]? = some (rowF row i) := by
  unfold rowF
  rw [List.getElem?_eq_getElem h]; rfl
theorem rowF_mon {row : List Int} (h : row.Pairwise (· ≤ ·)) : Mon (rowF row) row.length := fun i j hij hj => by
  rcases Nat.eq_or_lt_of_le hij with e | e
  · rw [e]; exact Int.le_refl _
  · have := (List.pairwise_iff_getElem.mp h) i j (by omega) hj e
    unfold rowF
    rw [List.getElem?_eq_getElem (by omega), List.getElem?_eq_getElem hj]
    exact this
def sumsL (row : List Int) (n : Nat) : List Int := (List.range (n + 1)).map (sm (rowF row))
theorem sumsL_at {row : List Int} {n i : Nat} (h : i ≤ n) : (sumsL row n)[i]? = some (sm (rowF row) i) := by
  unfold sumsL
  rw [List.getElem?_map, List.getElem?_range (by omega)]; rfl
theorem sumsL_succ (row : List Int) (n : Nat) : sumsL row (n + 1) = sumsL row n ++ [sm (rowF row) n + rowF row n] := by
  unfold sumsL
  rw [List.range_succ (n := n + 1), List.map_append]; rfl
theorem sumsL_end (row : List Int) : ∀ n : Nat, ∃ ys, sumsL row n = ys ++ [sm (rowF row) n]
  | 0 => ⟨[], rfl⟩
  | n + 1 => ⟨sumsL row n, sumsL_succ row n⟩
def ladF (la lp ls : Addr) : List (Str × V) := [("ascending", .ref la), ("places", .ref lp), ("sums", .ref ls)]
structure LadX (CL : Addr) (H : Hp) (x dx la lp ls : Addr) (row pl : List Int) : Prop where
  hi : H x = some (.ins CL dx (ladF la lp ls))
  ha : H la = some (.lst (row.map V.int))
  hp : H lp = some (.lst (pl.map V.int))
  hs : H ls = some (.lst ((sumsL row row.length).map V.int))
theorem LadX.same {CL : Addr} {H H' : Hp} {x dx la lp ls : Addr} {row pl : List Int} (s : Same H H') (h : LadX CL H x dx la lp ls row pl) : LadX CL H' x dx la lp ls row pl := ⟨s _ _ h.hi, s _ _ h.ha, s _ _ h.hp, s _ _ h.hs⟩
theorem lad_a (la lp ls : Addr) : (ladF la lp ls).lookup ("ascending" : Str) = some (.ref la) := M.lk_fst
theorem lad_p (la lp ls : Addr) : (ladF la lp ls).lookup ("places" : Str) = some (.ref lp) := (M.lk_nxt (by decide +kernel)).trans M.lk_fst
theorem lad_s (la lp ls : Addr) : (ladF la lp ls).lookup ("sums" : Str) = some (.ref ls) := (M.lk_nxt (by decide +kernel)).trans ((M.lk_nxt (by decide +kernel)).trans M.lk_fst)
theorem lad_no {f : Str} (h1 : (f == ("ascending" : Str)) = false) (h2 : (f == ("places" : Str)) = false) (h3 : (f == ("sums" : Str)) = false) (la lp ls : Addr) : (ladF la lp ls).lookup f = none := (M.lk_nxt h1).trans ((M.lk_nxt h2).trans ((M.lk_nxt h3).trans rfl))
theorem LadX.fa {K : PySem.W.Frag} {CL : Addr} {H : Hp} {x dx la lp ls : Addr} {row pl : List Int} (h : LadX CL H x dx la lp ls row pl) (c : Cls K CL) (n : NoAttr K CL "ascending") {R : V → Prop} (q : R (.ref la)) :
    ∃ a C dx fs v, V.ref x = .ref a ∧ H a = some (.ins C dx fs) ∧ Cls K C ∧ NoAttr K C "ascending" ∧ fs.lookup ("ascending" : Str) = some v ∧ R v := ⟨x, CL, dx, _, _, rfl, h.hi, c, n, lad_a la lp ls, q⟩
theorem LadX.fp {K : PySem.W.Frag} {CL : Addr} {H : Hp} {x dx la lp ls : Addr} {row pl : List Int} (h : LadX CL H x dx la lp ls row pl) (c : Cls K CL) (n : NoAttr K CL "places") {R : V → Prop} (q : R (.ref lp)) :
    ∃ a C dx fs v, V.ref x = .ref a ∧ H a = some (.ins C dx fs) ∧ Cls K C ∧ NoAttr K C "places" ∧ fs.lookup ("places" : Str) = some v ∧ R v := ⟨x, CL, dx, _, _, rfl, h.hi, c, n, lad_p la lp ls, q⟩
theorem LadX.fs {K : PySem.W.Frag} {CL : Addr} {H : Hp} {x dx la lp ls : Addr} {row pl : List Int} (h : LadX CL H x dx la lp ls row pl) (c : Cls K CL) (n : NoAttr K CL "sums") {R : V → Prop} (q : R (.ref ls)) :
    ∃ a C dx fs v, V.ref x = .ref a ∧ H a = some (.ins C dx fs) ∧ Cls K C ∧ NoAttr K C "sums" ∧ fs.lookup ("sums" : Str) = some v ∧ R v := ⟨x, CL, dx, _, _, rfl, h.hi, c, n, lad_s la lp ls, q⟩
/-- a number, or None -/
def oV : Option Int → V
  | none => .non
  | some i => .int i
theorem tab_end (c : Nat → Nat → Int) (s : Nat) : ∀ n : Nat, ∃ ys, tab c s n = ys ++ [F c s n]
  | 0 => ⟨[], rfl⟩
  | n + 1 => ⟨tab c s n, by rw [F_succ]; rfl⟩
theorem map_end {α β : Type} (f : α → β) {xs ys : List α} {v : α} (e : xs = ys ++ [v]) : xs.map f = ys.map f ++ [f v] := by rw [e, List.map_append]; rfl
theorem tab_succ (c : Nat → Nat → Int) (s n : Nat) : tab c s (n + 1) = tab c s n ++ [F c s (n + 1)] := by rw [F_succ]; rfl
def hB (c : Nat → Nat → Int) (t : List (Option Int)) (e : Nat) (v : V) : Option V := match v with
  | .int z => some (.int ((put t z.toNat).getD 0 + c z.toNat e))
  | _ => none
def fB (t : List (Option Int)) (lo : Nat) (j : Nat) : Option V := if (put t (lo + j)).isSome = true then some (.int ((lo : Int) + (j : Int))) else none
theorem cand_two (c : Nat → Nat → Int) (t : List (Option Int)) (lo hi e : Nat) : ((List.range (hi - lo)).filterMap (fB t lo)).filterMap (hB c t e) = (cand c t lo hi e).map V.int := by
  unfold cand
  rw [List.range'_eq_map_range, List.filterMap_map, List.filterMap_filterMap, List.map_filterMap]
  congr 1
  funext j
  show (fB t lo j).bind (hB c t e) = (((put t (lo + j)).map (· + c (lo + j) e)).map V.int)
  unfold fB
  cases q : put t (lo + j) with
  | none => rfl
  | some u =>
    show hB c t e (.int ((lo : Int) + (j : Int))) = _
    show some (V.int ((put t ((lo : Int) + (j : Int)).toNat).getD 0 + c ((lo : Int) + (j : Int)).toNat e)) = _
    rw [show ((lo : Int) + (j : Int)).toNat = lo + j by omega, q]
    rfl
/-- the values in ascending order -/
structure Row (ns row : List Int) : Prop where
  perm : row.Perm ns
  up : row.Pairwise (· ≤ ·)
theorem Row.uniq {ns a b : List Int} (ha : Row ns a) (hb : Row ns b) : a = b := (ha.perm.trans hb.perm.symm).eq_of_pairwise (fun _ _ _ _ h1 h2 => Int.le_antisymm h1 h2) ha.up hb.up
theorem Row.ex (ns : List Int) : ∃ row : List Int, Row ns row := ⟨ns.mergeSort (fun a b => decide (a ≤ b)), List.mergeSort_perm _ _, by
  have := List.pairwise_mergeSort (le := fun a b : Int => decide (a ≤ b)) (fun a b c h1 h2 => by simp at *; omega) (fun a b => by simp; omega) ns
  exact this.imp fun h => by simpa using h⟩
theorem Row.self {row : List Int} (h : row.Pairwise (· ≤ ·)) : Row row row := ⟨List.Perm.refl _, h⟩
theorem RowOk.row {ns row pl : List Int} (h : RowOk ns row pl) : Row ns row := ⟨h.rp, h.up⟩
theorem Row.len {ns row : List Int} (h : Row ns row) : row.length = ns.length := h.perm.length_eq
/-- the least losses for the sizes 1, 2, .. -/
def dueL (row : List Int) : List Int := (List.range row.length).map fun i => (F (cs (rowF row)) (i + 1) row.length).getD 0
def W (c : Nat → Nat → Int) (s n : Nat) : Int := ((wtab c s n)[n]?).getD 0
def hW (t : List Int) (v : V) : Option V := match v with
  | .int z => some (.int ((t[z.toNat]?).getD 0))
  | _ => none
theorem sum_sm (f : Int → Int) : ∀ row : List Int, (row.map f).sum = sm (fun i => f (rowF row i)) row.length := by
  intro row
  have key : ∀ n, n ≤ row.length → ((row.take n).map f).sum = sm (fun i => f (rowF row i)) n := by
    intro n
    induction n with
    | zero => intro _; rfl
    | succ n ih =>
      intro h
      rw [List.take_succ, List.getElem?_eq_getElem (by omega), List.map_append, List.sum_append, ih (by omega)]
      show _ + _ = sm _ n + f (rowF row n)
      congr 1
      unfold rowF
      rw [List.getElem?_eq_getElem (by omega)]
      simp
  have := key row.length (Nat.le_refl _)
  rwa [List.take_of_length_le (Nat.le_refl _)] at this
theorem sum_cost (row : List Int) : (row.map fun z => ab (z - rowF row (row.length / 2))).sum = cs (rowF row) 0 row.length := by
  rw [sum_sm]
  unfold cs lossAt sg
  rw [Nat.zero_add]
  show _ = _ - 0
  omega
/-- a part of a row -/
theorem rowF_part (row : List Int) {b e i : Nat} (h : i < e - b) : rowF ((row.drop b).take (e - b)) i = rowF row (b + i) := by
  unfold rowF
  rw [List.getElem?_take, if_pos h, List.getElem?_drop]
theorem cs_part {row : List Int} {b e : Nat} (hb : b < e) (he : e ≤ row.length) : cs (rowF ((row.drop b).take (e - b))) 0 (e - b) = cs (rowF row) b e := by
  unfold cs
  rw [show (0 + (e - b)) / 2 = (e - b) / 2 by omega, rowF_part row (by omega), show b + (e - b) / 2 = (b + e) / 2 by omega]
  unfold lossAt
  generalize rowF row ((b + e) / 2) = y
  have key : ∀ n, n ≤ e - b → sg (fun i => ab (rowF ((row.drop b).take (e - b)) i - y)) 0 n = sg (fun i => ab (rowF row i - y)) b (b + n) := by
    intro n
    induction n with
    | zero => intro _; rw [sg_self, Nat.add_zero, sg_self]
    | succ n ih =>
      intro h
      rw [sg_succ, ih (by omega), ← Nat.add_assoc, sg_succ, rowF_part row (by omega)]
  have := key (e - b) (Nat.le_refl _)
  rw [this, show b + (e - b) = e by omega]
theorem part_row {row : List Int} (up : row.Pairwise (· ≤ ·)) (b n : Nat) : Row ((row.drop b).take n) ((row.drop b).take n) := Row.self ((up.drop).take)
end LM
namespace ST
open PySem PyProof.Rows PySem.Spec L2 SrtO
/-! ### sorted of a tuple of ints -/
section
variable {prog : Program} {w : World} {A : Around} {E : Value → Shared → Prop} {s : Shared}
theorem coll_tup {l : Addr} {us : List Value} {Q : List Value → Shared → Prop} (hl : s.heap.IsTuple l us.toArray) (hsz : us.length ≤ sizeLine)
    (h : Q us { s with heap := (s.heap.push (seqObj "list" #[] 0)).update s.heap.objs.size (Obj.mapSeq (· ++ us.toArray)) }) : wpAny (model prog w) A (collect (.ref l)) Q E s := by
  obtain ⟨o, ho, hc, n, hd⟩ := id hl
  unfold collect
  refine wpAny_bind (wpAny_runValue (codeAny_builtin entry_proto_collect' ?_))
  show wpAny _ _ (do again (.builtin "list.__iadd__" ⟨[← newList [], .ref l], []⟩)) _ _ s
  refine wpAny_bind (wpAny_newList (wpAny_pure (And.intro (Code.quiet_builtin _ (by decide +kernel)) (codeAny_builtin entry_list_iadd' ?_))))
  show wpAny _ _ (Builtin.List.listExtendWith (.ref s.heap.objs.size) (.ref l) (.ref s.heap.objs.size)) _ _ { s with heap := s.heap.push (seqObj "list" #[] 0) }
  unfold Builtin.List.listExtendWith
  have old : (s.heap.push (seqObj "list" #[] 0)).get? l = some o := Heap.get?_push_of_some _ ho
  refine wpAny_bind (wpAny_typeOf (T := "tuple") ⟨o, old, hc⟩ ?_)
  have tt : (Value.type "tuple" == Value.type "tuple") = true := by rfl
  rw [if_pos (by rw [tt]; simp)]
  refine wpAny_bind (listItems_at old hd ?_)
  have new : ((s.heap.push (seqObj "list" #[] 0)).get? s.heap.objs.size) = some (seqObj "list" #[] 0) := Heap.get?_push_size _ rfl
  refine wpAny_bind (listItems_at (n := 0) (xs := #[]) new rfl ?_)
  rw [if_neg (by simp)]
  refine wpAny_bind (listUpdate_at (n := 0) (xs := #[]) new rfl ?_ (Nat.zero_le _) (by simp only [Array.size_append, List.size_toArray, List.length_nil]; show 0 + _ ≤ _; omega))
  refine wpAny_pure ?_
  show wpAny (model prog w) A (do
      let b ← load s.heap.objs.size
      match b.data with
      | .seq xs _ => pure xs.toList
      | _ => unsupported "internal:collect") Q E { s with heap := (s.heap.push (seqObj "list" #[] 0)).update s.heap.objs.size (Obj.mapSeq (· ++ us.toArray)) }
  refine wpAny_bind (wpAny_load (get?_update_seq new _) ?_)
  show wpAny _ _ (pure ((#[] : Array Value) ++ us.toArray).toList) Q E _
  have e : ((#[] : Array Value) ++ us.toArray).toList = us := by simp
  rw [e]
  exact wpAny_pure h
theorem sorted_tup {l : Addr} {us : List Value} {ltv : Value → Value → Bool} {Q : Value → Shared → Prop} (O : Swo ltv) (hl : s.heap.IsTuple l us.toArray) (hz : us.length ≤ sizeLine)
    (hS : 2 ≤ us.length → ∀ (h₁ : Heap) (a : Addr), h₁.get? a = some (seqObj "list" us.toArray 0) → (∀ b o, s.heap.get? b = some o → b ≠ a ∧ h₁.get? b = some o) → SortableO prog w A.in1.in1 { s with heap := h₁ } a us ltv)
    (h : ∀ out : List Value, Srtd ltv out → Stb ltv out us → Q (.ref (s.heap.objs.size + 1)) { s with heap := sortedAll s.heap us out.toArray }) :
    wpAny (model prog w) A (call (.builtin "sorted") [.ref l]) Q E s := by
  refine Calls.call_function_entry kind_sorted plain_sorted entry_sorted (args_sorted1 _) ?_
  unfold Builtin.«sorted»
  refine wpAny_bind (m := checkCount "sorted" 1 1 _) (wpAny_pure ?_)
  refine wpAny_bind (coll_tup hl hz ?_)
  refine wpAny_bind (wpAny_newList ?_ hz)
  have sz : ((s.heap.push (seqObj "list" #[] 0)).update s.heap.objs.size (Obj.mapSeq (· ++ us.toArray))).objs.size = s.heap.objs.size + 1 := (Heap.size_update ..).trans (size_push' ..)
  have at1 : (((s.heap.push (seqObj "list" #[] 0)).update s.heap.objs.size (Obj.mapSeq (· ++ us.toArray))).push (seqObj "list" us.toArray 0)).get? (s.heap.objs.size + 1) = some (seqObj "list" us.toArray 0) := by
    have z := Heap.get?_push_size ((s.heap.push (seqObj "list" #[] 0)).update s.heap.objs.size (Obj.mapSeq (· ++ us.toArray))) (o := seqObj "list" us.toArray 0) rfl
    rwa [sz] at z
  have stays : ∀ b o, s.heap.get? b = some o → b ≠ s.heap.objs.size + 1 ∧ (((s.heap.push (seqObj "list" #[] 0)).update s.heap.objs.size (Obj.mapSeq (· ++ us.toArray))).push (seqObj "list" us.toArray 0)).get? b = some o := fun b o q => by
    have lt : b < s.heap.objs.size := Heap.lt_size q
    refine And.intro (Nat.ne_of_lt (Nat.lt_succ_of_lt lt)) (Heap.get?_push_of_some _ ?_)
    rw [Heap.get?_update_ne _ _ _ _ (Nat.ne_of_lt lt)]
    exact Heap.get?_push_of_some _ q
  show wpAny _ _ _ _ _ { s with heap := ((s.heap.push (seqObj "list" #[] 0)).update s.heap.objs.size (Obj.mapSeq (· ++ us.toArray))).push (seqObj "list" us.toArray 0) }
  rw [sz]
  refine wpAny_bind (wpAny_holding (wpAny_call_entry slot_list_sort ⟨_, at1, rfl⟩ entry_list_sort (list_sort_ord O at1 hz (fun h2 => hS h2 _ _ at1 stays) fun out o1 o2 => ⟨_, rfl, ?_⟩) (args_list_sort _)))
  exact wpAny_pure ⟨_, rfl, h out o1 o2⟩
end
/-- sorted(xs), xs a list or a tuple of ints -/
def rSortLT (K : PySem.W.Frag) : List V → Hp → VK → Prop := fun vs H Q => ∃ (a : Addr) (ns : List Int), vs = [V.ref a] ∧ (SqL K H a (ns.map V.int) ∨ SqT K H a (ns.map V.int)) ∧
  ∀ (ns' : List Int) (p : Addr), ns'.Perm ns → ns'.Pairwise (· ≤ ·) → H p = none → Q (.ref p) (upd H p (.lst (ns'.map V.int)))
theorem cr_sortLT {X : Cx} {K : PySem.W.Frag} (hK : X.K = K) : CallR X (.builtin "sorted") (rSortLT K) := by
  subst hK
  intro pins s σ H vs us Q I r h
  obtain ⟨a, ns, rfl, hs | hs, q⟩ := h
  · exact cr_sortedI pins s σ H _ us Q I r ⟨a, ns, rfl, hs, q⟩
  · obtain ⟨its, rv, pt, hz⟩ := I.tuple hs
    obtain ⟨u, rfl, ru⟩ := r.one
    cases (show u = Value.ref a from ru)
    have hi := rv.ints
    refine sorted_tup SrtO.swo_int (show s.heap.IsTuple a its.toArray from pt) (by rw [← rv.length]; exact hz) (fun h2 h₁ a' _ _ => SrtO.ints_sortable hi h2) fun out o1 o2 => ?_
    obtain ⟨k1, k2, k3⟩ := SrtO.ints_out hi o1 o2
    obtain ⟨ep, at1⟩ := PyProof.Rows.sortedAll_at s.heap its out.toArray
    have ln : ((out.map SrtO.iv).map V.int).length ≤ sizeLine := by
      rw [List.length_map, k2.length_eq]
      rwa [List.length_map] at hz
    refine ⟨.ref _, upd H (s.heap.objs.size + 1) (.lst ((out.map SrtO.iv).map V.int)), I.laid (t' := s.toks) (fun _ _ => PyProof.Rows.sortedAll_old) (Nat.le_succ _) ⟨ln, out, ep, vals_of_ints k1, at1⟩, rfl, q _ _ k2 k3 (I.hok.fresh (Nat.le_succ _))⟩
theorem g_sortLT {K : PySem.W.Frag} {H : Hp} {Q : VK} {p : Addr} {ns : List Int} (h : SqL K H p (ns.map V.int) ∨ SqT K H p (ns.map V.int)) (q : ∀ (ns' : List Int) (l : Addr), ns'.Perm ns → ns'.Pairwise (· ≤ ·) → H l = none → Q (.ref l) (upd H l (.lst (ns'.map V.int)))) : rSortLT K [.ref p] H Q := ⟨p, ns, rfl, h, q⟩
end ST
namespace ZT
open PySem PySem.Spec PyProof.Rows L2 ZV
/-! ### zip(x, y), each a list (t = false) or a tuple (t = true) -/
def Sq (K : PySem.W.Frag) (t : Bool) (H : Hp) (a : Addr) (xs : List V) : Prop := if t = true then SqT K H a xs else SqL K H a xs
def ItX (t : Bool) (h : Heap) (i a : Addr) (n : Nat) : Prop := if t = true then h.IsTupleIter i a n else h.IsListIter i a n
def IsX (t : Bool) (h : Heap) (a : Addr) (its : Array Value) : Prop := if t = true then h.IsTuple a its else h.IsList a its
def obX (t : Bool) (a : Addr) : Obj := if t = true then { cls := .type "tuple_iterator", data := .fields #[.ref a, .int 0 0] } else { cls := .type "list_iterator", data := .fields #[.ref a, .int 0 0] }
def ItZ (K : PySem.W.Frag) (t1 t2 : Bool) (a b : Addr) : It :=
  ⟨fun i H => ∃ (xs ys : List V), Sq K t1 H a xs ∧ Sq K t2 H b ys ∧ i < xs.length ∧ i < ys.length,
    fun i H v H' => ∃ T x y, v = .ref T ∧ H T = none ∧ H' = upd H T (.tup [x, y]) ∧ (∀ xs, Sq K t1 H a xs → xs[i]? = some x) ∧ ∀ ys, Sq K t2 H b ys → ys[i]? = some y,
    fun i H => ∃ xs ys : List V, Sq K t1 H a xs ∧ Sq K t2 H b ys ∧ i ≤ xs.length ∧ i ≤ ys.length ∧ (i = xs.length ∨ i = ys.length)⟩
def iZipX (K : PySem.W.Frag) (ta : TA) : TI := fun σ H R => ta σ H fun vs H1 => ∃ a b t1 t2 xs ys, vs = [.ref a, .ref b] ∧ Sq K t1 H1 a xs ∧ Sq K t2 H1 b ys ∧ R (ItZ K t1 t2 a b) H1
theorem g_iZipX {K : PySem.W.Frag} {σ : L2.St} {H : Hp} {ta : TA} {R : It → Hp → Prop} (q : ta σ H fun vs H1 => ∃ a b t1 t2 xs ys, vs = [.ref a, .ref b] ∧ Sq K t1 H1 a xs ∧ Sq K t2 H1 b ys ∧ R (ItZ K t1 t2 a b) H1) : iZipX K ta σ H R := q
end ZT
namespace LM
open PySem PySem.Spec PyProof.Rows L2 U M
/-! ### what is shown of whole numbers, and of tuples of them -/
theorem sh_len {i : Int} (h0 : -10000000000 ≤ i) (h1 : i ≤ 10000000000) : (PyData.shown (.int i)).length ≤ 13 := by
  have e := int_text_length_le10 (a := i) (k := 11) (by decide) (by omega)
  show (Str.ofString (toString i)).length ≤ 13
  rw [PySem.ofString_length]
  omega
theorem sh_log {i : Int} (h0 : -10000000000 ≤ i) (h1 : i ≤ 10000000000) : i.natAbs.log2 < 34 := by
  by_cases z : i.natAbs = 0
  · rw [z]; decide
  · exact (Nat.log2_lt z).2 (show i.natAbs < 2 ^ 34 by omega)
theorem rep_I {K : PySem.W.Frag} {H : Hp} {i : Int} {Q : VK} (h0 : -10000000000 ≤ i) (h1 : i ≤ 10000000000) (q : Q (.str (PyData.int i).shown) H) : QD.rRep K [.int i] H Q :=
  ⟨_, _, rfl, .dp (.int i), decide_eq_true (Nat.lt_trans (sh_log h0 h1) (by decide)), Nat.zero_le _, Nat.le_trans (sh_len h0 h1) (by decide), q⟩
theorem rep_B {K : PySem.W.Frag} {H : Hp} {b : Bool} {Q : VK} (q : Q (.str (PyData.bool b).shown) H) : QD.rRep K [.bl b] H Q := ⟨_, _, rfl, .dp (.bl b), rfl, Nat.zero_le _, by cases b <;> decide +kernel, q⟩
def inB (ns : List Int) : Prop := ∀ n ∈ ns, -1000000 ≤ n ∧ n ≤ 1000000
theorem ite_no {b : Bool} {A B : Prop} (h : b = false) (q : B) : if b = true then A else B := by rw [h, if_neg Bool.false_ne_true]; exact q
theorem ne_refl (x : V) : (if (true : Bool) = true then !decide (x = x) else decide (x = x)) = false := by rw [if_pos rfl, decide_eq_true rfl]; rfl
/-! ### how great losses are -/
end LM
namespace U
open PySem PySem.Spec PyProof.Rows L2
/-! ### slices and sums of tuples, whole or empty ones too -/
def uSlA (K : PySem.W.Frag) : V → Option Int → Option Int → Hp → VK → Prop := fun x lo hi H Q => match x with
  | .ref a => (∃ xs, SqL K H a xs ∧ ∀ p, H p = none → Q (.ref p) (upd H p (.lst (cutV xs lo hi)))) ∨ rSlA K (.ref a) lo hi H Q
  | .str z => z.length ≤ sizeLine ∧ Q (.str (cutS z lo hi)) H
  | _ => False
theorem sl_uA {X : Cx} {K : PySem.W.Frag} (hK : X.K = K) : SlR X (uSlA K) := by
  subst hK
  intro pins s σ H x v vl vu lo hi sl Q I rx hs pl pu h
  cases x <;> first | exact False.elim h | skip
  case ref a =>
    rcases h with ⟨xs, h1, h2⟩ | h
    · exact sl_list pins s σ H _ v vl vu lo hi sl Q I rx hs pl pu ⟨a, xs, rfl, h1, h2⟩
    · exact sl_tupA pins s σ H _ v vl vu lo hi sl Q I rx hs pl pu h
  case str z => exact sl_str pins s σ H _ v vl vu lo hi sl Q I rx hs pl pu ⟨z, rfl, h.1, h.2⟩
/-- x + y, tuples of any length -/
def uAddA (K : PySem.W.Frag) : R2 := fun x y H Q => uAdd K x y H Q ∨ rCatA K x y H Q
theorem op_uAddA {X : Cx} {K : PySem.W.Frag} (hK : X.K = K) : OpR X (binaryOp .Add) (uAddA K) := by
  subst hK
  exact OpR.or op_uAdd0 op_catA
end U
namespace LM
open PySem L2 U M
/-! ### lots: ascending tuples of places -/
def iOf : V → Int
  | .int z => z
  | _ => 0
/-- an int below m, from 0 on -/
def numB (m : Int) (v : V) : Bool := match v with
  | .int z => decide (0 ≤ z) && decide (z < m)
  | _ => false
/-- each less than the next one -/
def adj : List Int → Bool
  | a :: b :: r => decide (a < b) && adj (b :: r)
  | _ => true
theorem adj_pw : ∀ {ns : List Int}, adj ns = true ↔ ns.Pairwise (· < ·)
  | [] => ⟨fun _ => .nil, fun _ => rfl⟩
  | [a] => ⟨fun _ => List.pairwise_singleton _ _, fun _ => rfl⟩
  | a :: b :: r => by
    have ih := adj_pw (ns := b :: r)
    show (decide (a < b) && adj (b :: r)) = true ↔ _
    rw [Bool.and_eq_true, decide_eq_true_eq, ih, List.pairwise_cons (a := a)]
    constructor
    · rintro ⟨h1, h2⟩
      refine ⟨fun x hx => ?_, h2⟩
      rcases List.mem_cons.mp hx with rfl | hx
      · exact h1
      · have := (List.pairwise_cons.mp h2).1 x hx; omega
    · rintro ⟨h1, h2⟩
      exact ⟨h1 b List.mem_cons_self, h2⟩
def lotB (m : Int) (xs : List V) : Bool := xs.all (numB m) && adj (xs.map iOf)
end LM
namespace LM
open PySem L2 U M
/-! ### all that is shown at its best -/
/-- the loss of these values if y is shown -/
def lossY (ms : List Int) (y : Int) : Int := (ms.map fun z => ab (z - y)).sum
end LM
namespace LM
/-! ### the least loss of all partings is that of stretches: two rows matched in their sequence -/
def pl (P : List (Int × Int)) : Int := (P.map fun q => ab (q.1 - q.2)).sum
/-! ### blocks of one center each -/
def blk (L : List (Nat × Int)) : List Int := L.flatMap fun q => List.replicate q.1 q.2
/-! ### any parting -/
def srt (ms : List Int) : List Int := ms.mergeSort fun a b => decide (a ≤ b)
/-- what a crowd costs at its best -/
def cst (ms : List Int) : Int := cs (rowF (srt ms)) 0 (srt ms).length
def med (ms : List Int) : Int := rowF (srt ms) ((srt ms).length / 2)
end LM
namespace LM
/-- all partings, as the law makes them -/
def parts : Nat → List (List (List Nat))
  | 0 => [[]]
  | n + 1 => (parts n).flatMap fun cr => (cr ++ [[n]]) :: (List.range cr.length).map fun k => cr.take k ++ [(cr[k]?).getD [] ++ [n]] ++ cr.drop (k + 1)
/-- the crowds by their labels -/
def fil (g : Nat → Nat) (n l : Nat) : List Nat := (List.range n).filter fun i => decide (g i = l)
/-! ### cuts -/
inductive Cut (s : Nat) : List (Nat × Nat) → Nat → Prop
  | nil : Cut s [] 0
  | cons {B : List (Nat × Nat)} {b e : Nat} (h : Cut s B b) (l : b + s ≤ e) : Cut s ((b, e) :: B) e
def lab : List (Nat × Nat) → Nat → Nat
  | [], _ => 0
  | (b, _) :: B, j => if b ≤ j then b else lab B j
theorem Cut.bd {s : Nat} {B : List (Nat × Nat)} {e : Nat} (h : Cut s B e) : ∀ q ∈ B, q.1 + s ≤ q.2 ∧ q.2 ≤ e := by
  induction h with
  | nil => intro q hq; cases hq
  | cons h l ih =>
    intro q hq
    rcases List.mem_cons.mp hq with rfl | hq
    · exact ⟨l, Nat.le_refl _⟩
    · have := ih q hq
      exact ⟨this.1, by omega⟩
theorem Cut.at {s : Nat} {B : List (Nat × Nat)} {e : Nat} (h : Cut s B e) : ∀ j, j < e → ∃ q ∈ B, q.1 ≤ j ∧ j < q.2 ∧ lab B j = q.1 := by
  induction h with
  | nil => intro j hj; exact absurd hj (Nat.not_lt_zero _)
  | @cons B b e h l ih =>
    intro j hj
    by_cases c : b ≤ j
    · exact ⟨(b, e), List.mem_cons_self, c, hj, if_pos c⟩
    · obtain ⟨q, hq, a1, a2, a3⟩ := ih j (by omega)
      exact ⟨q, List.mem_cons_of_mem _ hq, a1, a2, by show (if b ≤ j then b else lab B j) = _; rw [if_neg c]; exact a3⟩
theorem Cut.nd {s : Nat} (hs : 1 ≤ s) {B : List (Nat × Nat)} {e : Nat} (h : Cut s B e) : (B.map (·.1)).Nodup := by
  induction h with
  | nil => exact List.nodup_nil
  | @cons B b e h l ih =>
    rw [List.map_cons, List.nodup_cons]
    refine ⟨fun z => ?_, ih⟩
    obtain ⟨q, hq, z⟩ := List.mem_map.mp z
    have := h.bd q hq
    have z : q.1 = b := z
    omega
end LM
namespace LM
theorem zip_snd : ∀ {xs ys : List Int}, xs.length = ys.length → (xs.zip ys).map (·.2) = ys
  | [], [], _ => rfl
  | x :: xs, y :: ys, h => by
    rw [List.zip_cons_cons, List.map_cons, zip_snd (by simpa using h)]
/-- the places of the ascending values -/
structure PlOk (ns row : List Int) (q : List Nat) : Prop where
  perm : q.Perm (List.range ns.length)
  val : row = q.map (rowF ns)
theorem RowOk.pl {ns row pl : List Int} (R : RowOk ns row pl) : PlOk ns row (pl.map Int.toNat) ∧ pl = (pl.map Int.toNat).map Int.ofNat := by
  have ll : row.length = pl.length := by rw [R.len, R.pln]
  have p1 := R.perm.map (·.2)
  rw [zip_snd ll] at p1
  have e1 : (idx ns).map (·.2) = (List.range ns.length).map fun i : Nat => (i : Int) := by
    unfold idx
    rw [List.map_map]
    rfl
  rw [e1] at p1
  have nn : ∀ z ∈ pl, 0 ≤ z := fun z hz => by
    obtain ⟨i, _, rfl⟩ := List.mem_map.mp (p1.mem_iff.mp hz)
    omega
  have e2 : pl = (pl.map Int.toNat).map Int.ofNat := by
    rw [List.map_map]
    have : pl.map (Int.ofNat ∘ Int.toNat) = pl.map id := List.map_congr_left fun z hz => by
      have := nn z hz
      show ((z.toNat : Nat) : Int) = z
      omega
    rw [this, List.map_id]
  refine ⟨⟨?_, ?_⟩, e2⟩
  · have := p1.map Int.toNat
    rw [List.map_map] at this
    have e : (List.range ns.length).map (Int.toNat ∘ fun i : Nat => (i : Int)) = (List.range ns.length).map id := List.map_congr_left fun i _ => rfl
    rw [e, List.map_id] at this
    exact this
  · refine List.ext_getElem? fun j => ?_
    rw [List.map_map, List.getElem?_map]
    by_cases c : j < row.length
    · have m : (row[j], pl[j]) ∈ row.zip pl := by
        refine List.mem_of_getElem? (i := j) ?_
        rw [List.getElem?_zip_eq_some]
        exact ⟨List.getElem?_eq_getElem c, List.getElem?_eq_getElem (by omega)⟩
      have m := R.perm.mem_iff.mp m
      unfold idx at m
      obtain ⟨i, hi, e⟩ := List.mem_map.mp m
      injection e with e1 e2
      rw [List.getElem?_eq_getElem c, List.getElem?_eq_getElem (by omega : j < pl.length), ← e1]
      show _ = some (rowF ns (pl[j]).toNat)
      rw [← e2]
      rfl
    · rw [List.getElem?_eq_none_iff.mpr (by omega), List.getElem?_eq_none_iff.mpr (by omega)]
      rfl
section
variable {ns row : List Int} {q : List Nat} (P : PlOk ns row q) {s : Nat} (hs : 1 ≤ s) {B : List (Nat × Nat)} (C : Cut s B q.length)
include P hs C
end
end LM
namespace RV
open PySem PySem.Spec PyProof.Rows L2 HT
/-! ### t[::-1] of a tuple -/
section
variable {prog : Program} {w : World} {A : Around} {E : Value → Shared → Prop} {s : Shared}
theorem places_rev (n : Nat) : Builtin.Slice.slicePlaces ((n : Int) - 1) (-1) (-1) = n := by
  unfold Builtin.Slice.slicePlaces
  rw [if_neg (by decide)]
  show (if (n : Int) - 1 > -1 then ((n : Int) - 1 - (-1) - 1) / 1 + 1 else 0).toNat = n
  rw [Int.ediv_one]
  split <;> omega
theorem applied_rev {sl : Addr} {vl vu vs : Value} {n : Nat} {Q : Int × Int × Nat → Shared → Prop} (hs : s.heap.IsSliceOf sl vl vu vs) (pl : IsPart vl none) (pu : IsPart vu none) (ps : IsPart vs (some (-1)))
    (h : Q ((n : Int) - 1, -1, n) s) : wpAny (model prog w) A (Builtin.Slice.sliceApplied (.ref sl) (pure (n : Int))) Q E s := by
  obtain ⟨os, hos, hcs, hds⟩ := id hs
  unfold Builtin.Slice.sliceApplied Builtin.Slice.sliceFields
  refine wpAny_bind (wpAny_bind (wpAny_field hos hds (x := vl) rfl (wpAny_bind (wpAny_field hos hds (x := vu) rfl (wpAny_bind (wpAny_field hos hds (x := vs) rfl (wpAny_pure ?_)))))))
  refine wpAny_bind (slicePart_ ps ?_)
  show wpAny _ _ (if ((-1 : Int) == 0) = true then _ else _) _ _ s
  rw [if_neg (by decide)]
  refine wpAny_bind (slicePart_ pl (wpAny_bind (slicePart_ pu (wpAny_bind (wpAny_pure ?_)))))
  show wpAny _ _ (pure ((n : Int) - 1, (-1 : Int), Builtin.Slice.slicePlaces ((n : Int) - 1) (-1) (-1))) _ _ s
  rw [places_rev]
  exact wpAny_pure h
theorem pick_rev (xs : Array Value) : ((List.range xs.size).filterMap fun (m : Nat) => xs[((xs.size : Int) - 1 + (m : Int) * (-1)).toNat]?).toArray = xs.toList.reverse.toArray := by
  have e : (fun (m : Nat) => xs[((xs.size : Int) - 1 + (m : Int) * (-1)).toNat]?) = (fun k => xs[k]?) ∘ fun m => xs.size - 1 - m := by
    funext m
    show _ = xs[xs.size - 1 - m]?
    have : ((xs.size : Int) - 1 + (m : Int) * (-1)).toNat = xs.size - 1 - m := by omega
    rw [this]
  rw [e, ← List.filterMap_map, PySem.W.krv_range, List.filterMap_reverse, PySem.W.krv_all]
theorem getItem_rev {t sl : Addr} {items : Array Value} {vl vu vs : Value} {Q : Value → Shared → Prop} (ht : IsTup s.heap t items) (hs : s.heap.IsSliceOf sl vl vu vs) (pl : IsPart vl none) (pu : IsPart vu none) (ps : IsPart vs (some (-1)))
    (h : Q (.ref s.heap.objs.size) { s with heap := s.heap.push { cls := .type "tuple", data := .seq items.toList.reverse.toArray } })
    (hsz : items.size ≤ sizeLine) : wpAny (model prog w) A (getItem (.ref t) (.ref sl)) Q E s := by
  have hok : sizeOk (.seq items.toList.reverse.toArray) := by
    show items.toList.reverse.toArray.size ≤ sizeLine
    rw [List.size_toArray, List.length_reverse, Array.length_toList]
    exact hsz
  obtain ⟨os, hos, hcs, hds⟩ := id hs
  have hTs : s.TypeIs (.ref sl) "slice" := ⟨os, hos, hcs⟩
  unfold getItem
  try with_reducible refine wpAny_holding ?_
  first | refine wpAny_bind (wpAny_pure ?_) | skip
  refine wpAny_bind (wpAny_sequenceKey ht.typeIs (by decide) ?_)
  refine wpAny_bind (wpAny_callSpecial?_slot (name := Str.ofString "__getitem__") ht.typeIs PyProof.Rows.slot_tuple_getitem
    (wpAny_call_entry PyProof.Rows.slot_tuple_getitem ht.typeIs entry_tuple_getitem ?_ (args_tuple_getitem _ _)))
  show wpAny _ _ (Builtin.Tuple.tupleItemsOf (.ref t) >>= _) _ _ s
  refine wpAny_bind (tupleItemsOf_ ht ?_)
  refine wpAny_bind (wpAny_typeOf hTs ?_)
  rw [if_pos (by decide)]
  refine wpAny_bind (applied_rev hs pl pu ps ?_)
  have hno : ¬ ((((items.size : Int) - 1) == 0 && (-1 : Int) == 1 && items.size == items.size) = true) := by
    intro q
    rw [Bool.and_eq_true, Bool.and_eq_true] at q
    exact absurd q.1.2 (by decide)
  show wpAny _ _ (if (((items.size : Int) - 1) == 0 && (-1 : Int) == 1 && items.size == items.size) = true then _ else _) _ _ s
  rw [if_neg hno, pick_rev]
  first
    | exact wpAny_bind (m := Builtin.Tuple.tupleExact _) (wpAny_newObj_type (wpAny_pure ⟨_, rfl, wpAny_pure h⟩) hok)
    | exact wpAny_bind (m := Builtin.Tuple.tupleExact _) (wpAny_newObj_type (wpAny_bind (wpAny_pure (wpAny_pure ⟨_, rfl, wpAny_pure h⟩))) hok)
    | exact wpAny_bind (wpAny_bind (m := Builtin.Tuple.tupleExact _) (wpAny_newObj_type (wpAny_pure (wpAny_pure ⟨_, rfl, wpAny_pure h⟩)) hok))
    | exact wpAny_bind (wpAny_bind (m := Builtin.Tuple.tupleExact _) (wpAny_newObj_type (wpAny_pure ⟨_, rfl, wpAny_pure h⟩) hok))
end
section
variable {X : Cx}
def tRevT (K : PySem.W.Frag) (te : TE) : TE := fun σ H Q => te σ H fun x H1 => ∃ a xs, x = .ref a ∧ SqT K H1 a xs ∧ ∀ p, H1 p = none → Q (.ref p) (upd H1 p (.tup xs.reverse))
theorem pe_revT0 {e : Expr} {te : TE} {k : Nat} {p1 p2 p3 pos : Pos} (he : PE X e te) : PE X (.Subscript e (.Slice none none (some (.UnaryOp .USub (.Constant (.int 1) k p1) p2)) p3) pos) (tRevT X.K te) := by
  refine ⟨fun pins s σ H Q I h => ?_⟩
  refine Subscript_ (thn (he.run pins s σ H _ I h) fun v s1 ⟨x, H1, I1, r1, q1⟩ => ?_)
  obtain ⟨a, xs, ex, hx, q⟩ := q1
  subst ex
  cases r1
  have hst : PO X (some (.UnaryOp .USub (.Constant (.int 1) k p1) p2)) (tPart (tUn (rU fun i => .int (-i)) (tC (.int 1)))) := po_some (pe_un un_neg pe_int)
  refine wpAny_Slice (thn (po_none.run pins s1 σ H1 (fun o H2 => o = none ∧ H2 = H1) I1 ⟨rfl, rfl⟩) fun vl s2 ⟨l, H2, I2, pl, el, e2⟩ => ?_)
  subst el e2
  refine thn (po_none.run pins s2 σ H2 (fun o H3 => o = none ∧ H3 = H2) I2 ⟨rfl, rfl⟩) fun vu s3 ⟨u, H3, I3, pu, eu, e3⟩ => ?_
  subst eu e3
  refine thn (hst.run pins s3 σ H3 (fun o H4 => o = some (-1) ∧ H4 = H3) I3 ⟨1, rfl, -1, rfl, rfl, rfl⟩) fun vs s4 ⟨o, H4, I4, ps, eo, e4⟩ => ?_
  subst eo e4
  have I5 : Inv X pins σ H4 { s4 with heap := s4.heap.push { cls := .type "slice", data := .fields #[vl, vu, vs] } } := I4.kept (t' := s4.toks) fun b ob q => Heap.get?_push_of_some _ q
  obtain ⟨its, r, ht, hz⟩ := I5.tuple hx
  have hlen := r.length
  show wpAny (model X.prog X.w) X.A (subscriptTail e (.Slice none none (some (.UnaryOp .USub (.Constant (.int 1) k p1) p2)) p3) (.ref a) (.ref s4.heap.objs.size)) (EP X pins σ Q) X.xe { s4 with heap := s4.heap.push { cls := .type "slice", data := .fields #[vl, vu, vs] } }
  refine tail_any (ops := [.ref a, .ref s4.heap.objs.size]) ht.typeIs (PyProof.Rows.slot_tuple_getitem.lookup) ?_ (by with_unfolding_all rfl)
  refine getItem_rev ht (Heap.IsSliceOf.new _ vl vu vs) pl pu ps ?_ (by rw [List.size_toArray]; omega)
  refine ⟨.ref _, _, I5.laid (t' := s4.toks) (o := .tup xs.reverse) (fun b ob q => Heap.get?_push_of_some _ q) (Nat.le_refl _) ?_, rfl, q _ (I5.hok.fresh (Nat.le_refl _))⟩
  exact ⟨by rw [List.length_reverse]; exact hz, _, r.reverse, IsTup.new _ _⟩
theorem pe_revT {K : PySem.W.Frag} {e : Expr} {te : TE} {k : Nat} {p1 p2 p3 pos : Pos} (hK : X.K = K) (he : PE X e te) : PE X (.Subscript e (.Slice none none (some (.UnaryOp .USub (.Constant (.int 1) k p1) p2)) p3) pos) (tRevT K te) := by
  subst hK
  exact pe_revT0 he
end
end RV
local macro_rules | `(tactic| walk_at "u1") => `(tactic| first
  | (with_reducible refine U.g_seq ?_) | (with_reducible refine U.g_asg ?_) | (with_reducible refine U.g_name ?_) | (with_reducible refine U.g_op ?_) | ((with_reducible refine' U.g_var ?k1 ?k2); (case k1 => exact rfl)) | (with_reducible refine U.g_c ?_)
  | (with_reducible refine U.g_cons ?_) | (with_reducible refine U.g_nil ?_) | (with_reducible refine U.g_cb ?_) | (with_reducible refine U.g_call ?_) | (with_reducible refine U.g_ret ?_) | (with_reducible refine U.g_drop ?_)
  | (with_reducible refine U.g_ifS ?_) | (with_reducible refine U.g_if ?_) | (with_reducible refine U.g_test ?_) | (with_reducible refine U.g_B ?_) | (with_reducible refine U.g_un ?_) | (with_reducible refine U.g_next ?_)
  | (with_reducible refine U.g_bl ?_) | (with_reducible refine U.g_blP ?_) | (with_reducible refine U.g_addI ?_) | (with_reducible refine U.g_subI ?_) | (with_reducible refine U.g_cmpI ?_) | (with_reducible refine U.g_intI ?_) | (with_reducible refine U.g_intB ?_)
  | (with_reducible refine U.g_absI ?_) | (with_reducible refine U.g_negI ?_) | (with_reducible refine U.g_mmI ?_) | (with_reducible refine U.g_and ?_) | (with_reducible refine U.g_or ?_) | (with_reducible refine U.g_not ?_) | (with_reducible refine U.g_andV ?_) | (with_reducible refine U.g_orV ?_) | (with_reducible refine U.g_notV ?_)
  | (with_reducible refine U.g_lst ?_) | (with_reducible refine U.g_tup ?_) | (with_reducible refine U.g_sub ?_) | (with_reducible refine U.g_lrg ?_) | (with_reducible refine U.g_rg1 ?_) | (with_reducible refine U.g_intE ?_) | (with_reducible refine U.g_sl ?_) | (with_reducible refine U.g_noP ?_) | (with_reducible refine U.g_part ?_) | (with_reducible refine U.g_lc ?_) | (with_reducible refine U.g_for ?_) | (with_reducible refine U.g_iList ?_) | (with_reducible refine U.g_iTup ?_) | (with_reducible refine U.g_iRng1 ?_) | (with_reducible refine U.g_iStr ?_) | (with_reducible refine U.g_iEnum ?_) | (with_reducible refine U.g_iVals ?_)
  | (with_reducible refine U.g_dnotin ?_) | (with_reducible refine U.g_din ?_) | (with_reducible refine U.g_dget ?_) | (with_reducible refine U.g_dput ?_) | (with_reducible refine U.g_bm ?_) | (with_reducible refine U.g_bm0 ?_) | (with_reducible refine U.g_dnewK ?_)
  | (with_reducible refine U.g_gcons ?_) | (with_reducible refine U.g_gnil ?_) | (with_reducible refine U.g_par ?_) | (with_reducible refine U.e_two ?_)
  | ((with_reducible refine' U.g_gtup ?k1 ?k2 ?k3); (case k1 => exact L2.SqT.of (by walk_at "hp")); (case k2 => exact rfl))
  | ((with_reducible refine' U.ty_lst ?k1 ?k2); (case k1 => walk_at "hp"))
  | (with_reducible refine U.g_strS ?_) | ((with_reducible refine' U.g_strI ?k1 ?k2); (case k1 => first | decide | omega))
  | (with_reducible refine U.g_nT ?_) | (with_reducible refine U.g_nF ?_) | (with_reducible refine U.g_chain ?_) | (with_reducible refine U.g_m1 ?_) | (with_reducible refine U.e_strE ?_) | (with_reducible refine U.g_disp ?_) | (with_reducible refine U.g_pcons ?_) | (with_reducible refine U.g_pnil ?_) | (with_reducible refine U.e_non ?_) | (with_reducible refine U.g_iRng2 ?_) | (with_reducible refine U.g_par3 ?_) | (with_reducible refine ZT.g_iZipX ?_) | (with_reducible refine U.e_three ?_) | (with_reducible refine ET.g_iEnumT ?_) | (with_reducible refine MD.g_ckw ?_) | (with_reducible refine M.g_fld ?_) | (with_reducible refine M.g_sfld ?_) | (with_reducible refine ZV.g_meth ?_) | (with_reducible refine KW.g_K0 ?_) | (with_reducible refine U.g_yes ?_) | (with_reducible refine U.g_cont ?_) | (with_reducible refine U.g_T ?_) | (with_reducible refine U.g_F ?_)
  | ((with_reducible refine' U.g_modI ?k1 ?k2); (case k1 => first | assumption | decide | omega))
  | ((with_reducible refine' U.g_divP ?k1 ?k2 ?k3); (case k1 => first | assumption | decide | omega); (case k2 => first | assumption | decide | omega))
  | (with_reducible refine U.g_mulB ?_) | (with_reducible refine U.g_powL (by decide +kernel) ?_) | (with_reducible refine U.g_modL (by decide +kernel) ?_)
  | ((with_reducible refine' U.g_mulL ?k1 ?k2); (case k1 => first | decide | omega))
  | ((with_reducible refine' U.g_mulR ?k1 ?k2); (case k1 => first | decide | omega))
  | ((with_reducible refine' U.g_ix ?k1 ?k2 ?k3); (case k1 => walk_at "sq"); (case k2 => exact rfl))
  | ((with_reducible refine' U.g_setL ?k1 ?k2 ?k3); (case k1 => walk_at "hp"); (case k2 => exact rfl))
  | ((with_reducible refine' U.g_eqS ?k1 ?k2); (case k1 => rfl)))
/-- what stands at an address, behind stores -/
local macro_rules | `(tactic| walk_at "hp") => `(tactic| first
  | assumption
  | ((with_reducible refine' U.get_same ?k1); (case k1 => exact rfl))
  | ((with_reducible refine' U.get_new ?k1 ?k2); (case k1 => assumption); (case k2 => walk_at "hp"))
  | ((with_reducible refine' U.get_ne ?k1 ?k2); (case k1 => first | assumption | (apply Ne.symm; assumption)); (case k2 => walk_at "hp")))
local macro_rules | `(tactic| walk_at "sq") => `(tactic| first
  | assumption | exact Or.inl (by assumption) | exact Or.inr (by assumption)
  | exact Or.inl (L2.SqL.of (by walk_at "hp")) | exact Or.inr (L2.SqT.of (by walk_at "hp")))
local macro_rules | `(tactic| walk_at "st") => `(tactic| dsimp only [L2.cxOf, L2.start, List.map, List.length, List.replicate, HAppend.hAppend, Append.append, List.append, Nat.reduceAdd, Nat.reduceSub])
local macro_rules | `(tactic| walk_at "ds") => `(tactic| try dsimp only [List.set, Int.reduceToNat])
local macro_rules | `(tactic| walk_at "go") => `(tactic| ((try dsimp only); (repeat walk_at "u1"); walk_at "ds"))
local macro_rules | `(tactic| walk_at "c2") => `(tactic| (refine U.g_2 (fun c => ?_) (fun c => ?_) <;> (try simp only [decide_eq_true_eq, decide_eq_false_iff_not, Bool.not_eq_true', Bool.not_eq_false'] at c)))
namespace Toy
open PySem L2 U
/-! ### the text by places -/
def top (i : Nat) : Stmt := PySem.Challenge.pw_alikecrowds_k23_whole_heights_that_bar_l.main.body.getD i (.Pass ⟨0, 0, 0, 0⟩)
abbrev s_CrowdError___init__ : Stmt := (inClass (top 2) 0)
abbrev s_is_integer : Stmt := (top 8)
abbrev s_is_tuple_of : Stmt := (top 9)
abbrev s_is_line_value : Stmt := (top 10)
abbrev s_Ladder___init__ : Stmt := (inClass (top 14) 0)
abbrev s_Ladder_loss : Stmt := (inClass (top 14) 1)
abbrev s_Ladder_first_losses : Stmt := (inClass (top 14) 3)
abbrev s_Ladder_crowd : Stmt := (inClass (top 14) 5)
abbrev s_ladder_of : Stmt := (top 15)
abbrev s_sized_ladder : Stmt := (top 16)
abbrev s_has_crowds : Stmt := (top 17)
abbrev s_crowded_ladder : Stmt := (top 18)
abbrev s_heights : Stmt := (top 19)
abbrev s_shows_heights : Stmt := (top 20)
abbrev s__law_pot : Stmt := (top 22)
abbrev s__law_take : Stmt := (top 23)
abbrev s__law_of : Stmt := (top 24)
abbrev s__law_cells : Stmt := (top 25)
abbrev s__law_line_values : Stmt := (top 26)
abbrev s__law_crowd_cost : Stmt := (top 27)
abbrev s__law_cut_costs : Stmt := (top 28)
abbrev s__law_least : Stmt := (top 29)
abbrev s__law_is_int : Stmt := (top 30)
abbrev s__law_may : Stmt := (top 31)
abbrev s__law_near : Stmt := (top 32)
abbrev s__law_right : Stmt := (top 33)
abbrev s_law : Stmt := (top 34)
/-! ### what the top has written -/
structure Tx (K : PySem.W.Frag) (mg : Str → Option Value) where
  a_CrowdError___init__ : Addr
  fd_CrowdError___init__ : FuncData
  F_CrowdError___init__ : Fun K "__init__" "CrowdError.__init__" s_CrowdError___init__ a_CrowdError___init__ fd_CrowdError___init__
  a_is_integer : Addr
  fd_is_integer : FuncData
  F_is_integer : Fun K "is_integer" "is_integer" s_is_integer a_is_integer fd_is_integer
  m_is_integer : mg "is_integer" = some (.ref a_is_integer)
  a_is_tuple_of : Addr
  fd_is_tuple_of : FuncData
  F_is_tuple_of : Fun K "is_tuple_of" "is_tuple_of" s_is_tuple_of a_is_tuple_of fd_is_tuple_of
  m_is_tuple_of : mg "is_tuple_of" = some (.ref a_is_tuple_of)
  a_is_line_value : Addr
  fd_is_line_value : FuncData
  F_is_line_value : Fun K "is_line_value" "is_line_value" s_is_line_value a_is_line_value fd_is_line_value
  m_is_line_value : mg "is_line_value" = some (.ref a_is_line_value)
  a_Ladder___init__ : Addr
  fd_Ladder___init__ : FuncData
  F_Ladder___init__ : Fun K "__init__" "Ladder.__init__" s_Ladder___init__ a_Ladder___init__ fd_Ladder___init__
  a_Ladder_loss : Addr
  fd_Ladder_loss : FuncData
  F_Ladder_loss : Fun K "loss" "Ladder.loss" s_Ladder_loss a_Ladder_loss fd_Ladder_loss
  a_Ladder_first_losses : Addr
  fd_Ladder_first_losses : FuncData
  F_Ladder_first_losses : Fun K "first_losses" "Ladder.first_losses" s_Ladder_first_losses a_Ladder_first_losses fd_Ladder_first_losses
  a_Ladder_crowd : Addr
  fd_Ladder_crowd : FuncData
  F_Ladder_crowd : Fun K "crowd" "Ladder.crowd" s_Ladder_crowd a_Ladder_crowd fd_Ladder_crowd
  a_ladder_of : Addr
  fd_ladder_of : FuncData
  F_ladder_of : Fun K "ladder_of" "ladder_of" s_ladder_of a_ladder_of fd_ladder_of
  m_ladder_of : mg "ladder_of" = some (.ref a_ladder_of)
  a_sized_ladder : Addr
  fd_sized_ladder : FuncData
  F_sized_ladder : Fun K "sized_ladder" "sized_ladder" s_sized_ladder a_sized_ladder fd_sized_ladder
  m_sized_ladder : mg "sized_ladder" = some (.ref a_sized_ladder)
  a_has_crowds : Addr
  fd_has_crowds : FuncData
  F_has_crowds : Fun K "has_crowds" "has_crowds" s_has_crowds a_has_crowds fd_has_crowds
  m_has_crowds : mg "has_crowds" = some (.ref a_has_crowds)
  a_crowded_ladder : Addr
  fd_crowded_ladder : FuncData
  F_crowded_ladder : Fun K "crowded_ladder" "crowded_ladder" s_crowded_ladder a_crowded_ladder fd_crowded_ladder
  m_crowded_ladder : mg "crowded_ladder" = some (.ref a_crowded_ladder)
  a_heights : Addr
  fd_heights : FuncData
  F_heights : Fun K "heights" "heights" s_heights a_heights fd_heights
  m_heights : mg "heights" = some (.ref a_heights)
  a_shows_heights : Addr
  fd_shows_heights : FuncData
  F_shows_heights : Fun K "shows_heights" "shows_heights" s_shows_heights a_shows_heights fd_shows_heights
  m_shows_heights : mg "shows_heights" = some (.ref a_shows_heights)
  a__law_pot : Addr
  fd__law_pot : FuncData
  F__law_pot : Fun K "_law_pot" "_law_pot" s__law_pot a__law_pot fd__law_pot
  m__law_pot : mg "_law_pot" = some (.ref a__law_pot)
  a__law_take : Addr
  fd__law_take : FuncData
  F__law_take : Fun K "_law_take" "_law_take" s__law_take a__law_take fd__law_take
  m__law_take : mg "_law_take" = some (.ref a__law_take)
  a__law_of : Addr
  fd__law_of : FuncData
  F__law_of : Fun K "_law_of" "_law_of" s__law_of a__law_of fd__law_of
  m__law_of : mg "_law_of" = some (.ref a__law_of)
  a__law_cells : Addr
  fd__law_cells : FuncData
  F__law_cells : Fun K "_law_cells" "_law_cells" s__law_cells a__law_cells fd__law_cells
  m__law_cells : mg "_law_cells" = some (.ref a__law_cells)
  a__law_line_values : Addr
  fd__law_line_values : FuncData
  F__law_line_values : Fun K "_law_line_values" "_law_line_values" s__law_line_values a__law_line_values fd__law_line_values
  m__law_line_values : mg "_law_line_values" = some (.ref a__law_line_values)
  a__law_crowd_cost : Addr
  fd__law_crowd_cost : FuncData
  F__law_crowd_cost : Fun K "_law_crowd_cost" "_law_crowd_cost" s__law_crowd_cost a__law_crowd_cost fd__law_crowd_cost
  m__law_crowd_cost : mg "_law_crowd_cost" = some (.ref a__law_crowd_cost)
  a__law_cut_costs : Addr
  fd__law_cut_costs : FuncData
  F__law_cut_costs : Fun K "_law_cut_costs" "_law_cut_costs" s__law_cut_costs a__law_cut_costs fd__law_cut_costs
  m__law_cut_costs : mg "_law_cut_costs" = some (.ref a__law_cut_costs)
  a__law_least : Addr
  fd__law_least : FuncData
  F__law_least : Fun K "_law_least" "_law_least" s__law_least a__law_least fd__law_least
  m__law_least : mg "_law_least" = some (.ref a__law_least)
  a__law_is_int : Addr
  fd__law_is_int : FuncData
  F__law_is_int : Fun K "_law_is_int" "_law_is_int" s__law_is_int a__law_is_int fd__law_is_int
  m__law_is_int : mg "_law_is_int" = some (.ref a__law_is_int)
  a__law_may : Addr
  fd__law_may : FuncData
  F__law_may : Fun K "_law_may" "_law_may" s__law_may a__law_may fd__law_may
  m__law_may : mg "_law_may" = some (.ref a__law_may)
  a__law_near : Addr
  fd__law_near : FuncData
  F__law_near : Fun K "_law_near" "_law_near" s__law_near a__law_near fd__law_near
  m__law_near : mg "_law_near" = some (.ref a__law_near)
  a__law_right : Addr
  fd__law_right : FuncData
  F__law_right : Fun K "_law_right" "_law_right" s__law_right a__law_right fd__law_right
  m__law_right : mg "_law_right" = some (.ref a__law_right)
  a_law : Addr
  fd_law : FuncData
  F_law : Fun K "law" "law" s_law a_law fd_law
  m_law : mg "law" = some (.ref a_law)
  C_Ladder : Addr
  m_Ladder : mg "Ladder" = some (.ref C_Ladder)
  cl_Ladder : Cls K C_Ladder
  M_Ladder : Mk K C_Ladder a_Ladder___init__
  me_Ladder_loss : Meth K C_Ladder "loss" a_Ladder_loss
  me_Ladder_first_losses : Meth K C_Ladder "first_losses" a_Ladder_first_losses
  me_Ladder_crowd : Meth K C_Ladder "crowd" a_Ladder_crowd
  na_Ladder_ascending : NoAttr K C_Ladder "ascending"
  na_Ladder_places : NoAttr K C_Ladder "places"
  na_Ladder_sums : NoAttr K C_Ladder "sums"
  C_NoCrowds : Addr
  m_NoCrowds : mg "NoCrowds" = some (.ref C_NoCrowds)
  e_NoCrowds : EX.ErrC K a_CrowdError___init__ C_NoCrowds
  x_NoCrowds : PySem.W.exmOne K (.ref C_NoCrowds) (.ref C_NoCrowds) = some true
  tI : PySem.W.typeIn K (.ref a_CrowdError___init__) = some (.type "function")
  m_FARTHEST : ∃ t, mg "FARTHEST" = some (.int 1000000 t)
  m_MOST_SIZE : ∃ t, mg "MOST_SIZE" = some (.int 200 t)
  m_MOST_VALUES : ∃ t, mg "MOST_VALUES" = some (.int 200 t)
  n_abs : mg "abs" = none
  n_all : mg "all" = none
  n_bool : mg "bool" = none
  n_enumerate : mg "enumerate" = none
  n_int : mg "int" = none
  n_isinstance : mg "isinstance" = none
  n_len : mg "len" = none
  n_list : mg "list" = none
  n_max : mg "max" = none
  n_min : mg "min" = none
  n_range : mg "range" = none
  n_repr : mg "repr" = none
  n_sorted : mg "sorted" = none
  n_sum : mg "sum" = none
  n_tuple : mg "tuple" = none
section
variable {K : PySem.W.Frag} {mg : Str → Option Value}
theorem b_CrowdError___init__ (T : Tx K mg) : Binds K T.fd_CrowdError___init__ ["self", "value"] [] := T.F_CrowdError___init__.binds fun _ _ _ _ _ _ us hl => match us, hl with | [_, _], _ => rfl
theorem b_is_integer (T : Tx K mg) : Binds K T.fd_is_integer ["value"] [] := T.F_is_integer.binds fun _ _ _ _ _ _ us hl => match us, hl with | [_], _ => rfl
theorem b_is_tuple_of (T : Tx K mg) : Binds K T.fd_is_tuple_of ["value", "many"] [] := T.F_is_tuple_of.binds fun _ _ _ _ _ _ us hl => match us, hl with | [_, _], _ => rfl
theorem b_is_line_value (T : Tx K mg) : Binds K T.fd_is_line_value ["value"] [] := T.F_is_line_value.binds fun _ _ _ _ _ _ us hl => match us, hl with | [_], _ => rfl
theorem b_Ladder___init__ (T : Tx K mg) : Binds K T.fd_Ladder___init__ ["self", "values"] [] := T.F_Ladder___init__.binds fun _ _ _ _ _ _ us hl => match us, hl with | [_, _], _ => rfl
theorem b_Ladder_loss (T : Tx K mg) : Binds K T.fd_Ladder_loss ["self", "begin", "end"] [] := T.F_Ladder_loss.binds fun _ _ _ _ _ _ us hl => match us, hl with | [_, _, _], _ => rfl
theorem b_Ladder_first_losses (T : Tx K mg) : Binds K T.fd_Ladder_first_losses ["self", "size"] [] := T.F_Ladder_first_losses.binds fun _ _ _ _ _ _ us hl => match us, hl with | [_, _], _ => rfl
theorem b_ladder_of (T : Tx K mg) : Binds K T.fd_ladder_of ["values"] [] := T.F_ladder_of.binds fun _ _ _ _ _ _ us hl => match us, hl with | [_], _ => rfl
theorem b_sized_ladder (T : Tx K mg) : Binds K T.fd_sized_ladder ["values", "size"] [] := T.F_sized_ladder.binds fun _ _ _ _ _ _ us hl => match us, hl with | [_, _], _ => rfl
theorem b_has_crowds (T : Tx K mg) : Binds K T.fd_has_crowds ["values", "size"] [] := T.F_has_crowds.binds fun _ _ _ _ _ _ us hl => match us, hl with | [_, _], _ => rfl
theorem b_crowded_ladder (T : Tx K mg) : Binds K T.fd_crowded_ladder ["values", "size"] [] := T.F_crowded_ladder.binds fun _ _ _ _ _ _ us hl => match us, hl with | [_, _], _ => rfl
theorem b_heights (T : Tx K mg) : Binds K T.fd_heights ["values", "size"] [] := T.F_heights.binds fun _ _ _ _ _ _ us hl => match us, hl with | [_, _], _ => rfl
theorem b_shows_heights (T : Tx K mg) : Binds K T.fd_shows_heights ["values", "size", "value"] [] := T.F_shows_heights.binds fun _ _ _ _ _ _ us hl => match us, hl with | [_, _, _], _ => rfl
theorem b__law_pot (T : Tx K mg) : Binds K T.fd__law_pot ["script", "place"] [] := T.F__law_pot.binds fun _ _ _ _ _ _ us hl => match us, hl with | [_, _], _ => rfl
theorem b__law_take (T : Tx K mg) : Binds K T.fd__law_take ["pot", "upto"] [] := T.F__law_take.binds fun _ _ _ _ _ _ us hl => match us, hl with | [_, _], _ => rfl
theorem b__law_of (T : Tx K mg) : Binds K T.fd__law_of ["pot", "some"] [] := T.F__law_of.binds fun _ _ _ _ _ _ us hl => match us, hl with | [_, _], _ => rfl
theorem b__law_cells (T : Tx K mg) : Binds K T.fd__law_cells ["script", "most"] [] := T.F__law_cells.binds fun _ _ _ _ _ _ us hl => match us, hl with | [_, _], _ => rfl
theorem b__law_line_values (T : Tx K mg) : Binds K T.fd__law_line_values ["pot", "most"] [] := T.F__law_line_values.binds fun _ _ _ _ _ _ us hl => match us, hl with | [_, _], _ => rfl
theorem b__law_crowd_cost (T : Tx K mg) : Binds K T.fd__law_crowd_cost ["members"] [] := T.F__law_crowd_cost.binds fun _ _ _ _ _ _ us hl => match us, hl with | [_], _ => rfl
theorem b__law_cut_costs (T : Tx K mg) : Binds K T.fd__law_cut_costs ["values", "least"] [] := T.F__law_cut_costs.binds fun _ _ _ _ _ _ us hl => match us, hl with | [_, _], _ => rfl
theorem b__law_least (T : Tx K mg) : Binds K T.fd__law_least ["values", "least"] [] := T.F__law_least.binds fun _ _ _ _ _ _ us hl => match us, hl with | [_, _], _ => rfl
theorem b__law_is_int (T : Tx K mg) : Binds K T.fd__law_is_int ["thing"] [] := T.F__law_is_int.binds fun _ _ _ _ _ _ us hl => match us, hl with | [_], _ => rfl
theorem b__law_may (T : Tx K mg) : Binds K T.fd__law_may ["values", "least", "value"] [] := T.F__law_may.binds fun _ _ _ _ _ _ us hl => match us, hl with | [_, _, _], _ => rfl
theorem b__law_near (T : Tx K mg) : Binds K T.fd__law_near ["pot", "told"] [] := T.F__law_near.binds fun _ _ _ _ _ _ us hl => match us, hl with | [_, _], _ => rfl
theorem b__law_right (T : Tx K mg) : Binds K T.fd__law_right ["pot"] [] := T.F__law_right.binds fun _ _ _ _ _ _ us hl => match us, hl with | [_], _ => rfl
end
end Toy

namespace Toy
open PySem L2 U
def mkL : List Str := ["_law_right"]
/-- the makers of lambdas: where their code objects and tables stand -/
structure LamT {K : PySem.W.Frag} {mg : Str → Option Value} (base : Heap) (T : Tx K mg) : Prop where
  c__law_right : LX.cdOf K T.a__law_right = some (LX.pcode K "_law_right")
  t__law_right : LamX.TabB base mg (LX.pcode K "_law_right") (LX.ptab K "_law_right")
theorem mk_LamT {K : PySem.W.Frag} {mg : Str → Option Value} {base h : Heap} (T : Tx K mg) (KX : K.In h) (G : h.Ns mainGlobals mg) (ls : ∀ y ∈ mkL, LX.LamSays K h y) (tb : ∀ y ∈ mkL, LamX.TabB base mg (LX.pcode K y) (LX.ptab K y)) : LamT base T := by
  have e__law_right : T.a__law_right = He.ga K "_law_right" := by
    have e := T.m__law_right.symm.trans (PySem.W.mg_of KX G (He.eqO_ok (ls "_law_right" (by simp [mkL])).glo))
    injection e with e
    injection e
  exact ⟨(by rw [e__law_right]; exact (ls "_law_right" (by simp [mkL])).cd), tb _ (by simp [mkL])⟩
end Toy

namespace Toy
open PySem PySem.Spec L2 U M QD G
def mkoB (K : PySem.W.Frag) (C : Addr) : Bool := PySem.W.makesIn K C && (He.eqO (PySem.W.findIn K (.ref C) "__init__") (some (some (.builtin "object.__init__"))) && PySem.W.keepIn K (.ref C))
def d_CrowdError___init__ : He.FnD := ⟨("CrowdError", some "__init__"), "__init__", "CrowdError.__init__", defArgs s_CrowdError___init__, defBody s_CrowdError___init__, defScope s_CrowdError___init__⟩
def d_is_integer : He.FnD := ⟨("is_integer", none), "is_integer", "is_integer", defArgs s_is_integer, defBody s_is_integer, defScope s_is_integer⟩
def d_is_tuple_of : He.FnD := ⟨("is_tuple_of", none), "is_tuple_of", "is_tuple_of", defArgs s_is_tuple_of, defBody s_is_tuple_of, defScope s_is_tuple_of⟩
def d_is_line_value : He.FnD := ⟨("is_line_value", none), "is_line_value", "is_line_value", defArgs s_is_line_value, defBody s_is_line_value, defScope s_is_line_value⟩
def d_Ladder___init__ : He.FnD := ⟨("Ladder", some "__init__"), "__init__", "Ladder.__init__", defArgs s_Ladder___init__, defBody s_Ladder___init__, defScope s_Ladder___init__⟩
def d_Ladder_loss : He.FnD := ⟨("Ladder", some "loss"), "loss", "Ladder.loss", defArgs s_Ladder_loss, defBody s_Ladder_loss, defScope s_Ladder_loss⟩
def d_Ladder_first_losses : He.FnD := ⟨("Ladder", some "first_losses"), "first_losses", "Ladder.first_losses", defArgs s_Ladder_first_losses, defBody s_Ladder_first_losses, defScope s_Ladder_first_losses⟩
def d_Ladder_crowd : He.FnD := ⟨("Ladder", some "crowd"), "crowd", "Ladder.crowd", defArgs s_Ladder_crowd, defBody s_Ladder_crowd, defScope s_Ladder_crowd⟩
def d_ladder_of : He.FnD := ⟨("ladder_of", none), "ladder_of", "ladder_of", defArgs s_ladder_of, defBody s_ladder_of, defScope s_ladder_of⟩
def d_sized_ladder : He.FnD := ⟨("sized_ladder", none), "sized_ladder", "sized_ladder", defArgs s_sized_ladder, defBody s_sized_ladder, defScope s_sized_ladder⟩
def d_has_crowds : He.FnD := ⟨("has_crowds", none), "has_crowds", "has_crowds", defArgs s_has_crowds, defBody s_has_crowds, defScope s_has_crowds⟩
def d_crowded_ladder : He.FnD := ⟨("crowded_ladder", none), "crowded_ladder", "crowded_ladder", defArgs s_crowded_ladder, defBody s_crowded_ladder, defScope s_crowded_ladder⟩
def d_heights : He.FnD := ⟨("heights", none), "heights", "heights", defArgs s_heights, defBody s_heights, defScope s_heights⟩
def d_shows_heights : He.FnD := ⟨("shows_heights", none), "shows_heights", "shows_heights", defArgs s_shows_heights, defBody s_shows_heights, defScope s_shows_heights⟩
def d__law_pot : He.FnD := ⟨("_law_pot", none), "_law_pot", "_law_pot", defArgs s__law_pot, defBody s__law_pot, defScope s__law_pot⟩
def d__law_take : He.FnD := ⟨("_law_take", none), "_law_take", "_law_take", defArgs s__law_take, defBody s__law_take, defScope s__law_take⟩
def d__law_of : He.FnD := ⟨("_law_of", none), "_law_of", "_law_of", defArgs s__law_of, defBody s__law_of, defScope s__law_of⟩
def d__law_cells : He.FnD := ⟨("_law_cells", none), "_law_cells", "_law_cells", defArgs s__law_cells, defBody s__law_cells, defScope s__law_cells⟩
def d__law_line_values : He.FnD := ⟨("_law_line_values", none), "_law_line_values", "_law_line_values", defArgs s__law_line_values, defBody s__law_line_values, defScope s__law_line_values⟩
def d__law_crowd_cost : He.FnD := ⟨("_law_crowd_cost", none), "_law_crowd_cost", "_law_crowd_cost", defArgs s__law_crowd_cost, defBody s__law_crowd_cost, defScope s__law_crowd_cost⟩
def d__law_cut_costs : He.FnD := ⟨("_law_cut_costs", none), "_law_cut_costs", "_law_cut_costs", defArgs s__law_cut_costs, defBody s__law_cut_costs, defScope s__law_cut_costs⟩
def d__law_least : He.FnD := ⟨("_law_least", none), "_law_least", "_law_least", defArgs s__law_least, defBody s__law_least, defScope s__law_least⟩
def d__law_is_int : He.FnD := ⟨("_law_is_int", none), "_law_is_int", "_law_is_int", defArgs s__law_is_int, defBody s__law_is_int, defScope s__law_is_int⟩
def d__law_may : He.FnD := ⟨("_law_may", none), "_law_may", "_law_may", defArgs s__law_may, defBody s__law_may, defScope s__law_may⟩
def d__law_near : He.FnD := ⟨("_law_near", none), "_law_near", "_law_near", defArgs s__law_near, defBody s__law_near, defScope s__law_near⟩
def d__law_right : He.FnD := ⟨("_law_right", none), "_law_right", "_law_right", defArgs s__law_right, defBody s__law_right, defScope s__law_right⟩
def d_law : He.FnD := ⟨("law", none), "law", "law", defArgs s_law, defBody s_law, defScope s_law⟩
def xB2 (K : PySem.W.Frag) : Bool := EX.errB K (He.ma K (He.ga K "CrowdError") "__init__") (He.ga K "CrowdError") (He.ga K "NoCrowds") && (decide (PySem.W.exmOne K (.ref (He.ga K "NoCrowds")) (.ref (He.ga K "NoCrowds")) = some true) && (decide (PySem.W.typeIn K (.ref (He.ma K (He.ga K "CrowdError") "__init__")) = some (.type "function"))))
def fnL : List He.FnD := [d_CrowdError___init__, d_is_integer, d_is_tuple_of, d_is_line_value, d_Ladder___init__, d_Ladder_loss, d_Ladder_first_losses, d_Ladder_crowd, d_ladder_of, d_sized_ladder, d_has_crowds, d_crowded_ladder, d_heights, d_shows_heights, d__law_pot, d__law_take, d__law_of, d__law_cells, d__law_line_values, d__law_crowd_cost, d__law_cut_costs, d__law_least, d__law_is_int, d__law_may, d__law_near, d__law_right, d_law]
def faL : List He.Fa := [.glo "is_integer", .glo "is_tuple_of", .glo "is_line_value", .glo "ladder_of", .glo "sized_ladder", .glo "has_crowds", .glo "crowded_ladder", .glo "heights", .glo "shows_heights", .glo "_law_pot", .glo "_law_take", .glo "_law_of", .glo "_law_cells", .glo "_law_line_values", .glo "_law_crowd_cost", .glo "_law_cut_costs", .glo "_law_least", .glo "_law_is_int", .glo "_law_may", .glo "_law_near", .glo "_law_right", .glo "law", .int "FARTHEST" 1000000, .int "MOST_SIZE" 200, .int "MOST_VALUES" 200, .free "abs", .free "all", .free "bool", .free "enumerate", .free "int", .free "isinstance", .free "len", .free "list", .free "max", .free "min", .free "range", .free "repr", .free "sorted", .free "sum", .free "tuple", .glo "Ladder", .cls "Ladder", .mkr "Ladder", .meth "Ladder" "loss", .meth "Ladder" "first_losses", .meth "Ladder" "crowd", .noat "Ladder" "ascending", .noat "Ladder" "places", .noat "Ladder" "sums", .glo "NoCrowds"]
def nmL : List Str := (["NoCrowds", "Ladder", "is_integer", "is_tuple_of", "is_line_value", "ladder_of", "sized_ladder", "has_crowds", "crowded_ladder", "heights", "shows_heights", "_law_pot", "_law_take", "_law_of", "_law_cells", "_law_line_values", "_law_crowd_cost", "_law_cut_costs", "_law_least", "_law_is_int", "_law_may", "_law_near", "_law_right", "law", "FARTHEST", "MOST_SIZE", "MOST_VALUES", "CrowdError"] : List Str)
def xB (K : PySem.W.Frag) : Bool := (fnL.all fun d => PySem.W.keepIn K (.ref (He.fAd K d.at_))) && (xB2 K)
theorem mk_TxX {K : PySem.W.Frag} {mg : Str → Option Value} {h : Heap} (X : K.In h) (G : h.Ns mainGlobals mg) (c : He.SaysE faL fnL K) (x : xB K = true) : Nonempty (Tx K mg) := by
  obtain ⟨x1, x⟩ := He.ba x
  have kk : ∀ (i : Nat) {d : He.FnD}, fnL[i]? = some d → PySem.W.keepIn K (.ref (He.fAd K d.at_)) = true := fun i d h => List.all_eq_true.mp x1 d (List.mem_of_getElem? h)
  obtain ⟨oc0, od0, sl0, kV0, dc0, pm0, an0, cd0, ct0, l0, c0⟩ := c.def_ 0 (d := d_CrowdError___init__) rfl
  obtain ⟨oc1, od1, sl1, kV1, dc1, pm1, an1, cd1, ct1, l1, c1⟩ := c.def_ 1 (d := d_is_integer) rfl
  obtain ⟨oc2, od2, sl2, kV2, dc2, pm2, an2, cd2, ct2, l2, c2⟩ := c.def_ 2 (d := d_is_tuple_of) rfl
  obtain ⟨oc3, od3, sl3, kV3, dc3, pm3, an3, cd3, ct3, l3, c3⟩ := c.def_ 3 (d := d_is_line_value) rfl
  obtain ⟨oc4, od4, sl4, kV4, dc4, pm4, an4, cd4, ct4, l4, c4⟩ := c.def_ 4 (d := d_Ladder___init__) rfl
  obtain ⟨oc5, od5, sl5, kV5, dc5, pm5, an5, cd5, ct5, l5, c5⟩ := c.def_ 5 (d := d_Ladder_loss) rfl
  obtain ⟨oc6, od6, sl6, kV6, dc6, pm6, an6, cd6, ct6, l6, c6⟩ := c.def_ 6 (d := d_Ladder_first_losses) rfl
  obtain ⟨oc7, od7, sl7, kV7, dc7, pm7, an7, cd7, ct7, l7, c7⟩ := c.def_ 7 (d := d_Ladder_crowd) rfl
  obtain ⟨oc8, od8, sl8, kV8, dc8, pm8, an8, cd8, ct8, l8, c8⟩ := c.def_ 8 (d := d_ladder_of) rfl
  obtain ⟨oc9, od9, sl9, kV9, dc9, pm9, an9, cd9, ct9, l9, c9⟩ := c.def_ 9 (d := d_sized_ladder) rfl
  obtain ⟨oc10, od10, sl10, kV10, dc10, pm10, an10, cd10, ct10, l10, c10⟩ := c.def_ 10 (d := d_has_crowds) rfl
  obtain ⟨oc11, od11, sl11, kV11, dc11, pm11, an11, cd11, ct11, l11, c11⟩ := c.def_ 11 (d := d_crowded_ladder) rfl
  obtain ⟨oc12, od12, sl12, kV12, dc12, pm12, an12, cd12, ct12, l12, c12⟩ := c.def_ 12 (d := d_heights) rfl
  obtain ⟨oc13, od13, sl13, kV13, dc13, pm13, an13, cd13, ct13, l13, c13⟩ := c.def_ 13 (d := d_shows_heights) rfl
  obtain ⟨oc14, od14, sl14, kV14, dc14, pm14, an14, cd14, ct14, l14, c14⟩ := c.def_ 14 (d := d__law_pot) rfl
  obtain ⟨oc15, od15, sl15, kV15, dc15, pm15, an15, cd15, ct15, l15, c15⟩ := c.def_ 15 (d := d__law_take) rfl
  obtain ⟨oc16, od16, sl16, kV16, dc16, pm16, an16, cd16, ct16, l16, c16⟩ := c.def_ 16 (d := d__law_of) rfl
  obtain ⟨oc17, od17, sl17, kV17, dc17, pm17, an17, cd17, ct17, l17, c17⟩ := c.def_ 17 (d := d__law_cells) rfl
  obtain ⟨oc18, od18, sl18, kV18, dc18, pm18, an18, cd18, ct18, l18, c18⟩ := c.def_ 18 (d := d__law_line_values) rfl
  obtain ⟨oc19, od19, sl19, kV19, dc19, pm19, an19, cd19, ct19, l19, c19⟩ := c.def_ 19 (d := d__law_crowd_cost) rfl
  obtain ⟨oc20, od20, sl20, kV20, dc20, pm20, an20, cd20, ct20, l20, c20⟩ := c.def_ 20 (d := d__law_cut_costs) rfl
  obtain ⟨oc21, od21, sl21, kV21, dc21, pm21, an21, cd21, ct21, l21, c21⟩ := c.def_ 21 (d := d__law_least) rfl
  obtain ⟨oc22, od22, sl22, kV22, dc22, pm22, an22, cd22, ct22, l22, c22⟩ := c.def_ 22 (d := d__law_is_int) rfl
  obtain ⟨oc23, od23, sl23, kV23, dc23, pm23, an23, cd23, ct23, l23, c23⟩ := c.def_ 23 (d := d__law_may) rfl
  obtain ⟨oc24, od24, sl24, kV24, dc24, pm24, an24, cd24, ct24, l24, c24⟩ := c.def_ 24 (d := d__law_near) rfl
  obtain ⟨oc25, od25, sl25, kV25, dc25, pm25, an25, cd25, ct25, l25, c25⟩ := c.def_ 25 (d := d__law_right) rfl
  obtain ⟨oc26, od26, sl26, kV26, dc26, pm26, an26, cd26, ct26, l26, c26⟩ := c.def_ 26 (d := d_law) rfl
  obtain ⟨y0, x⟩ := He.ba x
  obtain ⟨y1, x⟩ := He.ba x
  have y2 := x
  exact ⟨{
    a_CrowdError___init__ := He.fAd K ("CrowdError", some "__init__"), fd_CrowdError___init__ := _, F_CrowdError___init__ := fun_mk (st := s_CrowdError___init__) l0 c0 (kk 0 (d := d_CrowdError___init__) rfl),
    a_is_integer := He.fAd K ("is_integer", none), fd_is_integer := _, F_is_integer := fun_mk (st := s_is_integer) l1 c1 (kk 1 (d := d_is_integer) rfl),
    m_is_integer := He.glo_ok X G (c.fact 0 (f := .glo "is_integer") rfl),
    a_is_tuple_of := He.fAd K ("is_tuple_of", none), fd_is_tuple_of := _, F_is_tuple_of := fun_mk (st := s_is_tuple_of) l2 c2 (kk 2 (d := d_is_tuple_of) rfl),
    m_is_tuple_of := He.glo_ok X G (c.fact 1 (f := .glo "is_tuple_of") rfl),
    a_is_line_value := He.fAd K ("is_line_value", none), fd_is_line_value := _, F_is_line_value := fun_mk (st := s_is_line_value) l3 c3 (kk 3 (d := d_is_line_value) rfl),
    m_is_line_value := He.glo_ok X G (c.fact 2 (f := .glo "is_line_value") rfl),
    a_Ladder___init__ := He.fAd K ("Ladder", some "__init__"), fd_Ladder___init__ := _, F_Ladder___init__ := fun_mk (st := s_Ladder___init__) l4 c4 (kk 4 (d := d_Ladder___init__) rfl),
    a_Ladder_loss := He.fAd K ("Ladder", some "loss"), fd_Ladder_loss := _, F_Ladder_loss := fun_mk (st := s_Ladder_loss) l5 c5 (kk 5 (d := d_Ladder_loss) rfl),
    a_Ladder_first_losses := He.fAd K ("Ladder", some "first_losses"), fd_Ladder_first_losses := _, F_Ladder_first_losses := fun_mk (st := s_Ladder_first_losses) l6 c6 (kk 6 (d := d_Ladder_first_losses) rfl),
    a_Ladder_crowd := He.fAd K ("Ladder", some "crowd"), fd_Ladder_crowd := _, F_Ladder_crowd := fun_mk (st := s_Ladder_crowd) l7 c7 (kk 7 (d := d_Ladder_crowd) rfl),
    a_ladder_of := He.fAd K ("ladder_of", none), fd_ladder_of := _, F_ladder_of := fun_mk (st := s_ladder_of) l8 c8 (kk 8 (d := d_ladder_of) rfl),
    m_ladder_of := He.glo_ok X G (c.fact 3 (f := .glo "ladder_of") rfl),
    a_sized_ladder := He.fAd K ("sized_ladder", none), fd_sized_ladder := _, F_sized_ladder := fun_mk (st := s_sized_ladder) l9 c9 (kk 9 (d := d_sized_ladder) rfl),
    m_sized_ladder := He.glo_ok X G (c.fact 4 (f := .glo "sized_ladder") rfl),
    a_has_crowds := He.fAd K ("has_crowds", none), fd_has_crowds := _, F_has_crowds := fun_mk (st := s_has_crowds) l10 c10 (kk 10 (d := d_has_crowds) rfl),
    m_has_crowds := He.glo_ok X G (c.fact 5 (f := .glo "has_crowds") rfl),
    a_crowded_ladder := He.fAd K ("crowded_ladder", none), fd_crowded_ladder := _, F_crowded_ladder := fun_mk (st := s_crowded_ladder) l11 c11 (kk 11 (d := d_crowded_ladder) rfl),
    m_crowded_ladder := He.glo_ok X G (c.fact 6 (f := .glo "crowded_ladder") rfl),
    a_heights := He.fAd K ("heights", none), fd_heights := _, F_heights := fun_mk (st := s_heights) l12 c12 (kk 12 (d := d_heights) rfl),
    m_heights := He.glo_ok X G (c.fact 7 (f := .glo "heights") rfl),
    a_shows_heights := He.fAd K ("shows_heights", none), fd_shows_heights := _, F_shows_heights := fun_mk (st := s_shows_heights) l13 c13 (kk 13 (d := d_shows_heights) rfl),
    m_shows_heights := He.glo_ok X G (c.fact 8 (f := .glo "shows_heights") rfl),
    a__law_pot := He.fAd K ("_law_pot", none), fd__law_pot := _, F__law_pot := fun_mk (st := s__law_pot) l14 c14 (kk 14 (d := d__law_pot) rfl),
    m__law_pot := He.glo_ok X G (c.fact 9 (f := .glo "_law_pot") rfl),
    a__law_take := He.fAd K ("_law_take", none), fd__law_take := _, F__law_take := fun_mk (st := s__law_take) l15 c15 (kk 15 (d := d__law_take) rfl),
    m__law_take := He.glo_ok X G (c.fact 10 (f := .glo "_law_take") rfl),
    a__law_of := He.fAd K ("_law_of", none), fd__law_of := _, F__law_of := fun_mk (st := s__law_of) l16 c16 (kk 16 (d := d__law_of) rfl),
    m__law_of := He.glo_ok X G (c.fact 11 (f := .glo "_law_of") rfl),
    a__law_cells := He.fAd K ("_law_cells", none), fd__law_cells := _, F__law_cells := fun_mk (st := s__law_cells) l17 c17 (kk 17 (d := d__law_cells) rfl),
    m__law_cells := He.glo_ok X G (c.fact 12 (f := .glo "_law_cells") rfl),
    a__law_line_values := He.fAd K ("_law_line_values", none), fd__law_line_values := _, F__law_line_values := fun_mk (st := s__law_line_values) l18 c18 (kk 18 (d := d__law_line_values) rfl),
    m__law_line_values := He.glo_ok X G (c.fact 13 (f := .glo "_law_line_values") rfl),
    a__law_crowd_cost := He.fAd K ("_law_crowd_cost", none), fd__law_crowd_cost := _, F__law_crowd_cost := fun_mk (st := s__law_crowd_cost) l19 c19 (kk 19 (d := d__law_crowd_cost) rfl),
    m__law_crowd_cost := He.glo_ok X G (c.fact 14 (f := .glo "_law_crowd_cost") rfl),
    a__law_cut_costs := He.fAd K ("_law_cut_costs", none), fd__law_cut_costs := _, F__law_cut_costs := fun_mk (st := s__law_cut_costs) l20 c20 (kk 20 (d := d__law_cut_costs) rfl),
    m__law_cut_costs := He.glo_ok X G (c.fact 15 (f := .glo "_law_cut_costs") rfl),
    a__law_least := He.fAd K ("_law_least", none), fd__law_least := _, F__law_least := fun_mk (st := s__law_least) l21 c21 (kk 21 (d := d__law_least) rfl),
    m__law_least := He.glo_ok X G (c.fact 16 (f := .glo "_law_least") rfl),
    a__law_is_int := He.fAd K ("_law_is_int", none), fd__law_is_int := _, F__law_is_int := fun_mk (st := s__law_is_int) l22 c22 (kk 22 (d := d__law_is_int) rfl),
    m__law_is_int := He.glo_ok X G (c.fact 17 (f := .glo "_law_is_int") rfl),
    a__law_may := He.fAd K ("_law_may", none), fd__law_may := _, F__law_may := fun_mk (st := s__law_may) l23 c23 (kk 23 (d := d__law_may) rfl),
    m__law_may := He.glo_ok X G (c.fact 18 (f := .glo "_law_may") rfl),
    a__law_near := He.fAd K ("_law_near", none), fd__law_near := _, F__law_near := fun_mk (st := s__law_near) l24 c24 (kk 24 (d := d__law_near) rfl),
    m__law_near := He.glo_ok X G (c.fact 19 (f := .glo "_law_near") rfl),
    a__law_right := He.fAd K ("_law_right", none), fd__law_right := _, F__law_right := fun_mk (st := s__law_right) l25 c25 (kk 25 (d := d__law_right) rfl),
    m__law_right := He.glo_ok X G (c.fact 20 (f := .glo "_law_right") rfl),
    a_law := He.fAd K ("law", none), fd_law := _, F_law := fun_mk (st := s_law) l26 c26 (kk 26 (d := d_law) rfl),
    m_law := He.glo_ok X G (c.fact 21 (f := .glo "law") rfl),
    m_FARTHEST := He.int_ok X G (c.fact 22 (f := .int "FARTHEST" 1000000) rfl),
    m_MOST_SIZE := He.int_ok X G (c.fact 23 (f := .int "MOST_SIZE" 200) rfl),
    m_MOST_VALUES := He.int_ok X G (c.fact 24 (f := .int "MOST_VALUES" 200) rfl),
    n_abs := He.free_ok X G (c.fact 25 (f := .free "abs") rfl),
    n_all := He.free_ok X G (c.fact 26 (f := .free "all") rfl),
    n_bool := He.free_ok X G (c.fact 27 (f := .free "bool") rfl),
    n_enumerate := He.free_ok X G (c.fact 28 (f := .free "enumerate") rfl),
    n_int := He.free_ok X G (c.fact 29 (f := .free "int") rfl),
    n_isinstance := He.free_ok X G (c.fact 30 (f := .free "isinstance") rfl),
    n_len := He.free_ok X G (c.fact 31 (f := .free "len") rfl),
    n_list := He.free_ok X G (c.fact 32 (f := .free "list") rfl),
    n_max := He.free_ok X G (c.fact 33 (f := .free "max") rfl),
    n_min := He.free_ok X G (c.fact 34 (f := .free "min") rfl),
    n_range := He.free_ok X G (c.fact 35 (f := .free "range") rfl),
    n_repr := He.free_ok X G (c.fact 36 (f := .free "repr") rfl),
    n_sorted := He.free_ok X G (c.fact 37 (f := .free "sorted") rfl),
    n_sum := He.free_ok X G (c.fact 38 (f := .free "sum") rfl),
    n_tuple := He.free_ok X G (c.fact 39 (f := .free "tuple") rfl),
    C_Ladder := He.ga K "Ladder", m_Ladder := He.glo_ok X G (c.fact 40 (f := .glo "Ladder") rfl),
    cl_Ladder := He.cls_ok (c.fact 41 (f := .cls "Ladder") rfl),
    M_Ladder := He.mkr_ok (c.fact 42 (f := .mkr "Ladder") rfl),
    me_Ladder_loss := He.meth_ok (c.fact 43 (f := .meth "Ladder" "loss") rfl),
    me_Ladder_first_losses := He.meth_ok (c.fact 44 (f := .meth "Ladder" "first_losses") rfl),
    me_Ladder_crowd := He.meth_ok (c.fact 45 (f := .meth "Ladder" "crowd") rfl),
    na_Ladder_ascending := He.noat_ok (c.fact 46 (f := .noat "Ladder" "ascending") rfl),
    na_Ladder_places := He.noat_ok (c.fact 47 (f := .noat "Ladder" "places") rfl),
    na_Ladder_sums := He.noat_ok (c.fact 48 (f := .noat "Ladder" "sums") rfl),
    C_NoCrowds := He.ga K "NoCrowds", m_NoCrowds := He.glo_ok X G (c.fact 49 (f := .glo "NoCrowds") rfl),
    e_NoCrowds := (EX.errB_ok y0).1,
    x_NoCrowds := of_decide_eq_true y1,
    tI := of_decide_eq_true y2 }⟩
abbrev R : PySem.W.OpenRow := PySem.W.OpenLaw.row PySem.Challenge.rw_alikecrowds_k23_whole_heights_that_bar_l
abbrev hk : PySem.W.Hook := LX.hookT nmL faL fnL xB mkL
def ob (s : PySem.W.SharedT) : He.Al × Bool := LX.obsT nmL faL fnL xB mkL (HandSHeadRun.getT s)
theorem ob_eq (s : PySem.W.SharedT) : ob s = hk.obs s.abs := LX.obsT_eq (HandSHeadRun.getT_eq s)
def looseL : List PySem.Str := (["_wall", "CrowdError", "BadValues", "BadSize", "NoCrowds", "FARTHEST", "is_integer", "is_tuple_of", "is_line_value", "MOST_VALUES", "MOST_SIZE", "Ladder", "ladder_of", "sized_ladder", "has_crowds", "crowded_ladder", "heights", "shows_heights", "_law_pot", "_law_take", "_law_of", "_law_cells", "_law_line_values", "_law_crowd_cost", "_law_cut_costs", "_law_least", "_law_is_int", "_law_may", "_law_near", "_law_right"] : List PySem.Str)
abbrev vw : Program := PySem.W.view R.prog [34]
end Toy


namespace Toy
open PySem PySem.Spec
theorem run (w : World) : HandSHeadRun.RunEq R vw hk ob 12000 looseL w := by
  intro os
  kernel_rfl
end Toy

namespace Toy
open PySem L2 U EX
section
variable {P : Program} {w : World} {K : PySem.W.Frag} {mg : Str → Option Value} {base : Heap}

theorem sc_CrowdError___init__ : FnScope ["self", "value"] ["self", "value"] (defScope s_CrowdError___init__) := ⟨rfl, rfl, rfl, by decide +kernel, rfl, by decide +kernel, by decide +kernel⟩
theorem ok_CrowdError___init__ (T : Tx K mg) : FnOk P w K mg base CX0 1 T.a_CrowdError___init__ T.fd_CrowdError___init__ ["self", "value"] (sp_eini K) := by
  refine T.F_CrowdError___init__.ok sc_CrowdError___init__ (fun vs H Q E h => ?_) (fun cdv A outer s H vs Q E hr h => ?_)
  · obtain ⟨a, C, v, rfl, _⟩ := h
    rfl
  · obtain ⟨a, C, v, rfl, T1, hno, ha, kk⟩ := h
    refine ⟨_, pss_one (ps_ost (f := "value") (pv 0) (pv 1)), ?_⟩
    walk_at "st"
    exact ⟨v, rfl, .ref a, rfl, a, C, rfl, T1, hno, Or.inl ⟨ha, fun dx n ne => kk dx n ne⟩⟩
end
end Toy

namespace Toy
open PySem L2 U M
section
variable {P : Program} {w : World} {K : PySem.W.Frag} {mg : Str → Option Value} {base : Heap}
theorem sc_is_integer : FnScope ["value"] ["value"] (defScope s_is_integer) := ⟨rfl, rfl, rfl, by decide +kernel, rfl, by decide +kernel, by decide +kernel⟩
def sp_is_integer (K : PySem.W.Frag) : Sp := fun vs H Q _ => ∃ (x : V) (t : String) (b1 b2 : Bool), vs = [x] ∧ TyX K H x (.type t) ∧ kitB t "int" = some b1 ∧ kitB t "bool" = some b2 ∧ Q (.bl (b1 && !b2)) H
theorem ok_is_integer (T : Tx K mg) : FnOk P w K mg base CX0 1 T.a_is_integer T.fd_is_integer ["value"] (sp_is_integer K) := by
  refine T.F_is_integer.ok sc_is_integer (fun vs H Q E h => ?_) (fun cdv A outer s H vs Q E hr h => ?_)
  · obtain ⟨x, t, b1, b2, rfl, _⟩ := h
    rfl
  · obtain ⟨x, t, b1, b2, rfl, ht, k1, k2, kk⟩ := h
    have hu := hu_of hr
    have hu64 := hr.units
    refine ⟨_, (pss_one (ps_ret (pe_and (pe_callB (call_uIsi (K := K) rfl) (by rfl) T.n_isinstance (by decide +kernel) (pa_cons (pv 0) (pa_cons (u_ty (n := "int") (by rfl) T.n_int (by decide +kernel)) pa_nil))) (pe_one (pe_not (pe_callB (call_uIsi (K := K) rfl) (by rfl) T.n_isinstance (by decide +kernel) (pa_cons (pv 0) (pa_cons (u_ty (n := "bool") (by rfl) T.n_bool (by decide +kernel)) pa_nil)))))))), ?_⟩
    walk_at "st"
    walk_at "go"
    refine e_isi ht k1 ?_
    walk_at "go"
    cases b1 with
    | true =>
      walk_at "go"
      refine e_isi ht k2 ?_
      walk_at "go"
      exact kk
    | false =>
      walk_at "go"
      exact kk
end
end Toy

namespace Toy
open PySem L2 U M
section
variable {P : Program} {w : World} {K : PySem.W.Frag} {mg : Str → Option Value} {base : Heap}
theorem sc_is_line_value : FnScope ["value"] ["value"] (defScope s_is_line_value) := ⟨rfl, rfl, rfl, by decide +kernel, rfl, by decide +kernel, by decide +kernel⟩
def sp_is_line_value (K : PySem.W.Frag) : Sp := fun vs H Q _ => ∃ (x : V), vs = [x] ∧ ((∃ z : Int, x = .int z ∧ Q (.bl (decide (-1000000 ≤ z) && decide (z ≤ 1000000))) H) ∨ (∃ (t : String) (b1 b2 : Bool), TyX K H x (.type t) ∧ kitB t "int" = some b1 ∧ kitB t "bool" = some b2 ∧ (b1 && !b2) = false ∧ Q (.bl false) H))
theorem ok_is_line_value (T : Tx K mg) : FnOk P w K mg base CX0 2 T.a_is_line_value T.fd_is_line_value ["value"] (sp_is_line_value K) := by
  refine T.F_is_line_value.ok sc_is_line_value (fun vs H Q E h => ?_) (fun cdv A outer s H vs Q E hr h => ?_)
  · obtain ⟨x, rfl, _⟩ := h
    rfl
  · obtain ⟨x, rfl, kk⟩ := h
    have hu := hu_of hr
    have hu64 := hr.units
    refine ⟨_, (pss_one (ps_ret (pe_and (pe_call (ok_is_integer T) (hr.mono (by decide)) rfl T.m_is_integer T.F_is_integer.kp (b_is_integer T) .nil pass0 (pa_cons (pv 0) pa_nil)) (pe_one (pe_chain op_uLe op_uLe (pe_un op_uNeg (u_constI (by rfl) T.m_FARTHEST)) (pv 0) (u_constI (by rfl) T.m_FARTHEST)))))), ?_⟩
    walk_at "st"
    walk_at "go"
    rcases kk with ⟨z, rfl, kk⟩ | ⟨t, b1, b2, ht, k1, k2, kb, kk⟩
    · refine ⟨.int z, "int", true, false, rfl, ty_int, by decide +kernel, by decide +kernel, ?_⟩
      refine ⟨true, rfl, ?_⟩
      rw [if_pos rfl]
      walk_at "go"
      by_cases c : -1000000 ≤ z
      · rw [if_pos (decide_eq_true c)]
        walk_at "go"
        rw [decide_eq_true c, Bool.true_and] at kk
        exact kk
      · rw [if_neg (by simpa using c)]
        rw [decide_eq_false c, Bool.false_and] at kk
        exact kk
    · refine ⟨x, t, b1, b2, rfl, ht, k1, k2, ?_⟩
      rw [kb]
      walk_at "go"
      exact kk
end
end Toy

namespace Toy
open PySem L2 U
/-! ### the pot: three numbers; n: how many draws it stands for still -/
def PotAt (H : Hp) (p : Addr) (n : Nat) : Prop := ∃ (o s : Int) (k : Nat), H p = some (.lst [.int o, .int s, .int k]) ∧ 0 ≤ o ∧ o < 10 ^ 300 ∧ 0 ≤ s ∧ s < 2 ^ 61 ∧ k + n ≤ 1000000
theorem PotAt.le {H : Hp} {p : Addr} {n m : Nat} (h : PotAt H p n) (l : m ≤ n) : PotAt H p m := by
  obtain ⟨o, s, k, a, b, c, d, e, f⟩ := h
  exact ⟨o, s, k, a, b, c, d, e, by omega⟩
section
variable {P : Program} {w : World} {K : PySem.W.Frag} {mg : Str → Option Value} {base : Heap}
theorem sc__law_take : FnScope ["pot", "upto", "digit", "prime", "blend"] ["pot", "upto"] (defScope s__law_take) := ⟨rfl, rfl, rfl, by decide +kernel, rfl, by decide +kernel, by decide +kernel⟩
def sp_take : Sp := fun vs H Q _ => ∃ (p : Addr) (u : Int) (n : Nat), vs = [.ref p, .int u] ∧ 0 < u ∧ u < 2 ^ 62 ∧ PotAt H p (n + 1) ∧ ∀ (r : Int) (H' : Hp), 0 ≤ r → r < u → PotAt H' p n → SB p H H' → Q (.int r) H'
theorem ok__law_take (T : Tx K mg) : FnOk P w K mg base CX0 1 T.a__law_take T.fd__law_take ["pot", "upto"] sp_take := by
  refine T.F__law_take.ok sc__law_take (fun vs H Q E h => ?_) (fun cdv A outer s H vs Q E hr h => ?_)
  · obtain ⟨p, u, n, rfl, _⟩ := h
    rfl
  · obtain ⟨p, u, n, rfl, u0, u1, ⟨ow, s, k, hp, h1, h2, h3, h4, h5⟩, kk⟩ := h
    have hu := hu_of hr
    have hu64 := hr.units
    refine ⟨_, (pss_cons (ps_if (pt_cmpR op_uGt (pe_ix (ix_u (K := K) rfl) (pv 0) (pe_int) (fun _ _ => rfl)) (pe_int) (nomark _)) (pss_cons (ps_set (i := 2) sc__law_take.nd rfl (Or.inl rfl) (pe_op op_uMod (pe_callTy call_uInt (by rfl) T.n_int (by decide +kernel) (pa_cons (pe_ix (ix_u (K := K) rfl) (pv 0) (pe_int) (fun _ _ => rfl)) pa_nil)) (pv 1)))
        (pss_cons (ps_asg (pe_op op_uDiv (pe_ix (ix_u (K := K) rfl) (pv 0) (pe_int) (fun _ _ => rfl)) (pv 1)) (pg_sub (pv 0) (pe_int) set_list))
        (pss_one (ps_ret (pv 2))))) pss_nil)
        (pss_cons (ps_asg (pe_op (op_uAdd (K := K) rfl) (pe_ix (ix_u (K := K) rfl) (pv 0) (pe_int) (fun _ _ => rfl)) (pe_int)) (pg_sub (pv 0) (pe_int) set_list))
        (pss_cons (ps_set (i := 3) sc__law_take.nd rfl (Or.inl rfl) (pe_ix (ix_u (K := K) rfl) (pe_lst (pa_cons (pe_int) (pa_cons (pe_int) (pa_cons (pe_int) (pa_cons (pe_int) (pa_cons (pe_int) pa_nil)))))) (pe_op op_uMod (pe_callTy call_uInt (by rfl) T.n_int (by decide +kernel) (pa_cons (pe_ix (ix_u (K := K) rfl) (pv 0) (pe_int) (fun _ _ => rfl)) pa_nil)) (pe_int)) (fun _ _ => rfl)))
        (pss_cons (ps_set (i := 4) sc__law_take.nd rfl (Or.inl rfl) (pe_op op_uMod (pe_callTy call_uInt (by rfl) T.n_int (by decide +kernel) (pa_cons (pe_op op_uPow (pe_callTy call_uInt (by rfl) T.n_int (by decide +kernel) (pa_cons (pe_op (op_uAdd (K := K) rfl) (pe_op (op_uAdd (K := K) rfl) (pe_ix (ix_u (K := K) rfl) (pv 0) (pe_int) (fun _ _ => rfl)) (pe_op op_uMul (pe_op op_uMul (pe_int) (pe_ix (ix_u (K := K) rfl) (pv 0) (pe_int) (fun _ _ => rfl))) (pe_ix (ix_u (K := K) rfl) (pv 0) (pe_int) (fun _ _ => rfl)))) (pe_int)) pa_nil)) (pe_int)) pa_nil)) (pv 3)))
        (pss_cons (ps_set (i := 4) sc__law_take.nd rfl (Or.inl rfl) (pe_op op_uMod (pe_callTy call_uInt (by rfl) T.n_int (by decide +kernel) (pa_cons (pe_op op_uMul (pv 4) (pe_op (op_uAdd (K := K) rfl) (pe_op op_uMod (pe_callTy call_uInt (by rfl) T.n_int (by decide +kernel) (pa_cons (pv 4) pa_nil)) (pe_int)) (pe_op op_uMul (pe_int) (pe_ix (ix_u (K := K) rfl) (pv 0) (pe_int) (fun _ _ => rfl))))) pa_nil)) (pe_int)))
        (pss_one (ps_ret (pe_op op_uMod (pe_callTy call_uInt (by rfl) T.n_int (by decide +kernel) (pa_cons (pe_op op_uDiv (pv 4) (pe_int)) pa_nil)) (pv 1))))))))), ?_⟩
    walk_at "st"
    walk_at "go"
    walk_at "c2"
    · walk_at "go"
      refine kk _ _ (Int.emod_nonneg _ (by omega)) (Int.emod_lt_of_pos _ u0) ⟨ow / u, s, k, upd_same, Int.ediv_nonneg h1 (by omega), ?_, h3, h4, by omega⟩ SB.upd
      exact Int.lt_of_le_of_lt (Int.ediv_le_self _ h1) h2
    · walk_at "go"
      refine ⟨by decide, fun a na => ?_⟩
      walk_at "go"
      refine U.g_ix5 (SqL.of (by walk_at "hp")) (by decide) (Int.emod_nonneg _ (by decide)) (Int.emod_lt_of_pos _ (by decide)) fun pr pr0 pr1 => ?_
      walk_at "go"
      refine U.g_powB h3 h4 (by decide) (by decide) (by omega) (by omega) (by decide) (by decide) ?_
      walk_at "go"
      exact kk _ _ (Int.emod_nonneg _ (by omega)) (Int.emod_lt_of_pos _ u0) ⟨ow, s, k + 1, by walk_at "hp", h1, h2, h3, h4, by omega⟩ (SB.upd.new na)
theorem sc__law_of : FnScope ["pot", "some"] ["pot", "some"] (defScope s__law_of) := ⟨rfl, rfl, rfl, by decide +kernel, rfl, by decide +kernel, by decide +kernel⟩
/-- some[take]: any item of a list, a tuple, a text -/
def sp_of (K : PySem.W.Frag) : Sp := fun vs H Q _ => ∃ (p : Addr) (x : V) (n : Nat), vs = [.ref p, x] ∧ PotAt H p (n + 1) ∧
  ((∃ (b : Addr) (ys : List V), x = .ref b ∧ (SqL K H b ys ∨ SqT K H b ys) ∧ 0 < ys.length ∧ ys.length ≤ 1000000 ∧ (∀ H', SB p H H' → SqL K H' b ys ∨ SqT K H' b ys) ∧ ∀ (j : Nat) (y : V) (H' : Hp), ys[j]? = some y → PotAt H' p n → SB p H H' → Q y H') ∨
   (∃ z : Str, x = .str z ∧ 0 < z.length ∧ z.length ≤ 1000000 ∧ ∀ (c : Nat) (H' : Hp), c ∈ z.cps.toList → PotAt H' p n → SB p H H' → Q (.str ⟨#[c]⟩) H'))
theorem ok__law_of (T : Tx K mg) : FnOk P w K mg base CX0 2 T.a__law_of T.fd__law_of ["pot", "some"] (sp_of K) := by
  refine T.F__law_of.ok sc__law_of (fun vs H Q E h => ?_) (fun cdv A outer s H vs Q E hr h => ?_)
  · obtain ⟨p, x, n, rfl, _⟩ := h
    rfl
  · obtain ⟨p, x, n, rfl, hp, kk⟩ := h
    have hu := hu_of hr
    have hu64 := hr.units
    refine ⟨_, (pss_one (ps_ret (pe_ix (ix_u (K := K) rfl) (pv 1) (pe_call (ok__law_take T) (hr.mono (by decide)) rfl T.m__law_take T.F__law_take.kp (b__law_take T) .nil pass0 (pa_cons (pv 0) (pa_cons (pe_callB (call_uLen (K := K) rfl) (by rfl) T.n_len (by decide +kernel) (pa_cons (pv 1) pa_nil)) pa_nil))) (fun _ _ => rfl)))), ?_⟩
    walk_at "st"
    walk_at "go"
    rcases kk with ⟨b, ys, rfl, hb, l0, l1, st, kk⟩ | ⟨z, rfl, l0, l1, kk⟩
    · refine U.g_lenL hb ?_
      walk_at "go"
      refine ⟨p, ys.length, n, rfl, by omega, by omega, hp, fun r H' r0 r1 hp' sb => ?_⟩
      have e : r = ((r.toNat : Nat) : Int) := by omega
      have hj : r.toNat < ys.length := by omega
      refine U.g_ix (st H' sb) (at_of e (List.getElem?_eq_getElem hj)) ?_
      exact kk _ _ _ (List.getElem?_eq_getElem hj) hp' sb
    · refine U.g_lenS (Nat.le_trans l1 (by decide)) ?_
      walk_at "go"
      refine ⟨p, z.length, n, rfl, by omega, by omega, hp, fun r H' r0 r1 hp' sb => ?_⟩
      have hj : r.toNat < z.cps.toList.length := by rw [Array.length_toList]; show r.toNat < z.length; omega
      refine U.g_ixS (Nat.le_trans l1 (by decide)) (c := z.cps.toList[r.toNat]) ?_ ?_
      · exact U.at_nat (show r = ((r.toNat : Nat) : Int) by omega) (List.getElem?_eq_getElem hj)
      · exact kk _ _ (List.getElem_mem hj) hp' sb
theorem sc__law_pot : FnScope ["script", "place", "cell", "own", "small"] ["script", "place"] (defScope s__law_pot) := ⟨rfl, rfl, rfl, by decide +kernel, rfl, by decide +kernel, by decide +kernel⟩
def sp_pot (K : PySem.W.Frag) : Sp := fun vs H Q _ => ∃ (a : Addr) (ns : List Int) (i : Int), vs = [.ref a, .int i] ∧ SqL K H a (ns.map V.int) ∧ 0 ≤ i ∧ i ≤ 100 ∧ ∀ (p : Addr) (H' : Hp), H p = none → Same H H' → PotAt H' p 1000000 → Q (.ref p) H'
theorem ok__law_pot (T : Tx K mg) : FnOk P w K mg base CX0 1 T.a__law_pot T.fd__law_pot ["script", "place"] (sp_pot K) := by
  refine T.F__law_pot.ok sc__law_pot (fun vs H Q E h => ?_) (fun cdv A outer s H vs Q E hr h => ?_)
  · obtain ⟨a, ns, i, rfl, _⟩ := h
    rfl
  · obtain ⟨a, ns, i, rfl, ha, i0, i1, kk⟩ := h
    have hu := hu_of hr
    have hu64 := hr.units
    refine ⟨_, (pss_cons (ps_set (i := 2) sc__law_pot.nd rfl (Or.inl rfl) (pe_ifExp (pt_cmpR op_uLt (pv 1) (pe_callB (call_uLen (K := K) rfl) (by rfl) T.n_len (by decide +kernel) (pa_cons (pv 0) pa_nil)) (nomark _)) (pe_ix (ix_u (K := K) rfl) (pv 0) (pv 1) (fun _ _ => rfl)) (pe_op (op_uAdd (K := K) rfl) (pe_op (op_uAdd (K := K) rfl) (pe_op op_uMod (pe_callB (call_uSum (K := K) rfl rfl) (by rfl) T.n_sum (by decide +kernel) (pa_cons (pe_slice (sl_u (K := K) rfl) (pv 0) po_none (po_some (pe_int))) pa_nil)) (pe_int)) (pe_op op_uMul (pe_int) (pv 1))) (pe_int))))
        (pss_cons (ps_set (i := 3) sc__law_pot.nd rfl (Or.inl rfl) (pe_op op_uMul (pe_op op_uMod (pe_callTy call_uInt (by rfl) T.n_int (by decide +kernel) (pa_cons (pe_callB call_uAbs (by rfl) T.n_abs (by decide +kernel) (pa_cons (pv 2) pa_nil)) pa_nil)) (pe_op op_uPow (pe_op op_uPow (pe_int) (pe_int)) (pe_int))) (pe_callTy call_uInt (by rfl) T.n_int (by decide +kernel) (pa_cons (pe_cmpR op_uGe (pe_callB call_uAbs (by rfl) T.n_abs (by decide +kernel) (pa_cons (pv 2) pa_nil)) (pe_op op_uPow (pe_int) (pe_int)) (nomark _)) pa_nil))))
        (pss_cons (ps_set (i := 4) sc__law_pot.nd rfl (Or.inl rfl) (pe_op op_uMod (pe_callTy call_uInt (by rfl) T.n_int (by decide +kernel) (pa_cons (pv 2) pa_nil)) (pe_int)))
        (pss_one (ps_ret (pe_lst (pa_cons (pv 3) (pa_cons (pe_op op_uMod (pe_callTy call_uInt (by rfl) T.n_int (by decide +kernel) (pa_cons (pe_op (op_uAdd (K := K) rfl) (pe_op (op_uAdd (K := K) rfl) (pe_op op_uMul (pv 4) (pe_int)) (pe_op op_uMul (pe_op op_uMul (pe_int) (pv 1)) (pv 1))) (pe_int)) pa_nil)) (pe_int)) (pa_cons (pe_int) pa_nil))))))))), ?_⟩
    walk_at "st"
    refine U.g_seq (U.g_asg (U.g_cut (fun v H1 => (∃ c : Int, v = .int c) ∧ Same H H1) (fun R kR => ?_) ?_))
    · walk_at "go"
      refine U.g_lenL (Or.inl ha) ?_
      walk_at "go"
      refine U.g_2 (fun c => ?_) (fun c => ?_)
      · walk_at "go"
        rw [List.length_map] at c
        have c := of_decide_eq_true c
        have hj : i.toNat < ns.length := by omega
        refine U.g_ix (Or.inl ha) (U.at_nat (show i = ((i.toNat : Nat) : Int) by omega) (by rw [List.getElem?_map, List.getElem?_eq_getElem hj]; rfl)) ?_
        exact kR _ _ ⟨⟨_, rfl⟩, Same.refl _⟩
      · walk_at "go"
        refine U.g_slL ha fun q nq => ?_
        rw [U.cut1]
        walk_at "go"
        refine U.g_sum (SqL.of upd_same) ?_
        walk_at "go"
        exact kR _ _ ⟨⟨_, rfl⟩, U.same_new nq⟩
    · rintro v H1 ⟨⟨c, rfl⟩, s1⟩
      walk_at "go"
      refine ⟨by show 3 ≤ sizeLine; decide, fun q nq => ?_⟩
      obtain ⟨m0, m1⟩ := U.mulB_bd (b := decide (10 ^ (18 : Int).toNat ≤ (if c < 0 then -c else c))) (Int.emod_nonneg (if c < 0 then -c else c) (show ((10 : Int) ^ (60 : Int).toNat) ^ (5 : Int).toNat ≠ 0 by decide +kernel)) (Int.emod_lt_of_pos (if c < 0 then -c else c) (show (0 : Int) < ((10 : Int) ^ (60 : Int).toNat) ^ (5 : Int).toNat by decide +kernel))
      refine kk q _ (s1.free nq) (fun b o e => U.same_new nq b o (s1 b o e)) ⟨_, _, 0, upd_same, m0, Int.lt_of_lt_of_le m1 (by decide +kernel), Int.emod_nonneg _ (by decide), ?_, by decide⟩
      exact Int.lt_of_lt_of_le (Int.emod_lt_of_pos _ (by decide)) (by decide)
theorem sc__law_cells : FnScope ["script", "most"] ["script", "most"] (defScope s__law_cells) := ⟨rfl, rfl, rfl, by decide +kernel, rfl, by decide +kernel, by decide +kernel⟩
def sp_cells (K : PySem.W.Frag) : Sp := fun vs H Q _ => ∃ (a : Addr) (ns : List Int) (m : Int), vs = [.ref a, .int m] ∧ SqL K H a (ns.map V.int) ∧ ns.length ≤ 63 ∧ 1 ≤ m ∧ m ≤ 100 ∧ ∀ (p : Addr) (c : Nat), H p = none → 1 ≤ c → c ≤ 100 → Q (.ref p) (upd H p (.lst (rgV 0 c)))
theorem ok__law_cells (T : Tx K mg) : FnOk P w K mg base CX0 1 T.a__law_cells T.fd__law_cells ["script", "most"] (sp_cells K) := by
  refine T.F__law_cells.ok sc__law_cells (fun vs H Q E h => ?_) (fun cdv A outer s H vs Q E hr h => ?_)
  · obtain ⟨a, ns, m, rfl, _⟩ := h
    rfl
  · obtain ⟨a, ns, m, rfl, ha, hl, m0, m1, kk⟩ := h
    have hu := hu_of hr
    have hu64 := hr.units
    refine ⟨_, (pss_one (ps_ret (pe_listRg rfl rfl T.n_list (prg_1 rfl T.n_range (pe_callB (call_uMax rfl) (by rfl) T.n_max (by decide +kernel) (pa_cons (pe_int) (pa_cons (pe_callB (call_uMin rfl) (by rfl) T.n_min (by decide +kernel) (pa_cons (pv 1) (pa_cons (pe_callB (call_uLen (K := K) rfl) (by rfl) T.n_len (by decide +kernel) (pa_cons (pv 0) pa_nil)) pa_nil))) pa_nil))))))), ?_⟩
    walk_at "st"
    walk_at "go"
    refine U.g_lenL (Or.inl ha) ?_
    walk_at "go"
    have e : ∃ c : Nat, (if (if ((List.map V.int ns).length : Int) < m then ((List.map V.int ns).length : Int) else m) > 1 then if ((List.map V.int ns).length : Int) < m then ((List.map V.int ns).length : Int) else m else 1) = (c : Int) ∧ 1 ≤ c ∧ c ≤ 100 := by
      rw [List.length_map]
      by_cases h1 : (ns.length : Int) < m
      · rw [if_pos h1]
        by_cases h2 : (ns.length : Int) > 1
        · rw [if_pos h2]; exact ⟨ns.length, rfl, by omega, by omega⟩
        · rw [if_neg h2]; exact ⟨1, rfl, by omega, by omega⟩
      · rw [if_neg h1]
        by_cases h2 : m > 1
        · rw [if_pos h2]; exact ⟨m.toNat, by omega, by omega, by omega⟩
        · rw [if_neg h2]; exact ⟨1, rfl, by omega, by omega⟩
    obtain ⟨c, e, c1, c2⟩ := e
    rw [e]
    exact ⟨RgOk.of_le (by omega) (by omega) (by omega) (by omega), fun q nq => kk q c nq c1 c2⟩
end
end Toy

namespace Toy
open PySem L2 U M
theorem PotAt.ts {H H' : Hp} {p : Addr} {n : Nat} (h : PotAt H p n) (s : SB p H H') : TS H H' := fun a xs e => s a _ e (by
  obtain ⟨_, _, _, q, _⟩ := h
  exact ne_of e q (by intro z; cases z))
theorem PotAt.new {H : Hp} {p a : Addr} {n : Nat} {o : HO} (h : PotAt H p n) (na : H a = none) : PotAt (upd H a o) p n := by
  obtain ⟨x, y, z, q, r⟩ := h
  exact ⟨x, y, z, get_new na q, r⟩
theorem PotAt.put {H : Hp} {p a : Addr} {n : Nat} {o : HO} (h : PotAt H p n) (na : p ≠ a) : PotAt (upd H a o) p n := by
  obtain ⟨x, y, z, q, r⟩ := h
  exact ⟨x, y, z, get_ne na q, r⟩
theorem PotAt.same {H H' : Hp} {p : Addr} {n : Nat} (h : PotAt H p n) (s : Same H H') : PotAt H' p n := by
  obtain ⟨x, y, z, q, r⟩ := h
  exact ⟨x, y, z, s _ _ q, r⟩
theorem pot_ne {H : Hp} {p a : Addr} {n : Nat} (hp : PotAt H p n) (na : H a = none) : a ≠ p := by
  obtain ⟨_, _, _, q, _⟩ := hp
  exact (ne_of_none q na).symm
end Toy

namespace Toy
open PySem L2 U M LM
section
variable {P : Program} {w : World} {K : PySem.W.Frag} {mg : Str → Option Value} {base : Heap}
theorem sc_Ladder___init__ : FnScope ["self", "values", "pairs", "value", "place", "_"] ["self", "values"] (defScope s_Ladder___init__) := ⟨rfl, rfl, rfl, by decide +kernel, rfl, by decide +kernel, by decide +kernel⟩
def sp_Ladder_init (CL : Addr) : Sp := fun vs H Q _ => ∃ (a dx b : Addr) (ns : List Int), vs = [.ref a, .ref b] ∧ H a = some (.ins CL dx []) ∧ H b = some (.tup (ns.map V.int)) ∧ ns.length ≤ 1000 ∧ ∀ (la lp ls : Addr) (row pl : List Int) (H' : Hp), LadX CL H' a dx la lp ls row pl → RowOk ns row pl → (∀ c o, c ≠ a → H c = some o → H' c = some o) → Q .non H'
theorem ok_Ladder___init__ (T : Tx K mg) : FnOk P w K mg base CX0 1 T.a_Ladder___init__ T.fd_Ladder___init__ ["self", "values"] (sp_Ladder_init T.C_Ladder) := by
  refine T.F_Ladder___init__.ok sc_Ladder___init__ (fun vs H Q E h => ?_) (fun cdv A outer s H vs Q E hr h => ?_)
  · obtain ⟨a, dx, b, ns, rfl, _⟩ := h
    rfl
  · obtain ⟨a, dx, b, ns, rfl, ha, hb, hn, kk⟩ := h
    have hu := hu_of hr
    have hu64 := hr.units
    refine ⟨_, (pss_cons (ps_set (i := 2) sc_Ladder___init__.nd rfl (Or.inl rfl) (pe_callB (U.call_uSortP (K := K) rfl) (by rfl) T.n_sorted (by decide +kernel) (pa_cons (pe_lc rfl sc_Ladder___init__.nd (ET.pi_enumT (K := K) rfl (by rfl) T.n_enumerate (pa_cons (pv 1) pa_nil)) (blkOk_by (own := [("place", 4), ("value", 3)]) (N := ["self", "values", "pairs", "value", "place", "_"]) (sc := defScope s_Ladder___init__) (by decide +kernel)) (fun _ _ _ _ _ => (u_gtup (K := K) (n := 2) rfl rfl (pgs_cons (pg_name (i := 4) sc_Ladder___init__.nd rfl (Or.inl rfl)) (pgs_cons (pg_name (i := 3) sc_Ladder___init__.nd rfl (Or.inl rfl)) pgs_nil)))) (fun _ _ _ _ _ => pts_nil) (fun _ _ _ _ _ => (pe_tup (pa_cons (pv 3) (pa_cons (pv 4) pa_nil))))) pa_nil)))
        (pss_cons (ps_fld (pv 0) (pe_lc rfl sc_Ladder___init__.nd (u_list (K := K) rfl (pv 2)) (blkOk_by (own := [("value", 3), ("_", 5)]) (N := ["self", "values", "pairs", "value", "place", "_"]) (sc := defScope s_Ladder___init__) (by decide +kernel)) (fun _ _ _ _ _ => (u_gtup (K := K) (n := 2) rfl rfl (pgs_cons (pg_name (i := 3) sc_Ladder___init__.nd rfl (Or.inl rfl)) (pgs_cons (pg_name (i := 5) sc_Ladder___init__.nd rfl (Or.inl rfl)) pgs_nil)))) (fun _ _ _ _ _ => pts_nil) (fun _ _ _ _ _ => (pv 3))) rfl)
        (pss_cons (ps_fld (pv 0) (pe_lc rfl sc_Ladder___init__.nd (u_list (K := K) rfl (pv 2)) (blkOk_by (own := [("_", 5), ("place", 4)]) (N := ["self", "values", "pairs", "value", "place", "_"]) (sc := defScope s_Ladder___init__) (by decide +kernel)) (fun _ _ _ _ _ => (u_gtup (K := K) (n := 2) rfl rfl (pgs_cons (pg_name (i := 5) sc_Ladder___init__.nd rfl (Or.inl rfl)) (pgs_cons (pg_name (i := 4) sc_Ladder___init__.nd rfl (Or.inl rfl)) pgs_nil)))) (fun _ _ _ _ _ => pts_nil) (fun _ _ _ _ _ => (pv 4))) rfl)
        (pss_cons (ps_fld (pv 0) (pe_lst (pa_cons (pe_int) pa_nil)) rfl)
        (pss_one (ps_for PassesOwn.never rfl (u_list (K := K) rfl (u_fld (K := K) rfl (pv 0) rfl)) (pg_name (i := 3) sc_Ladder___init__.nd rfl (Or.inl rfl)) (pss_one (ps_expr (pe_bm PySem.F.plainAttrs_list PySem.F.slot_list_append PySem.F.type_list_append mt_append (u_fld (K := K) rfl (pv 0) rfl) (pa_cons (pe_op (op_uAdd (K := K) rfl) (pe_ix (ix_u (K := K) rfl) (u_fld (K := K) rfl (pv 0) rfl) (pe_un op_uNeg (pe_int)) (fun _ _ => rfl)) (pv 3)) pa_nil)))))))))), ?_⟩
    walk_at "st"
    walk_at "go"
    refine ⟨b, ns.map V.int, rfl, SqT.of hb, ?_⟩
    refine lcI_by (ET.walk_enumT (K := K) (a := b) (xs := ns.map V.int)) (by rw [List.length_map]; omega) fun E0 nE => ⟨fun i acc H' => Same H H' ∧ TupL H' acc (((List.range i).map fun j : Nat => ((ns[j]?).getD 0, (j : Int))).map pairV), ⟨U.same_new nE, .nil⟩, fun i acc H' _ p => (SqT.of (p.1 _ _ hb)), ?turn, fun acc H1 hE ⟨s1, t1⟩ => ?rest⟩
    case turn =>
      rintro i x acc H' H'' A B hi hacc ⟨s1, t1⟩ ⟨t, a1, a2, rfl, nt, rfl, e1, e2⟩ kA kB
      cases e1
      rw [List.length_map] at hi
      have e2 : (ns.map V.int)[i]? = some a2 := e2
      rw [List.getElem?_map, List.getElem?_eq_getElem hi] at e2
      cases e2
      walk_at "go"
      refine ⟨rfl, ?_⟩
      walk_at "go"
      refine ⟨by show 2 ≤ sizeLine; decide, fun q nq => ?_⟩
      have sT := U.same_new (o := .tup [.int (i : Int), .int ns[i]]) nt
      have sq := U.same_new (o := .tup [.int ns[i], .int (i : Int)]) nq
      refine kA _ _ (sq _ _ (sT _ _ hacc)) ⟨same_mut (s1.trans (sT.trans sq)) nE, ?_⟩
      have ts : TS H' (upd (upd (upd H' t (.tup [.int (i : Int), .int ns[i]])) q (.tup [.int ns[i], .int (i : Int)])) E0 (.lst (acc ++ [.ref q]))) := ((TS.of sT).trans (TS.of sq)).trans (TS.lst (sq _ _ (sT _ _ hacc)))
      rw [List.range_succ, List.map_append, List.map_append]
      refine prd_snoc (t1.mono ts) ⟨q, rfl, ?_⟩
      rw [upd_ne (ne_of upd_same (sq _ _ (sT _ _ hacc)) (by intro z; cases z)), upd_same]
      show some (HO.tup [V.int ns[i], V.int (i : Int)]) = some (HO.tup [V.int ((ns[i]?).getD 0), V.int (i : Int)])
      rw [List.getElem?_eq_getElem hi]
      rfl
    case rest =>
      rw [List.length_map] at t1
      obtain ⟨k1, k2⟩ := key_prd t1
      walk_at "go"
      refine ⟨E0, acc, keyAt H1, rfl, SqL.of hE, k2, fun ys p so st np => ?_⟩
      have ok := RowOk.of (ns := ns) k1 so st.perm
      have k3 : ∀ v ∈ ys, ∃ t, v = V.ref t ∧ H1 t = some (.tup [.int (keyAt H1 v).1, .int (keyAt H1 v).2]) := fun v hv => k2 v (st.perm.mem_iff.mp hv)
      have ly : ys.length = ns.length := by have := ok.len; rw [List.length_map] at this; exact this
      have sp := U.same_new (o := .lst ys) np
      have s2 := s1.trans sp
      walk_at "go"
      refine e_list (SqL.of upd_same) ?_
      have fm : ∀ f : V → Int, ys.filterMap (fun v => some (V.int (f v))) = (ys.map f).map V.int := fun f => by rw [fm_some, List.map_map]; rfl
      have row0 : ∀ {Hn : Hp}, Same (upd H1 p (.lst ys)) Hn → ∀ v ∈ ys, ∃ t, v = V.ref t ∧ Hn t = some (.tup [.int (keyAt H1 v).1, .int (keyAt H1 v).2]) := fun s' v hv => by
        obtain ⟨t, e, ht⟩ := k3 v hv
        exact ⟨t, e, s' _ _ (sp _ _ ht)⟩
      refine lcI_list (SqL.of upd_same) (by omega) (fun v => some (.int (keyAt H1 v).1)) (fun v H' A B hv s' kA kB => ?t1) fun la H2 nla s3 hla => ?c1
      case t1 =>
        obtain ⟨t, rfl, ht⟩ := row0 s' v hv
        walk_at "go"
        refine ⟨rfl, ?_⟩
        walk_at "go"
        exact kA _ _ rfl (Same.refl _)
      rw [fm] at hla
      have s4 := s2.trans s3
      have ha2 := s4 _ _ ha
      walk_at "go"
      refine ⟨a, T.C_Ladder, dx, [], rfl, ha2, T.cl_Ladder, T.na_Ladder_ascending, by decide, ?_⟩
      have lna : la ≠ a := ne_of hla ha2 (by intro z; cases z)
      have pna : p ≠ a := ne_of (s3 _ _ upd_same) ha2 (by intro z; cases z)
      have hp2 : H2 p = some (.lst ys) := s3 _ _ upd_same
      have row2 : ∀ {Hn : Hp}, (∀ c o, c ≠ a → H2 c = some o → Hn c = some o) → ∀ v ∈ ys, ∃ t, v = V.ref t ∧ Hn t = some (.tup [.int (keyAt H1 v).1, .int (keyAt H1 v).2]) := fun q v hv => by
        obtain ⟨t, e, ht⟩ := row0 s3 v hv
        exact ⟨t, e, q _ _ (ne_of ht ha2 (by intro z; cases z)) ht⟩
      have o3 : ∀ c o, c ≠ a → H2 c = some o → (upd H2 a (.ins T.C_Ladder dx (putF "ascending" (.ref la) []))) c = some o := fun c o hc e => (upd_ne hc).trans e
      have a3 : (upd H2 a (.ins T.C_Ladder dx (putF "ascending" (.ref la) []))) a = some (.ins T.C_Ladder dx [("ascending", .ref la)]) := upd_same
      generalize (upd H2 a (.ins T.C_Ladder dx (putF "ascending" (.ref la) []))) = H3 at o3 a3 ⊢
      walk_at "go"
      refine e_list (SqL.of (o3 _ _ pna hp2)) ?_
      refine lcI_list (SqL.of (o3 _ _ pna hp2)) (by omega) (fun v => some (.int (keyAt H1 v).2)) (fun v H' A B hv s' kA kB => ?t2) fun lp H4 nlp s5 hlp => ?c2
      case t2 =>
        obtain ⟨t, rfl, ht⟩ := row2 (fun c o hc e => s' _ _ (o3 c o hc e)) v hv
        walk_at "go"
        refine ⟨rfl, ?_⟩
        walk_at "go"
        exact kA _ _ rfl (Same.refl _)
      rw [fm] at hlp
      have ha4 := s5 _ _ a3
      walk_at "go"
      refine ⟨a, T.C_Ladder, dx, _, rfl, ha4, T.cl_Ladder, T.na_Ladder_places, by show 1 < 1000; decide, ?_⟩
      have e5 : putF ("places" : Str) (.ref lp) ([("ascending", .ref la)] : List (Str × V)) = [(("ascending" : Str), V.ref la), ("places", V.ref lp)] := by rw [putF_skip (by decide +kernel)]; rfl
      rw [e5]
      have lpa : lp ≠ a := ne_of hlp ha4 (by intro z; cases z)
      have o5 : ∀ c o, c ≠ a → H4 c = some o → (upd H4 a (.ins T.C_Ladder dx [(("ascending" : Str), V.ref la), ("places", V.ref lp)])) c = some o := fun c o hc e => (upd_ne hc).trans e
      have a5 : (upd H4 a (.ins T.C_Ladder dx [(("ascending" : Str), V.ref la), ("places", V.ref lp)])) a = some (.ins T.C_Ladder dx [(("ascending" : Str), V.ref la), ("places", V.ref lp)]) := upd_same
      generalize (upd H4 a (.ins T.C_Ladder dx [(("ascending" : Str), V.ref la), ("places", V.ref lp)])) = H5 at o5 a5 ⊢
      walk_at "go"
      refine ⟨by decide, fun ls nls => ?_⟩
      walk_at "go"
      have lsa : ls ≠ a := fun z => by rw [z, a5] at nls; cases nls
      refine ⟨a, T.C_Ladder, dx, _, rfl, (upd_ne (Ne.symm lsa)).trans a5, T.cl_Ladder, T.na_Ladder_sums, by show 2 < 1000; decide, ?_⟩
      have e6 : putF ("sums" : Str) (.ref ls) [(("ascending" : Str), V.ref la), ("places", V.ref lp)] = ladF la lp ls := by rw [putF_skip (by decide +kernel), putF_skip (by decide +kernel)]; rfl
      rw [e6]
      have o6 : ∀ c o, c ≠ a → H5 c = some o → (upd (upd H5 ls (.lst [V.int 0])) a (.ins T.C_Ladder dx (ladF la lp ls))) c = some o := fun c o hc e => (upd_ne hc).trans (U.same_new nls _ _ e)
      have a6 : (upd (upd H5 ls (.lst [V.int 0])) a (.ins T.C_Ladder dx (ladF la lp ls))) a = some (.ins T.C_Ladder dx (ladF la lp ls)) := upd_same
      have l6 : (upd (upd H5 ls (.lst [V.int 0])) a (.ins T.C_Ladder dx (ladF la lp ls))) ls = some (.lst [V.int 0]) := (upd_ne lsa).trans upd_same
      generalize (upd (upd H5 ls (.lst [V.int 0])) a (.ins T.C_Ladder dx (ladF la lp ls))) = H6 at o6 a6 l6 ⊢
      have off : ∀ c o, c ≠ a → H c = some o → H6 c = some o ∧ c ≠ ls := fun c o hc e => by
        have q := o5 c o hc (s5 _ _ (o3 c o hc (s4 _ _ e)))
        exact ⟨o6 c o hc q, ne_of_none q nls⟩
      have hla6 : H6 la = some (.lst ((ys.map fun v => (keyAt H1 v).1).map V.int)) ∧ la ≠ ls := by
        have q := o5 _ _ lna (s5 _ _ (o3 _ _ lna hla))
        exact ⟨o6 _ _ lna q, ne_of_none q nls⟩
      have hlp6 : H6 lp = some (.lst ((ys.map fun v => (keyAt H1 v).2).map V.int)) ∧ lp ≠ ls := by
        have q := o5 _ _ lpa hlp
        exact ⟨o6 _ _ lpa q, ne_of_none q nls⟩
      generalize hrow : (ys.map fun v => (keyAt H1 v).1) = row at *
      generalize hpl : (ys.map fun v => (keyAt H1 v).2) = pl at *
      walk_at "go"
      refine ⟨a, T.C_Ladder, dx, _, _, rfl, a6, T.cl_Ladder, T.na_Ladder_ascending, lad_a la lp ls, ?_⟩
      refine e_list (SqL.of hla6.1) ?_
      refine forI_by (walk_list (K := K) (a := la) (xs := row.map V.int)) (fun i σ' H' => ∃ (v3 : Option V), σ' = [some (.ref a), some (.ref b), some (.ref p), v3, none, none] ∧ H' ls = some (.lst ((sumsL row i).map V.int)) ∧ ∀ c o, c ≠ ls → H6 c = some o → H' c = some o) ⟨none, rfl, l6, fun c o _ e => e⟩ (fun i σ' H' _ ⟨_, _, _, k⟩ => SqL.of (k _ _ hla6.2 hla6.1)) ?ts ?td
      case ts =>
        rintro i x σ' H' _ hi ⟨v3, rfl, hl, k⟩ ⟨rfl, ex⟩
        rw [List.length_map] at hi
        rw [List.getElem?_map, rowF_at hi] at ex
        cases ex
        have als : a ≠ ls := ne_of a6 l6 (by intro z; cases z)
        have a7 := k _ _ als a6
        walk_at "go"
        refine ⟨a, T.C_Ladder, dx, _, _, rfl, a7, T.cl_Ladder, T.na_Ladder_sums, lad_s la lp ls, ?_⟩
        walk_at "go"
        refine ⟨a, T.C_Ladder, dx, _, _, rfl, a7, T.cl_Ladder, T.na_Ladder_sums, lad_s la lp ls, ?_⟩
        walk_at "go"
        obtain ⟨zs, ez⟩ := sumsL_end row i
        refine U.g_ix (Or.inl (SqL.of hl)) (at_end (map_end V.int ez)) ?_
        walk_at "go"
        refine U.g_appL hl (by rw [List.length_map]; unfold sumsL; rw [List.length_map, List.length_range]; have := ok.len; omega) ?_
        rw [show (sumsL row i).map V.int ++ [V.int (sm (rowF row) i + rowF row i)] = (sumsL row (i + 1)).map V.int by rw [sumsL_succ, List.map_append]; rfl]
        walk_at "go"
        exact ⟨_, rfl, upd_same, fun c o hc e => (upd_ne hc).trans (k c o hc e)⟩
      case td =>
        rintro σ' H' ⟨v3, rfl, hl, k⟩
        rw [List.length_map] at hl
        walk_at "go"
        have als : a ≠ ls := ne_of a6 l6 (by intro z; cases z)
        exact kk la lp ls row pl H' ⟨k _ _ als a6, k _ _ hla6.2 hla6.1, k _ _ hlp6.2 hlp6.1, hl⟩ ok fun c o hc e => k _ _ (off c o hc e).2 (off c o hc e).1
theorem sc_Ladder_loss : FnScope ["self", "begin", "end", "middle", "shown", "above", "below"] ["self", "begin", "end"] (defScope s_Ladder_loss) := ⟨rfl, rfl, rfl, by decide +kernel, rfl, by decide +kernel, by decide +kernel⟩
def sp_Ladder_loss (CL : Addr) : Sp := fun vs H Q _ => ∃ (x dx la lp ls : Addr) (row pl : List Int) (b e : Nat), vs = [.ref x, .int b, .int e] ∧ LadX CL H x dx la lp ls row pl ∧ row.Pairwise (· ≤ ·) ∧ b < e ∧ e ≤ row.length ∧ row.length ≤ 1000 ∧ Q (.int (cs (rowF row) b e)) H
theorem ok_Ladder_loss (T : Tx K mg) : FnOk P w K mg base CX0 1 T.a_Ladder_loss T.fd_Ladder_loss ["self", "begin", "end"] (sp_Ladder_loss T.C_Ladder) := by
  refine T.F_Ladder_loss.ok sc_Ladder_loss (fun vs H Q E h => ?_) (fun cdv A outer s H vs Q E hr h => ?_)
  · obtain ⟨x, dx, la, lp, ls, row, pl, b, e, rfl, _⟩ := h
    rfl
  · obtain ⟨x, dx, la, lp, ls, row, pl, b, e, rfl, lx, up, hbe, he, hl, kk⟩ := h
    have hu := hu_of hr
    have hu64 := hr.units
    refine ⟨_, (pss_cons (ps_set (i := 3) sc_Ladder_loss.nd rfl (Or.inl rfl) (pe_op op_uDiv (pe_op (op_uAdd (K := K) rfl) (pv 1) (pv 2)) (pe_int)))
        (pss_cons (ps_set (i := 4) sc_Ladder_loss.nd rfl (Or.inl rfl) (pe_ix (ix_u (K := K) rfl) (u_fld (K := K) rfl (pv 0) rfl) (pv 3) (fun _ _ => rfl)))
        (pss_cons (ps_set (i := 5) sc_Ladder_loss.nd rfl (Or.inl rfl) (pe_op op_uSub (pe_op op_uSub (pe_ix (ix_u (K := K) rfl) (u_fld (K := K) rfl (pv 0) rfl) (pv 2) (fun _ _ => rfl)) (pe_ix (ix_u (K := K) rfl) (u_fld (K := K) rfl (pv 0) rfl) (pv 3) (fun _ _ => rfl))) (pe_op op_uMul (pv 4) (pe_op op_uSub (pv 2) (pv 3)))))
        (pss_cons (ps_set (i := 6) sc_Ladder_loss.nd rfl (Or.inl rfl) (pe_op (op_uAdd (K := K) rfl) (pe_op op_uSub (pe_op op_uMul (pv 4) (pe_op op_uSub (pv 3) (pv 1))) (pe_ix (ix_u (K := K) rfl) (u_fld (K := K) rfl (pv 0) rfl) (pv 3) (fun _ _ => rfl))) (pe_ix (ix_u (K := K) rfl) (u_fld (K := K) rfl (pv 0) rfl) (pv 1) (fun _ _ => rfl))))
        (pss_one (ps_ret (pe_op (op_uAdd (K := K) rfl) (pv 5) (pv 6)))))))), ?_⟩
    walk_at "st"
    walk_at "go"
    rw [show ((b : Int) + (e : Int)) / 2 = (((b + e) / 2 : Nat) : Int) by omega]
    obtain ⟨h1, h2⟩ := mid_bd hbe
    have key := cs_sums (rowF_mon up) hbe he
    generalize (b + e) / 2 = m at *
    have hr1 : ∀ {i : Nat}, i < row.length → (row.map V.int)[i]? = some (V.int (rowF row i)) := fun h => by rw [List.getElem?_map, rowF_at h]; rfl
    have hs1 : ∀ {i : Nat}, i ≤ row.length → ((sumsL row row.length).map V.int)[i]? = some (V.int (sm (rowF row) i)) := fun h => by rw [List.getElem?_map, sumsL_at h]; rfl
    refine lx.fa T.cl_Ladder T.na_Ladder_ascending ?_
    walk_at "go"
    refine U.g_ix (Or.inl (SqL.of lx.ha)) (U.at_nat rfl (hr1 (show m < row.length by omega))) ?_
    walk_at "go"
    refine lx.fs T.cl_Ladder T.na_Ladder_sums ?_
    walk_at "go"
    refine U.g_ix (Or.inl (SqL.of lx.hs)) (U.at_nat rfl (hs1 (show e ≤ row.length by omega))) ?_
    walk_at "go"
    refine lx.fs T.cl_Ladder T.na_Ladder_sums ?_
    walk_at "go"
    refine U.g_ix (Or.inl (SqL.of lx.hs)) (U.at_nat rfl (hs1 (show m ≤ row.length by omega))) ?_
    walk_at "go"
    refine lx.fs T.cl_Ladder T.na_Ladder_sums ?_
    walk_at "go"
    refine U.g_ix (Or.inl (SqL.of lx.hs)) (U.at_nat rfl (hs1 (show m ≤ row.length by omega))) ?_
    walk_at "go"
    refine lx.fs T.cl_Ladder T.na_Ladder_sums ?_
    walk_at "go"
    refine U.g_ix (Or.inl (SqL.of lx.hs)) (U.at_nat rfl (hs1 (show b ≤ row.length by omega))) ?_
    walk_at "go"
    rw [← key]
    exact kk
theorem sc_Ladder_first_losses : FnScope ["self", "size", "found", "end", "begins", "begin"] ["self", "size"] (defScope s_Ladder_first_losses) := ⟨rfl, rfl, rfl, by decide +kernel, rfl, by decide +kernel, by decide +kernel⟩
def sp_first (CL : Addr) : Sp := fun vs H Q _ => ∃ (x dx la lp ls : Addr) (row pl : List Int) (s : Nat), vs = [.ref x, .int s] ∧ LadX CL H x dx la lp ls row pl ∧ row.Pairwise (· ≤ ·) ∧ row.length = pl.length ∧ row.length ≤ 1000 ∧ 1 ≤ s ∧ s ≤ 1000 ∧ ∀ (q : Addr) (H' : Hp), H q = none → Same H H' → H' q = some (.lst ((tab (cs (rowF row)) s row.length).map oV)) → Q (.ref q) H'
theorem ok_Ladder_first_losses (T : Tx K mg) : FnOk P w K mg base CX0 2 T.a_Ladder_first_losses T.fd_Ladder_first_losses ["self", "size"] (sp_first T.C_Ladder) := by
  refine T.F_Ladder_first_losses.ok sc_Ladder_first_losses (fun vs H Q E h => ?_) (fun cdv A outer s H vs Q E hr h => ?_)
  · obtain ⟨x, dx, la, lp, ls, row, pl, s, rfl, _⟩ := h
    rfl
  · obtain ⟨x, dx, la, lp, ls, row, pl, s, rfl, lx, up, hpl, hl, s1, s2, kk⟩ := h
    have hu := hu_of hr
    have hu64 := hr.units
    refine ⟨_, (pss_cons (ps_set (i := 2) sc_Ladder_first_losses.nd rfl (Or.inr rfl) (pe_lst (pa_cons (pe_int) pa_nil)))
        (pss_cons (ps_for PassesOwn.never rfl (pi_range2 (by rfl) T.n_range (pa_cons (pe_int) (pa_cons (pe_op (op_uAdd (K := K) rfl) (pe_callB (call_uLen (K := K) rfl) (by rfl) T.n_len (by decide +kernel) (pa_cons (u_fld (K := K) rfl (pv 0) rfl) pa_nil)) (pe_int)) pa_nil))) (pg_name (i := 3) sc_Ladder_first_losses.nd rfl (Or.inr rfl)) (pss_cons (ps_setLc (i := 4) rfl sc_Ladder_first_losses.nd rfl rfl (sw_true rfl rfl rfl (by decide +kernel)) (pi_range2 (by rfl) T.n_range (pa_cons (pe_callB (call_uMax rfl) (by rfl) T.n_max (by decide +kernel) (pa_cons (pe_int) (pa_cons (pe_op (op_uAdd (K := K) rfl) (pe_op op_uSub (pv 3) (pe_op op_uMul (pe_int) (pv 1))) (pe_int)) pa_nil))) (pa_cons (pe_op (op_uAdd (K := K) rfl) (pe_op op_uSub (pv 3) (pv 1)) (pe_int)) pa_nil))) (blkOk_by (own := [("begin", 5)]) (N := ["self", "size", "found", "end", "begins", "begin"]) (sc := defScope s_Ladder_first_losses) (by decide +kernel)) (fun _ _ _ _ _ => (pg_name (i := 5) sc_Ladder_first_losses.nd rfl (Or.inl rfl))) (fun _ _ _ _ _ => (pts_one (pt_cmpR op_notN (pe_ix (ix_u (K := K) rfl) (pv 2) (pv 5) (fun _ _ => rfl)) pe_non (nomark _)))) (fun _ _ _ _ _ => (pv 5)))
        (pss_one (ps_expr (pe_bm PySem.F.plainAttrs_list PySem.F.slot_list_append PySem.F.type_list_append mt_append (pv 2) (pa_cons (pe_callBK (MD.cr_minD (K := K) rfl rfl hu64) (by rfl) T.n_min (by decide +kernel) (pa_cons (pe_lc rfl sc_Ladder_first_losses.nd (u_list (K := K) rfl (pv 4)) (blkOk_by (own := [("begin", 5)]) (N := ["self", "size", "found", "end", "begins", "begin"]) (sc := defScope s_Ladder_first_losses) (by decide +kernel)) (fun _ _ _ _ _ => (pg_name (i := 5) sc_Ladder_first_losses.nd rfl (Or.inl rfl))) (fun _ _ _ _ _ => pts_nil) (fun _ _ _ _ _ => (pe_op (op_uAdd (K := K) rfl) (pe_ix (ix_u (K := K) rfl) (pv 2) (pv 5) (fun _ _ => rfl)) (pe_meth (pv 0) T.cl_Ladder T.me_Ladder_loss (ok_Ladder_loss T) (hr.mono (by decide)) (b_Ladder_loss T) .nil pass0 (pa_cons (pv 5) (pa_cons (pv 3) pa_nil)))))) pa_nil) (pk_cons (pe_non) pk_nil)) pa_nil))))))
        (pss_one (ps_ret (pv 2))))), ?_⟩
    walk_at "st"
    walk_at "go"
    refine ⟨by decide, fun q nq => ?_⟩
    have sq := U.same_new (o := .lst [V.int 0]) nq
    walk_at "go"
    refine (lx.same sq).fp T.cl_Ladder T.na_Ladder_places ?_
    walk_at "go"
    refine U.g_lenL (Or.inl (SqL.of (lx.same sq).hp)) ?_
    walk_at "go"
    rw [List.length_map, ← hpl]
    refine e_rng2 (by omega) ?_
    rw [show ((row.length : Int) + 1 - 1).toNat = row.length by omega]
    refine forI_by walk_range (fun i σ' H' => ∃ (v3 v4 v5 : Option V), σ' = [some (.ref x), some (.int (s : Int)), some (.ref q), v3, v4, v5] ∧ H' q = some (.lst ((tab (cs (rowF row)) s i).map oV)) ∧ Same H H') ⟨none, none, none, rfl, upd_same, sq⟩ (fun _ _ _ _ _ => trivial) ?ts ?td
    case td =>
      rintro σ' H' ⟨v3, v4, v5, rfl, hq, s'⟩
      walk_at "go"
      exact kk q H' nq s' hq
    case ts =>
      rintro i y σ' H' _ hi ⟨v3, v4, v5, rfl, hq, s'⟩ ⟨rfl, rfl⟩
      have lx' := lx.same s'
      have tl : ((tab (cs (rowF row)) s i).map oV).length = i + 1 := by rw [List.length_map, tab_len]
      have tat : ∀ {b : Nat}, b ≤ i → ((tab (cs (rowF row)) s i).map oV)[b]? = some (oV (F (cs (rowF row)) s b)) := fun h => by rw [List.getElem?_map, tab_at _ _ h]; rfl
      walk_at "go"
      rw [show (if 1 + (i : Int) - 2 * (s : Int) + 1 > 0 then 1 + (i : Int) - 2 * (s : Int) + 1 else 0) = ((i + 2 - 2 * s : Nat) : Int) by split <;> omega]
      refine e_rng2 (by omega) ?_
      rw [show (1 + (i : Int) - (s : Int) + 1 - ((i + 2 - 2 * s : Nat) : Int)).toNat = (i + 2 - s) - (i + 2 - 2 * s) by omega]
      refine lcI_rg (by omega) (fB (tab (cs (rowF row)) s i) (i + 2 - 2 * s)) (fun j H1 A B hj s3 kA kB => ?t1) fun L1 H1 nL1 s3 hL1 => ?c1
      case t1 =>
        walk_at "go"
        refine ⟨rfl, ?_⟩
        have hb : i + 2 - 2 * s + j ≤ i := by omega
        have pt := put_tab (cs (rowF row)) s hb
        walk_at "go"
        refine U.g_ix (Or.inl (SqL.of (s3 _ _ hq))) (U.at_nat (show (((i + 2 - 2 * s : Nat) : Int) + (j : Int)) = ((i + 2 - 2 * s + j : Nat) : Int) by omega) (tat hb)) ?_
        cases hF : F (cs (rowF row)) s (i + 2 - 2 * s + j) with
        | none =>
          refine ⟨rfl, _, rfl, U.g_F (kB ?_ _ (Same.refl _))⟩
          unfold fB
          rw [pt, hF]
          rfl
        | some u =>
          refine ⟨rfl, _, rfl, U.g_T ?_⟩
          walk_at "go"
          refine kA _ _ ?_ (Same.refl _)
          unfold fB
          rw [pt, hF]
          rfl
      have s01 := s'.trans s3
      have lx1 := lx.same s01
      have hq1 := s3 _ _ hq
      walk_at "go"
      refine e_list (SqL.of hL1) ?_
      refine lcI_list (SqL.of hL1) (Nat.le_trans (List.length_filterMap_le _ _) (by rw [List.length_range]; omega)) (hB (cs (rowF row)) (tab (cs (rowF row)) s i) (i + 1)) (fun v H2 A B hv s4 kA kB => ?t2) fun L2 H2 nL2 s4 hL2 => ?c2
      case t2 =>
        obtain ⟨j, hj, ej⟩ := List.mem_filterMap.mp hv
        rw [List.mem_range] at hj
        have hb : i + 2 - 2 * s + j ≤ i := by omega
        have pt := put_tab (cs (rowF row)) s hb
        unfold fB at ej
        rw [pt] at ej
        cases hF : F (cs (rowF row)) s (i + 2 - 2 * s + j) with
        | none => rw [hF] at ej; cases ej
        | some u =>
          rw [hF] at ej
          cases ej
          walk_at "go"
          refine ⟨rfl, ?_⟩
          walk_at "go"
          refine U.g_ix (Or.inl (SqL.of (s4 _ _ hq1))) (U.at_nat (show (((i + 2 - 2 * s : Nat) : Int) + (j : Int)) = ((i + 2 - 2 * s + j : Nat) : Int) by omega) (tat hb)) ?_
          rw [hF]
          walk_at "go"
          refine ⟨x, dx, _, rfl, (lx1.same s4).hi, lad_no (by decide +kernel) (by decide +kernel) (by decide +kernel) la lp ls, ?_⟩
          walk_at "go"
          refine ⟨x, dx, la, lp, ls, row, pl, i + 2 - 2 * s + j, i + 1, ?_, lx1.same s4, up, by omega, by omega, hl, ?_⟩
          · rw [show (((i + 2 - 2 * s : Nat) : Int) + (j : Int)) = ((i + 2 - 2 * s + j : Nat) : Int) by omega, show (1 + (i : Int)) = ((i + 1 : Nat) : Int) by omega]
            rfl
          · walk_at "go"
            refine kA _ _ ?_ (Same.refl _)
            show some (V.int ((put (tab (cs (rowF row)) s i) (((i + 2 - 2 * s : Nat) : Int) + (j : Int)).toNat).getD 0 + cs (rowF row) (((i + 2 - 2 * s : Nat) : Int) + (j : Int)).toNat (i + 1))) = _
            rw [show (((i + 2 - 2 * s : Nat) : Int) + (j : Int)).toNat = i + 2 - 2 * s + j by omega, pt, hF]
            rfl
      rw [cand_two] at hL2
      have key := F_near (c := cs (rowF row)) (s := s) s1 (n := i) (N := row.length) (fun b m e h1 h2 h3 => cs_cut (rowF_mon up) h1 h2 h3) (by omega)
      walk_at "go"
      have fin : ∀ v : V, v = oV (F (cs (rowF row)) s (i + 1)) → rAppend (V.ref q) [v] H2 fun _ H1 => ∃ (w3 w4 w5 : Option V), [some (V.ref x), some (V.int (s : Int)), some (V.ref q), some (V.int (1 + (i : Int))), some (V.ref L1), v5] = [some (V.ref x), some (V.int (s : Int)), some (V.ref q), w3, w4, w5] ∧ H1 q = some (.lst ((tab (cs (rowF row)) s (i + 1)).map oV)) ∧ Same H H1 := fun v hv => by
        refine U.g_appL (s4 _ _ hq1) (by rw [tl]; omega) ?_
        refine ⟨_, _, _, rfl, ?_, same_mut (s01.trans s4) nq⟩
        rw [upd_same, tab_succ, List.map_append, hv]
        rfl
      refine MD.g_minD (SqL.of hL2) (fun e => ?_) (fun m m1 m2 => ?_)
      · walk_at "go"
        refine fin _ ?_
        rw [← key, e]
        rfl
      · walk_at "go"
        refine fin _ ?_
        rw [← key, lmin_in m1 m2]
        rfl
theorem sc_ladder_of : FnScope ["values", "value"] ["values"] (defScope s_ladder_of) := ⟨rfl, rfl, rfl, by decide +kernel, rfl, by decide +kernel, by decide +kernel⟩
def sp_ladder_of (CL : Addr) : Sp := fun vs H Q _ => ∃ (b : Addr) (ns : List Int), vs = [.ref b] ∧ H b = some (.tup (ns.map V.int)) ∧ ns.length ≤ 200 ∧ (∀ n ∈ ns, -1000000 ≤ n ∧ n ≤ 1000000) ∧ ∀ (x dx la lp ls : Addr) (row pl : List Int) (H' : Hp), H x = none → Same H H' → LadX CL H' x dx la lp ls row pl → RowOk ns row pl → Q (.ref x) H'
theorem ok_ladder_of (T : Tx K mg) : FnOk P w K mg base CX0 3 T.a_ladder_of T.fd_ladder_of ["values"] (sp_ladder_of T.C_Ladder) := by
  refine T.F_ladder_of.ok sc_ladder_of (fun vs H Q E h => ?_) (fun cdv A outer s H vs Q E hr h => ?_)
  · obtain ⟨b, ns, rfl, _⟩ := h
    rfl
  · obtain ⟨b, ns, rfl, hb, hl, hn, kk⟩ := h
    have hu := hu_of hr
    have hu64 := hr.units
    refine ⟨_, (pss_cons (ps_if (PW.pt (pw_or (pt_not (pt_val (pe_callB (call_uIsi (K := K) rfl) (by rfl) T.n_isinstance (by decide +kernel) (pa_cons (pv 0) (pa_cons (u_ty (n := "tuple") (by rfl) T.n_tuple (by decide +kernel)) pa_nil))))) (pw_or1 (pt_cmpR op_uGt (pe_callB (call_uLen (K := K) rfl) (by rfl) T.n_len (by decide +kernel) (pa_cons (pv 0) pa_nil)) (u_constI (by rfl) T.m_MOST_VALUES) (nomark _))))) (pss_one (ps_never)) pss_nil)
        (pss_cons (ps_if (pt_not (pt_val (pe_callB (call_uAll (K := K) rfl rfl) (by rfl) T.n_all (by decide +kernel) (pa_cons (pe_lc rfl sc_ladder_of.nd (u_tup (K := K) rfl (pv 0)) (blkOk_by (own := [("value", 1)]) (N := ["values", "value"]) (sc := defScope s_ladder_of) (by decide +kernel)) (fun _ _ _ _ _ => (pg_name (i := 1) sc_ladder_of.nd rfl (Or.inl rfl))) (fun _ _ _ _ _ => pts_nil) (fun _ _ _ _ _ => (pe_call (ok_is_line_value T) (hr.mono (by decide)) rfl T.m_is_line_value T.F_is_line_value.kp (b_is_line_value T) .nil pass0 (pa_cons (pv 1) pa_nil)))) pa_nil)))) (pss_one (ps_never)) pss_nil)
        (pss_one (ps_ret (pe_make T.M_Ladder (ok_Ladder___init__ T) (hr.mono (by decide)) rfl T.m_Ladder (b_Ladder___init__ T) .nil pass0 (pa_cons (pv 0) pa_nil)))))), ?_⟩
    walk_at "st"
    walk_at "go"
    refine e_isi (ty_tup hb) (show kitB "tuple" "tuple" = some true by decide +kernel) ?_
    walk_at "go"
    refine U.g_lenL (Or.inr (SqT.of hb)) ?_
    walk_at "go"
    rw [List.length_map, decide_eq_false (show ¬ ((200 : Int) < (ns.length : Int)) by omega)]
    walk_at "go"
    refine e_tup (SqT.of hb) ?_
    refine lcI_tup (fun H' s' => SqT.of (s' _ _ hb)) (by rw [List.length_map]; omega) (fun _ => some (.bl true)) (fun x H' A B hx s' kA kB => ?t1) fun L1 H1 nL1 s1 hL1 => ?c1
    case t1 =>
      obtain ⟨n, hm, rfl⟩ := List.mem_map.mp hx
      obtain ⟨n1, n2⟩ := hn n hm
      walk_at "go"
      refine ⟨rfl, ?_⟩
      walk_at "go"
      refine ⟨_, rfl, .inl ⟨n, rfl, ?_⟩⟩
      rw [decide_eq_true n1, decide_eq_true n2]
      exact kA _ _ rfl (Same.refl _)
    have e : (ns.map V.int).filterMap (fun _ => some (V.bl true)) = (ns.map fun _ => true).map V.bl := by
      rw [LM.fm_some, List.map_map, List.map_map]
      rfl
    rw [e] at hL1
    walk_at "go"
    refine U.g_allB (SqL.of hL1) ?_
    rw [show ((ns.map fun _ => true).all id) = true by simp]
    walk_at "go"
    unfold tMake
    walk_at "go"
    intro x dx nx ndx hne
    have nx' : upd H1 dx (.own x) x = none := by rw [upd_ne (Ne.symm hne)]; exact nx
    have sX : Same H1 (upd (upd H1 dx (.own x)) x (.ins T.C_Ladder dx [])) := (U.same_new ndx).trans (U.same_new nx')
    refine ⟨x, dx, b, ns, rfl, upd_same, sX _ _ (s1 _ _ hb), by omega, fun la lp ls row pl H2 lx ok off => ⟨rfl, ?_⟩⟩
    have s2 : Same H1 H2 := fun c u e => off c u (ne_of_none e nx) (sX c u e)
    exact kk x dx la lp ls row pl H2 (none_of s1 nx) (s1.trans s2) lx ok
theorem sc_sized_ladder : FnScope ["values", "size", "ladder"] ["values", "size"] (defScope s_sized_ladder) := ⟨rfl, rfl, rfl, by decide +kernel, rfl, by decide +kernel, by decide +kernel⟩
def sp_sized_ladder (CL : Addr) : Sp := fun vs H Q _ => ∃ (b : Addr) (ns : List Int) (z : Int), vs = [.ref b, .int z] ∧ H b = some (.tup (ns.map V.int)) ∧ ns.length ≤ 200 ∧ (∀ n ∈ ns, -1000000 ≤ n ∧ n ≤ 1000000) ∧ 1 ≤ z ∧ z ≤ 200 ∧ ∀ (x dx la lp ls : Addr) (row pl : List Int) (H' : Hp), H x = none → Same H H' → LadX CL H' x dx la lp ls row pl → RowOk ns row pl → Q (.ref x) H'
theorem ok_sized_ladder (T : Tx K mg) : FnOk P w K mg base CX0 4 T.a_sized_ladder T.fd_sized_ladder ["values", "size"] (sp_sized_ladder T.C_Ladder) := by
  refine T.F_sized_ladder.ok sc_sized_ladder (fun vs H Q E h => ?_) (fun cdv A outer s H vs Q E hr h => ?_)
  · obtain ⟨b, ns, z, rfl, _⟩ := h
    rfl
  · obtain ⟨b, ns, z, rfl, hb, hl, hn, z1, z2, kk⟩ := h
    have hu := hu_of hr
    have hu64 := hr.units
    refine ⟨_, (pss_cons (ps_set (i := 2) sc_sized_ladder.nd rfl (Or.inl rfl) (pe_call (ok_ladder_of T) (hr.mono (by decide)) rfl T.m_ladder_of T.F_ladder_of.kp (b_ladder_of T) .nil pass0 (pa_cons (pv 0) pa_nil)))
        (pss_cons (ps_if (PW.pt (pw_or (pt_not (pt_val (pe_call (ok_is_integer T) (hr.mono (by decide)) rfl T.m_is_integer T.F_is_integer.kp (b_is_integer T) .nil pass0 (pa_cons (pv 1) pa_nil)))) (pw_or1 (pt_not (pt_chain op_uLe op_uLe (pe_int) (pv 1) (u_constI (by rfl) T.m_MOST_SIZE)))))) (pss_one (ps_never)) pss_nil)
        (pss_one (ps_ret (pv 2))))), ?_⟩
    walk_at "st"
    walk_at "go"
    refine ⟨b, ns, rfl, hb, hl, hn, fun x dx la lp ls row pl H1 nx s1 lx ok => ?_⟩
    walk_at "go"
    refine ⟨_, "int", true, false, rfl, ty_int, by decide +kernel, by decide +kernel, ?_⟩
    walk_at "go"
    rw [if_neg (by decide)]
    walk_at "go"
    rw [decide_eq_true z1]
    walk_at "go"
    rw [decide_eq_true z2]
    walk_at "go"
    exact kk x dx la lp ls row pl H1 nx s1 lx ok
end
end Toy

namespace Toy
open PySem L2 U M
section
variable {P : Program} {w : World} {K : PySem.W.Frag} {mg : Str → Option Value} {base : Heap}
theorem sc_is_tuple_of : FnScope ["value", "many"] ["value", "many"] (defScope s_is_tuple_of) := ⟨rfl, rfl, rfl, by decide +kernel, rfl, by decide +kernel, by decide +kernel⟩
def sp_is_tuple_of (K : PySem.W.Frag) : Sp := fun vs H Q _ => ∃ (x : V) (n : Int), vs = [x, .int n] ∧ ((∃ (a : Addr) (xs : List V), x = .ref a ∧ H a = some (.tup xs) ∧ Q (.bl (decide ((xs.length : Int) = n))) H) ∨ (∃ t : String, TyX K H x (.type t) ∧ kitB t "tuple" = some false ∧ Q (.bl false) H))
theorem ok_is_tuple_of (T : Tx K mg) : FnOk P w K mg base CX0 1 T.a_is_tuple_of T.fd_is_tuple_of ["value", "many"] (sp_is_tuple_of K) := by
  refine T.F_is_tuple_of.ok sc_is_tuple_of (fun vs H Q E h => ?_) (fun cdv A outer s H vs Q E hr h => ?_)
  · obtain ⟨x, n, rfl, _⟩ := h
    rfl
  · obtain ⟨x, n, rfl, kk⟩ := h
    have hu := hu_of hr
    have hu64 := hr.units
    refine ⟨_, (pss_one (ps_ret (pe_and (pe_callB (call_uIsi (K := K) rfl) (by rfl) T.n_isinstance (by decide +kernel) (pa_cons (pv 0) (pa_cons (u_ty (n := "tuple") (by rfl) T.n_tuple (by decide +kernel)) pa_nil))) (pe_one (pe_cmpR (op_uEq (K := K) rfl hu64) (pe_callB (call_uLen (K := K) rfl) (by rfl) T.n_len (by decide +kernel) (pa_cons (pv 0) pa_nil)) (pv 1) (nomark _)))))), ?_⟩
    walk_at "st"
    walk_at "go"
    rcases kk with ⟨a, xs, rfl, ha, kk⟩ | ⟨t, ht, k1, kk⟩
    · refine e_isi (ty_tup ha) (show kitB "tuple" "tuple" = some true by decide +kernel) ?_
      walk_at "go"
      refine U.g_lenL (Or.inr (SqT.of ha)) ?_
      walk_at "go"
      have e : decide (V.int xs.length = V.int n) = decide ((xs.length : Int) = n) := by
        rw [Bool.eq_iff_iff, decide_eq_true_eq, decide_eq_true_eq]
        exact ⟨fun z => V.int.inj z, fun z => by rw [z]⟩
      show Q (.bl (decide (V.int xs.length = V.int n))) H
      rw [e]
      exact kk
    · refine e_isi ht k1 ?_
      walk_at "go"
      exact kk
end
end Toy

namespace Toy
open PySem L2 U M LM
section
variable {P : Program} {w : World} {K : PySem.W.Frag} {mg : Str → Option Value} {base : Heap}
def sp_numb (K : PySem.W.Frag) : Sp := fun vs H Q _ => ∃ (m : Int) (x : V), vs = [.int m, x] ∧ plainV x = true ∧ Q (.bl (numB m x)) H
def sp_asc (K : PySem.W.Frag) : Sp := fun vs H Q _ => ∃ (a : Addr) (ns : List Int), vs = [.ref a] ∧ SqT K H a (ns.map V.int) ∧ (∀ H', Same H H' → SqT K H' a (ns.map V.int)) ∧ ns.length ≤ 1000 ∧ ∀ H', Same H H' → Q (.bl (adj ns)) H'
def sp_lot (K : PySem.W.Frag) : Sp := fun vs H Q _ => ∃ (m : Int) (x : V), vs = [.int m, x] ∧ ((plainV x = true ∧ Q (.bl false) H) ∨ ∃ (a : Addr) (xs : List V), x = .ref a ∧ H a = some (.tup xs) ∧ xs.all plainV = true ∧ xs.length ≤ 1000 ∧ ∀ H', Same H H' → Q (.bl (lotB m xs)) H')
end
end Toy

namespace LM
open PySem L2 U M
/-- a value that may be a crowd: none for what is no tuple -/
def CrAt (H : Hp) (v : V) (c : Option (List V)) : Prop := match c with
  | none => plainV v = true
  | some xs => ∃ a, v = .ref a ∧ H a = some (.tup xs) ∧ xs.all plainV = true ∧ xs.length ≤ 1000
theorem CrAt.mono {H H' : Hp} (s : Same H H') {v : V} {c : Option (List V)} (h : CrAt H v c) : CrAt H' v c := by
  cases c with
  | none => exact h
  | some xs => obtain ⟨a, e, h1, h2⟩ := h; exact ⟨a, e, s _ _ h1, h2⟩
def rangeI (n : Nat) : List Int := (List.range n).map fun i : Nat => (i : Int)
/-- crowds for n places and a size -/
def CrowdsOk (n s : Nat) (nss : List (List Int)) : Prop := (∀ ns ∈ nss, ns.Pairwise (· < ·) ∧ (∀ x ∈ ns, 0 ≤ x ∧ x < (n : Int)) ∧ s ≤ ns.length)
structure PartsP (n s : Nat) (cs : List (Option (List V))) : Prop where
  ex : ∃ nss : List (List Int), cs = nss.map (fun ns => some (ns.map V.int)) ∧ CrowdsOk n s nss ∧ nss.flatten.Perm (rangeI n)
/-- one crowd is fine -/
def crB (n s : Nat) (c : Option (List V)) : Bool := match c with
  | none => false
  | some xs => lotB n xs && decide (s ≤ xs.length)
theorem lotB_iff {m : Int} {ns : List Int} : lotB m (ns.map V.int) = true ↔ (∀ x ∈ ns, 0 ≤ x ∧ x < m) ∧ ns.Pairwise (· < ·) := by
  have e : (ns.map V.int).map iOf = ns := by
    rw [List.map_map, show (iOf ∘ V.int) = id from rfl, List.map_id]
  unfold lotB
  rw [Bool.and_eq_true, e, adj_pw, List.all_map, List.all_eq_true]
  refine and_congr ⟨fun h x hx => ?_, fun h x hx => ?_⟩ Iff.rfl
  · have := h x hx
    have this : (decide (0 ≤ x) && decide (x < m)) = true := this
    rw [Bool.and_eq_true, decide_eq_true_eq, decide_eq_true_eq] at this
    exact this
  · show (decide (0 ≤ x) && decide (x < m)) = true
    rw [Bool.and_eq_true, decide_eq_true_eq, decide_eq_true_eq]
    exact h x hx
/-- the loss that crowds shown so have -/
def lossL (ns : List Int) (nss : List (List Int)) (sh : List Int) : Int := ((nss.zip sh).map fun p => (p.1.map fun z => ab (rowF ns z.toNat - p.2)).sum).sum
theorem crB_some {n s : Nat} {ns : List Int} : crB n s (some (ns.map V.int)) = true ↔ ns.Pairwise (· < ·) ∧ (∀ x ∈ ns, 0 ≤ x ∧ x < (n : Int)) ∧ s ≤ ns.length := by
  show (lotB n (ns.map V.int) && decide (s ≤ (ns.map V.int).length)) = true ↔ _
  rw [Bool.and_eq_true, lotB_iff, decide_eq_true_eq, List.length_map]
  exact ⟨fun h => ⟨h.1.2, h.1.1, h.2⟩, fun h => ⟨⟨h.2.1, h.1⟩, h.2.2⟩⟩
theorem PartsP.all {n s : Nat} {cs : List (Option (List V))} (h : PartsP n s cs) : ∀ c ∈ cs, crB n s c = true := fun c hc => by
  obtain ⟨nss, rfl, ok, _⟩ := h.ex
  obtain ⟨ns, hns, rfl⟩ := List.mem_map.mp hc
  exact crB_some.mpr (ok ns hns)
theorem snoc_ex {α : Type} (l : List α) (i : Nat) (h : i < l.length) : l.take (i + 1) = l.take i ++ [l[i]] := by rw [List.take_succ, List.getElem?_eq_getElem h]; rfl
end LM
namespace Toy
open PySem L2 U M LM
section
variable {P : Program} {w : World} {K : PySem.W.Frag} {mg : Str → Option Value} {base : Heap}
def sp_Ladder_middles (CL : Addr) : Sp := fun vs H Q _ => ∃ (x dx la lp ls : Addr) (row pl : List Int) (b e : Nat), vs = [.ref x, .int b, .int e] ∧ LadX CL H x dx la lp ls row pl ∧ b < e ∧ e ≤ row.length ∧ row.length ≤ 1000 ∧ ∀ t H', H t = none → Same H H' → H' t = some (.tup [.int (rowF row ((b + e - 1) / 2)), .int (rowF row ((b + e) / 2))]) → Q (.ref t) H'
theorem sc_has_crowds : FnScope ["values", "size"] ["values", "size"] (defScope s_has_crowds) := ⟨rfl, rfl, rfl, by decide +kernel, rfl, by decide +kernel, by decide +kernel⟩
def sp_has : Sp := fun vs H Q _ => ∃ (b : Addr) (ns : List Int) (s : Nat), vs = [.ref b, .int s] ∧ H b = some (.tup (ns.map V.int)) ∧ ns.length ≤ 1000 ∧ Q (.bl (decide (ns.length = 0) || decide (s ≤ ns.length))) H
theorem ok_has_crowds (T : Tx K mg) : FnOk P w K mg base CX0 1 T.a_has_crowds T.fd_has_crowds ["values", "size"] sp_has := by
  refine T.F_has_crowds.ok sc_has_crowds (fun vs H Q E h => ?_) (fun cdv A outer s H vs Q E hr h => ?_)
  · obtain ⟨b, ns, s, rfl, _⟩ := h
    rfl
  · obtain ⟨b, ns, s, rfl, hb, hl, kk⟩ := h
    have hu := hu_of hr
    have hu64 := hr.units
    refine ⟨_, (pss_one (ps_ret (pe_or (pe_cmpR (op_uEq (K := K) rfl hu64) (pe_callB (call_uLen (K := K) rfl) (by rfl) T.n_len (by decide +kernel) (pa_cons (pv 0) pa_nil)) (pe_int) (nomark _)) (pe_one (pe_cmpR op_uGe (pe_callB (call_uLen (K := K) rfl) (by rfl) T.n_len (by decide +kernel) (pa_cons (pv 0) pa_nil)) (pv 1) (nomark _)))))), ?_⟩
    walk_at "st"
    walk_at "go"
    refine U.g_lenL (Or.inr (SqT.of hb)) ?_
    walk_at "go"
    rw [List.length_map]
    rw [if_neg Bool.false_ne_true]
    have e1 : decide (V.int (ns.length : Int) = V.int 0) = decide (ns.length = 0) := by
      rw [Bool.eq_iff_iff, decide_eq_true_eq, decide_eq_true_eq]
      exact ⟨fun z => by have := V.int.inj z; omega, fun z => by rw [z]; rfl⟩
    rw [e1]
    refine U.g_2 (fun c => ?_) (fun c => ?_)
    · rw [c, Bool.true_or] at kk
      exact kk
    · rw [c, Bool.false_or] at kk
      walk_at "go"
      refine U.g_lenL (Or.inr (SqT.of hb)) ?_
      walk_at "go"
      rw [List.length_map, show decide ((s : Int) ≤ (ns.length : Int)) = decide (s ≤ ns.length) by rw [Bool.eq_iff_iff, decide_eq_true_eq, decide_eq_true_eq]; omega]
      exact kk
def sp_parts (K : PySem.W.Frag) : Sp := fun vs H Q _ => ∃ (b : Addr) (ns : List Int) (s : Nat) (x : V), vs = [.ref b, .int s, x] ∧ H b = some (.tup (ns.map V.int)) ∧ ns.length ≤ 1000 ∧
  ((∃ t, TyX K H x (.type t) ∧ kitB t "tuple" = some false ∧ Q (.bl false) H) ∨ ∃ (a : Addr) (cv : List V) (cs : List (Option (List V))), x = .ref a ∧ H a = some (.tup cv) ∧ Paired (CrAt H) cv cs ∧ cv.length ≤ 1000 ∧ ∀ H' (c : Bool), Same H H' → (c = true ↔ PartsP ns.length s cs) → Q (.bl c) H')
end
end Toy

namespace LM
open PySem L2 U M
def isIB (v : V) : Bool := match v with
  | .int _ => true
  | _ => false
def lossP (ns : List Int) (p : List Int × Int) : Int := (p.1.map fun z => ab (rowF ns z.toNat - p.2)).sum
def lossT (ns : List Int) (nss : List (List Int)) (sh : List Int) (i : Nat) : Int := (((nss.zip sh).take i).map (lossP ns)).sum
end LM
namespace Toy
open PySem L2 U M LM
section
variable {P : Program} {w : World} {K : PySem.W.Frag} {mg : Str → Option Value} {base : Heap}
theorem e_plI {H : Hp} {Q : VK} {E : XK} {x : V} (px : plainV x = true) (q : Q (.bl (isIB x)) H) : sp_is_integer K [x] H Q E := by
  by_cases c : ∃ z, x = .int z
  · obtain ⟨z, rfl⟩ := c
    exact ⟨_, "int", true, false, rfl, ty_int, by decide +kernel, by decide +kernel, q⟩
  · obtain ⟨t, b1, b2, h1, h2, h3, h4⟩ := plain_int (K := K) (H := H) px fun z e => c ⟨z, e⟩
    have e : isIB x = false := by
      cases x with
      | int z => exact absurd ⟨z, rfl⟩ c
      | _ => rfl
    rw [e, ← h4] at q
    exact ⟨_, t, b1, b2, rfl, h1, h2, h3, q⟩
def sp_shown (K : PySem.W.Frag) : Sp := fun vs H Q _ => ∃ (a : Addr) (cv : List V) (x : V), vs = [.ref a, x] ∧ H a = some (.tup cv) ∧ cv.length ≤ 1000 ∧
  ((∃ t, TyX K H x (.type t) ∧ kitB t "tuple" = some false ∧ Q (.bl false) H) ∨ ∃ (q : Addr) (xs : List V), x = .ref q ∧ H q = some (.tup xs) ∧ xs.all plainV = true ∧ xs.length ≤ 1000 ∧ ∀ H', Same H H' → Q (.bl (decide (xs.length = cv.length) && xs.all isIB)) H')
def sp_lossS : Sp := fun vs H Q _ => ∃ (b a q : Addr) (ns : List Int) (cv : List V) (nss : List (List Int)) (sh : List Int), vs = [.ref b, .ref a, .ref q] ∧ H b = some (.tup (ns.map V.int)) ∧ H a = some (.tup cv) ∧ Paired (CrAt H) cv (nss.map fun ns => some (ns.map V.int)) ∧ H q = some (.tup (sh.map V.int)) ∧ sh.length = nss.length ∧ nss.length ≤ 1000 ∧
  (∀ k ∈ nss, ∀ x ∈ k, 0 ≤ x ∧ x < (ns.length : Int)) ∧ ∀ H', Same H H' → Q (.int (lossL ns nss sh)) H'
end
end Toy

namespace LM
open PySem L2 U M
theorem ints_dp {K : PySem.W.Frag} {H : Hp} : ∀ ns : List Int, DpAll K H (ns.map V.int) (ns.map PyData.int)
  | [] => .nil
  | n :: r => .cons (.int n) (ints_dp r)
theorem ints_shaped (ns : List Int) : SeqAt.shaped (.list (ns.map PyData.int)) = true := by
  unfold SeqAt.shaped
  rw [Bool.and_eq_true]
  refine ⟨lay_all fun d hd => ?_, decide_eq_true ?_⟩
  · obtain ⟨p, hp, rfl⟩ := List.mem_map.mp hd
    rfl
  · have := MD.depth_ints ns
    simp only [PyData.depth]
    omega
/-- a list of ints != [] -/
theorem g_neNil {K : PySem.W.Frag} {H : Hp} {Q : VK} {l m : Addr} {ns : List Int} (hl : SqL K H l (ns.map V.int)) (hm : SqL K H m []) (q : Q (.bl (!ns.isEmpty)) H) : uEq K true (.ref l) (.ref m) H Q := by
  refine Or.inr ⟨.list (ns.map PyData.int), .list [], Dp.lst hl (ints_dp ns), Dp.lst hm .nil, ints_shaped ns, by decide +kernel, ?_⟩
  have e : PyData.eqv (.list (ns.map PyData.int)) (.list []) = ns.isEmpty := by
    cases ns with
    | nil => simp only [List.map_nil, PyData.eqv, PyData.eqvAll, List.isEmpty_nil]
    | cons n r => simp only [List.map_cons, PyData.eqv, PyData.eqvAll, List.isEmpty_cons]
  rw [e, if_pos rfl]
  exact q
def upW (w : Int) : Int := if w = 0 then 3 else if w = 1 then 9 else if w = 2 then 2000 else 7
def ofW (w : Int) : Int := if w = 0 then 0 else if w = 1 then -4 else if w = 2 then -1000 else 999990
theorem w_at {w : Int} (h0 : 0 ≤ w) (h1 : w < 4) : ([.int 3, .int 9, .int 2000, .int 7] : List V)[w.toNat]? = some (.int (upW w)) ∧ ([.int 0, .int (-4), .int (-1000), .int 999990] : List V)[w.toNat]? = some (.int (ofW w)) ∧ 0 < upW w ∧ upW w < 2 ^ 62 ∧ ∀ r : Int, 0 ≤ r → r < upW w → -1000000 ≤ r + ofW w ∧ r + ofW w ≤ 1000000 := by
  have : w = 0 ∨ w = 1 ∨ w = 2 ∨ w = 3 := by omega
  rcases this with rfl | rfl | rfl | rfl
  all_goals
    refine ⟨rfl, rfl, by decide, by decide, fun r r0 r1 => ?_⟩
    unfold upW at r1
    unfold ofW
    simp at r1 ⊢
    omega
end LM
namespace Toy
open PySem L2 U M LM
theorem sb_free {p a : Addr} {n : Nat} {H H' : Hp} (s : SB p H H') (hp : PotAt H' p n) (na : H' a = none) : H a = none := by
  cases e : H a with
  | none => rfl
  | some o =>
    have := s a o e (pot_ne hp na)
    rw [na] at this
    cases this
theorem mapI_at {ms : List Int} {j : Nat} {y : V} (h : (ms.map V.int)[j]? = some y) : ∃ z ∈ ms, y = .int z := by
  obtain ⟨z, hz, e⟩ := List.mem_map.mp (List.mem_of_getElem? h)
  exact ⟨z, hz, e.symm⟩
section
variable {P : Program} {w : World} {K : PySem.W.Frag} {mg : Str → Option Value} {base : Heap}
theorem sc__law_line_values : FnScope ["pot", "most", "amount", "way", "some", "found", "lap"] ["pot", "most"] (defScope s__law_line_values) := ⟨rfl, rfl, rfl, by decide +kernel, rfl, by decide +kernel, by decide +kernel⟩
def sp_lvals : Sp := fun vs H Q _ => ∃ (p : Addr) (m n : Nat), vs = [.ref p, .int m] ∧ m ≤ 60 ∧ PotAt H p (n + 2 * m + 20) ∧ ∀ (q : Addr) (ns : List Int) (H' : Hp), H q = none → H' q = some (.tup (ns.map V.int)) → ns.length ≤ m → inB ns → PotAt H' p n → SB p H H' → Q (.ref q) H'
theorem ok__law_line_values (T : Tx K mg) : FnOk P w K mg base CX0 3 T.a__law_line_values T.fd__law_line_values ["pot", "most"] sp_lvals := by
  refine T.F__law_line_values.ok sc__law_line_values (fun vs H Q E h => ?_) (fun cdv A outer s H vs Q E hr h => ?_)
  · obtain ⟨p, m, n, rfl, _⟩ := h
    rfl
  · obtain ⟨p, m, n, rfl, hm, hp, kk⟩ := h
    have hu := hu_of hr
    have hu64 := hr.units
    refine ⟨_, (pss_cons (ps_asg (pe_tup (pa_cons (pe_call (ok__law_take T) (hr.mono (by decide)) rfl T.m__law_take T.F__law_take.kp (b__law_take T) .nil pass0 (pa_cons (pv 0) (pa_cons (pe_op (op_uAdd (K := K) rfl) (pv 1) (pe_int)) pa_nil))) (pa_cons (pe_call (ok__law_take T) (hr.mono (by decide)) rfl T.m__law_take T.F__law_take.kp (b__law_take T) .nil pass0 (pa_cons (pv 0) (pa_cons (pe_int) pa_nil))) pa_nil))) (u_gtup (K := K) (n := 2) rfl rfl (pgs_cons (pg_name (i := 2) sc__law_line_values.nd rfl (Or.inl rfl)) (pgs_cons (pg_name (i := 3) sc__law_line_values.nd rfl (Or.inr rfl)) pgs_nil))))
        (pss_cons (ps_set (i := 4) sc__law_line_values.nd rfl (Or.inr rfl) (pe_lc rfl sc__law_line_values.nd (pi_range1 (by rfl) T.n_range (pa_cons (pe_op (op_uAdd (K := K) rfl) (pe_int) (pv 2)) pa_nil)) (blkOk_by (own := [("lap", 6)]) (N := ["pot", "most", "amount", "way", "some", "found", "lap"]) (sc := defScope s__law_line_values) (by decide +kernel)) (fun _ _ _ _ _ => (pg_name (i := 6) sc__law_line_values.nd rfl (Or.inl rfl))) (fun _ _ _ _ _ => pts_nil) (fun _ _ _ _ _ => (pe_callTy call_uInt (by rfl) T.n_int (by decide +kernel) (pa_cons (pe_op (op_uAdd (K := K) rfl) (pe_call (ok__law_take T) (hr.mono (by decide)) rfl T.m__law_take T.F__law_take.kp (b__law_take T) .nil pass0 (pa_cons (pv 0) (pa_cons (pe_ix (ix_u (K := K) rfl) (pe_lst (pa_cons (pe_int) (pa_cons (pe_int) (pa_cons (pe_int) (pa_cons (pe_int) pa_nil))))) (pv 3) (fun _ _ => rfl)) pa_nil))) (pe_ix (ix_u (K := K) rfl) (pe_lst (pa_cons (pe_int) (pa_cons (pe_un op_uNeg (pe_int)) (pa_cons (pe_un op_uNeg (pe_int)) (pa_cons (pe_int) pa_nil))))) (pv 3) (fun _ _ => rfl))) pa_nil)))))
        (pss_cons (ps_setLc (i := 5) rfl sc__law_line_values.nd rfl rfl (sw_true rfl rfl rfl (by decide +kernel)) (pi_range1 (by rfl) T.n_range (pa_cons (pv 2) pa_nil)) (blkOk_by (own := [("lap", 6)]) (N := ["pot", "most", "amount", "way", "some", "found", "lap"]) (sc := defScope s__law_line_values) (by decide +kernel)) (fun _ _ _ _ _ => (pg_name (i := 6) sc__law_line_values.nd rfl (Or.inl rfl))) (fun _ _ _ _ _ => pts_nil) (fun _ _ _ _ _ => (pe_callTy call_uInt (by rfl) T.n_int (by decide +kernel) (pa_cons (pe_call (ok__law_of T) (hr.mono (by decide)) rfl T.m__law_of T.F__law_of.kp (b__law_of T) .nil pass0 (pa_cons (pv 0) (pa_cons (pv 4) pa_nil))) pa_nil))))
        (pss_cons (ps_if (PW.pt (pw_and (pt_cmpR (op_uNe (K := K) rfl hu64) (pv 5) (pe_lst pa_nil) (nomark _)) (pw_and1 (pt_cmpR (op_uEq (K := K) rfl hu64) (pe_call (ok__law_take T) (hr.mono (by decide)) rfl T.m__law_take T.F__law_take.kp (b__law_take T) .nil pass0 (pa_cons (pv 0) (pa_cons (pe_int) pa_nil))) (pe_int) (nomark _))))) (pss_one (ps_asg (pe_callTy call_uInt (by rfl) T.n_int (by decide +kernel) (pa_cons (pe_call (ok__law_of T) (hr.mono (by decide)) rfl T.m__law_of T.F__law_of.kp (b__law_of T) .nil pass0 (pa_cons (pv 0) (pa_cons (pe_lst (pa_cons (pe_op op_uPow (pe_int) (pe_int)) (pa_cons (pe_un op_uNeg (pe_op op_uPow (pe_int) (pe_int))) pa_nil))) pa_nil))) pa_nil)) (pg_sub (pv 5) (pe_call (ok__law_take T) (hr.mono (by decide)) rfl T.m__law_take T.F__law_take.kp (b__law_take T) .nil pass0 (pa_cons (pv 0) (pa_cons (pv 2) pa_nil))) set_list))) pss_nil)
        (pss_one (ps_ret (pe_callTy (call_uTuple (K := K) rfl) (by rfl) T.n_tuple (by decide +kernel) (pa_cons (pv 5) pa_nil)))))))), ?_⟩
    walk_at "st"
    walk_at "go"
    refine ⟨p, m + 1, n + 2 * m + 19, rfl, by omega, by omega, hp, fun r H1 r0 r1 hp1 s1 => ?_⟩
    obtain ⟨k, rfl⟩ : ∃ k : Nat, r = (k : Int) := ⟨r.toNat, by omega⟩
    walk_at "go"
    refine ⟨p, 4, n + 2 * m + 18, rfl, by decide, by decide, hp1, fun w H2 w0 w1 hp2 s2 => ?_⟩
    obtain ⟨wa, wb, wc, wd, we⟩ := w_at w0 w1
    walk_at "go"
    refine ⟨by show 2 ≤ sizeLine; decide, fun t nt => ?_⟩
    have s12 : SB p H (upd H2 t (.tup [.int (k : Int), .int w])) := (s1.trans s2).new nt
    have hp2' := hp2.new (o := .tup [.int (k : Int), .int w]) nt
    walk_at "go"
    generalize hH : upd H2 t (.tup [.int (k : Int), .int w]) = H3 at s12 hp2' ⊢
    refine e_rng (by omega) (by omega) ?_
    rw [show (1 + (k : Int)).toNat = k + 1 by omega]
    refine lcI_by walk_range (by omega) fun Ea nE => ⟨fun i acc H' => ∃ ms : List Int, acc = ms.map V.int ∧ ms.length = i ∧ inB ms ∧ PotAt H' p (n + 2 * m + 18 - i) ∧ SB p H H', ⟨[], rfl, rfl, (fun _ h => by cases h), hp2'.new nE, s12.new nE⟩, fun _ _ _ _ _ => trivial, ?turn, ?rest⟩
    case turn =>
      rintro i x acc H' _ A B hi hacc ⟨ms, rfl, ml, mb, hpi, si⟩ ⟨rfl, rfl⟩ kA kB
      have Ep : Ea ≠ p := pot_ne hp2' nE
      walk_at "go"
      refine ⟨rfl, ?_⟩
      walk_at "go"
      refine ⟨by decide, fun a na => ?_⟩
      walk_at "go"
      refine U.g_ix (Or.inl (SqL.of upd_same)) (U.at_nat (show w = ((w.toNat : Nat) : Int) by omega) wa) ?_
      walk_at "go"
      refine ⟨p, upW w, n + 2 * m + 18 - (i + 1), rfl, wc, wd, (hpi.new na).le (by omega), fun z H4 z0 z1 hp4 s4 => ?_⟩
      walk_at "go"
      refine ⟨by decide, fun b nb => ?_⟩
      walk_at "go"
      refine U.g_ix (Or.inl (SqL.of upd_same)) (U.at_nat (show w = ((w.toNat : Nat) : Int) by omega) wb) ?_
      walk_at "go"
      refine kA _ _ (get_new nb (s4 _ _ (get_new na hacc) Ep)) ⟨ms ++ [z + ofW w], by rw [List.map_append]; rfl, by rw [List.length_append, ml]; rfl, ?_, ((hp4.new nb).put (Ne.symm Ep)).le (by omega), ?_⟩
      · intro y hy
        rcases List.mem_append.mp hy with hy | hy
        · exact mb y hy
        · rw [List.mem_singleton] at hy
          subst hy
          exact we z z0 z1
      · exact (((si.new na).trans s4).new nb).mut (sb_free s12 hp2' nE)
    case rest =>
      rintro acc H4 hE ⟨ms, rfl, ml, mb, hp4, s4⟩
      walk_at "go"
      have Ep : Ea ≠ p := pot_ne hp2' nE
      refine e_rng (by omega) (by omega) ?_
      rw [show ((k : Int)).toNat = k by omega]
      refine lcI_by walk_range (by omega) fun Eb nE2 => ⟨fun i acc H' => ∃ ns : List Int, acc = ns.map V.int ∧ ns.length = i ∧ inB ns ∧ PotAt H' p (n + m + 10 - i) ∧ SB p H H' ∧ H' Ea = some (.lst (ms.map V.int)), ⟨[], rfl, rfl, (fun _ h => by cases h), (hp4.new nE2).le (by omega), s4.new nE2, get_new nE2 hE⟩, fun _ _ _ _ _ => trivial, ?turn2, ?rest2⟩
      case turn2 =>
        rintro i x acc H' _ A B hi hacc ⟨ns, rfl, nl, nb, hpi, si, hEa⟩ ⟨rfl, rfl⟩ kA kB
        have Ep2 : Eb ≠ p := pot_ne hp4 nE2
        have Eab : Ea ≠ Eb := ne_of_none hE nE2
        walk_at "go"
        refine ⟨rfl, ?_⟩
        walk_at "go"
        refine ⟨p, .ref Ea, n + m + 10 - (i + 1), rfl, hpi.le (by omega), Or.inl ⟨Ea, _, rfl, Or.inl (SqL.of hEa), by rw [List.length_map]; omega, by rw [List.length_map]; omega, fun H5 s5 => Or.inl (SqL.of (s5 _ _ hEa Ep)), fun j y H5 hy hp5 s5 => ?_⟩⟩
        obtain ⟨z, hz, rfl⟩ := mapI_at hy
        walk_at "go"
        refine kA _ _ (s5 _ _ hacc Ep2) ⟨ns ++ [z], by rw [List.map_append]; rfl, by rw [List.length_append, nl]; rfl, ?_, hp5.put (Ne.symm Ep2), (si.trans s5).mut (sb_free s4 hp4 nE2), get_ne Eab (s5 _ _ hEa Ep)⟩
        intro y hy
        rcases List.mem_append.mp hy with hy | hy
        · exact nb y hy
        · rw [List.mem_singleton] at hy
          subst hy
          exact mb y hz
      case rest2 =>
        rintro acc H5 hEb ⟨ns, rfl, nl, nb, hp5, s5, hEa⟩
        have Ep2 : Eb ≠ p := pot_ne hp4 nE2
        have fin : ∀ (ns' : List Int) (H6 : Hp), H6 Eb = some (.lst (ns'.map V.int)) → ns'.length = k → inB ns' → PotAt H6 p n → SB p H H6 → uTupC K [.ref Eb] H6 Q := fun ns' H6 h1 h2 h3 h4 h5 => by
          refine U.g_tupL (SqL.of h1) fun q nq => ?_
          exact kk q ns' _ (sb_free h5 h4 nq) upd_same (by omega) h3 (h4.new nq) (h5.new nq)
        walk_at "go"
        refine ⟨by decide, fun a na => ?_⟩
        have hp6 := (hp5.new (o := .lst []) na).le (show n + 10 ≤ n + m + 10 - k by omega)
        have s6 := s5.new (o := .lst []) na
        have hEb6 := get_new (o := .lst []) na hEb
        have nsl : (ns.map V.int).length = k := by rw [List.length_map, nl]
        refine g_neNil (SqL.of hEb6) (SqL.of upd_same) ?_
        generalize upd H5 a (.lst []) = H6 at hp6 s6 hEb6 ⊢
        refine ⟨_, rfl, U.g_2 (fun c => ?_) (fun c => ?_)⟩
        · have k0 : 0 < k := by
            cases ns with
            | nil => cases c
            | cons x r => rw [← nl]; exact Nat.succ_pos _
          walk_at "go"
          refine ⟨p, 6, n + 9, rfl, by decide, by decide, hp6, fun r6 H7 r60 r61 hp7 s7 => ?_⟩
          have hEb7 := s7 _ _ hEb6 Ep2
          have s07 := s6.trans s7
          walk_at "go"
          refine U.g_2 (fun c => ?_) (fun c => ?_)
          · walk_at "go"
            refine ⟨by decide, fun b nb' => ?_⟩
            refine ⟨p, .ref b, n + 8, rfl, (hp7.new nb').le (by omega), Or.inl ⟨b, _, rfl, Or.inl (SqL.of upd_same), by decide, by decide, fun H8 s8 => Or.inl (SqL.of (s8 _ _ upd_same (pot_ne hp7 nb'))), fun j y H8 hy hp8 s8 => ?_⟩⟩
            obtain ⟨z, rfl, z0, z1⟩ := intIn_out (all_at (f := intIn (-1000000) 1000000) (by decide +kernel) hy)
            have hEb8 := s8 _ _ (get_new nb' hEb7) Ep2
            have s08 := (s07.new nb').trans s8
            walk_at "go"
            refine ⟨p, k, n + 7, rfl, by omega, by omega, hp8, fun r9 H9 r90 r91 hp9 s9 => ?_⟩
            have hEb9 := s9 _ _ hEb8 Ep2
            have s09 := s08.trans s9
            refine U.g_setL hEb9 (show ixN (ns.map V.int).length r9 = some r9.toNat by unfold ixN; rw [nsl, if_pos r90, if_pos (by omega)]) ?_
            walk_at "go"
            refine fin (ns.set r9.toNat z) _ (by rw [upd_same, List.map_set]) (by rw [List.length_set, nl]) (fun y hy => ?_) ((hp9.put (Ne.symm Ep2)).le (by omega)) (s09.mut (sb_free s4 hp4 nE2))
            rcases List.mem_or_eq_of_mem_set hy with h | h
            · exact nb y h
            · subst h; exact ⟨z0, z1⟩
          · walk_at "go"
            exact fin ns _ hEb7 nl nb (hp7.le (by omega)) s07
        · have e : (!ns.isEmpty) = false := c
          walk_at "go"
          exact fin ns _ hEb6 nl nb (hp6.le (by omega)) s6
theorem sc__law_crowd_cost : FnScope ["members", "row", "one"] ["members"] (defScope s__law_crowd_cost) := ⟨rfl, rfl, rfl, by decide +kernel, rfl, by decide +kernel, by decide +kernel⟩
def sp_cost (K : PySem.W.Frag) : Sp := fun vs H Q _ => ∃ (l : Addr) (ns row : List Int), vs = [.ref l] ∧ (SqL K H l (ns.map V.int) ∨ SqT K H l (ns.map V.int)) ∧ 0 < ns.length ∧ ns.length ≤ 1000 ∧ Row ns row ∧ ∀ H' : Hp, Same H H' → Q (.int (cs (rowF row) 0 row.length)) H'
theorem ok__law_crowd_cost (T : Tx K mg) : FnOk P w K mg base CX0 1 T.a__law_crowd_cost T.fd__law_crowd_cost ["members"] (sp_cost K) := by
  refine T.F__law_crowd_cost.ok sc__law_crowd_cost (fun vs H Q E h => ?_) (fun cdv A outer s H vs Q E hr h => ?_)
  · obtain ⟨l, ns, row, rfl, _⟩ := h
    rfl
  · obtain ⟨l, ns, row, rfl, hl, l0, l1, hrow, kk⟩ := h
    have hu := hu_of hr
    have hu64 := hr.units
    refine ⟨_, (pss_cons (ps_set (i := 1) sc__law_crowd_cost.nd rfl (Or.inr rfl) (pe_callB (ST.cr_sortLT (K := K) rfl) (by rfl) T.n_sorted (by decide +kernel) (pa_cons (pv 0) pa_nil)))
        (pss_one (ps_ret (pe_callTy call_uInt (by rfl) T.n_int (by decide +kernel) (pa_cons (pe_callB (call_uSum (K := K) rfl rfl) (by rfl) T.n_sum (by decide +kernel) (pa_cons (pe_lc rfl sc__law_crowd_cost.nd (u_list (K := K) rfl (pv 1)) (blkOk_by (own := [("one", 2)]) (N := ["members", "row", "one"]) (sc := defScope s__law_crowd_cost) (by decide +kernel)) (fun _ _ _ _ _ => (pg_name (i := 2) sc__law_crowd_cost.nd rfl (Or.inl rfl))) (fun _ _ _ _ _ => pts_nil) (fun _ _ _ _ _ => (pe_callB call_uAbs (by rfl) T.n_abs (by decide +kernel) (pa_cons (pe_op op_uSub (pv 2) (pe_ix (ix_u (K := K) rfl) (pv 1) (pe_op op_uDiv (pe_callB (call_uLen (K := K) rfl) (by rfl) T.n_len (by decide +kernel) (pa_cons (pv 1) pa_nil)) (pe_int)) (fun _ _ => rfl))) pa_nil)))) pa_nil)) pa_nil))))), ?_⟩
    walk_at "st"
    walk_at "go"
    refine ST.g_sortLT hl fun ns' q h1 h2 nq => ?_
    cases hrow.uniq ⟨h1, h2⟩
    have rl := hrow.len
    have sq := U.same_new (o := .lst (row.map V.int)) nq
    walk_at "go"
    refine e_list (SqL.of upd_same) ?_
    refine lcI_list (SqL.of upd_same) (by rw [List.length_map]; omega) (fun v => match v with | .int z => some (.int (ab (z - rowF row (row.length / 2)))) | _ => none) (fun x H2 A B hx s2 kA kB => ?t1) fun L1 H2 nL1 s2 hL1 => ?c1
    case t1 =>
      obtain ⟨n, hm, rfl⟩ := List.mem_map.mp hx
      have hq2 := s2 _ _ (upd_same (H := H) (o := .lst (row.map V.int)) (a := q))
      walk_at "go"
      refine ⟨rfl, ?_⟩
      walk_at "go"
      refine U.g_lenL (Or.inl (SqL.of hq2)) ?_
      walk_at "go"
      rw [List.length_map]
      refine U.g_ix (Or.inl (SqL.of hq2)) (U.at_nat (show (row.length : Int) / 2 = ((row.length / 2 : Nat) : Int) by omega) (show (row.map V.int)[row.length / 2]? = some (V.int (rowF row (row.length / 2))) by rw [List.getElem?_map, rowF_at (by omega)]; rfl)) ?_
      walk_at "go"
      exact kA _ _ rfl (Same.refl _)
    walk_at "go"
    have e : (row.map V.int).filterMap (fun v => match v with | .int z => some (V.int (ab (z - rowF row (row.length / 2)))) | _ => none) = (row.map fun z => ab (z - rowF row (row.length / 2))).map V.int := by
      rw [List.filterMap_map, List.map_map, ← List.filterMap_eq_map]
      rfl
    rw [e] at hL1
    refine U.g_sum (SqL.of hL1) ?_
    walk_at "go"
    have e2 : (row.map fun z => ab (z - rowF row (row.length / 2))).sum = cs (rowF row) 0 row.length := sum_cost row
    rw [e2]
    exact kk _ (sq.trans s2)
end
end Toy

namespace Toy
open PySem L2 U M LM
section
variable {P : Program} {w : World} {K : PySem.W.Frag} {mg : Str → Option Value} {base : Heap}
theorem sc__law_cut_costs : FnScope ["values", "least", "row", "found", "end", "some", "begin"] ["values", "least"] (defScope s__law_cut_costs) := ⟨rfl, rfl, rfl, by decide +kernel, rfl, by decide +kernel, by decide +kernel⟩
def sp_lcuts (K : PySem.W.Frag) : Sp := fun vs H Q _ => ∃ (b : Addr) (ns row : List Int) (s : Nat), vs = [.ref b, .int s] ∧ (SqL K H b (ns.map V.int) ∨ SqT K H b (ns.map V.int)) ∧ ns.length ≤ 200 ∧ Row ns row ∧ 1 ≤ s ∧ s ≤ 1000 ∧ ∀ (q : Addr) (H' : Hp), H q = none → Same H H' → H' q = some (.lst ((tab (cs (rowF row)) s row.length).map oV)) → Q (.ref q) H'
theorem ok__law_cut_costs (T : Tx K mg) : FnOk P w K mg base CX0 2 T.a__law_cut_costs T.fd__law_cut_costs ["values", "least"] (sp_lcuts K) := by
  refine T.F__law_cut_costs.ok sc__law_cut_costs (fun vs H Q E h => ?_) (fun cdv A outer s H vs Q E hr h => ?_)
  · obtain ⟨b, ns, row, s, rfl, _⟩ := h
    rfl
  · obtain ⟨b, ns, row, s, rfl, hb, hl, hrow, h1, h2, kk⟩ := h
    have hu := hu_of hr
    have hu64 := hr.units
    refine ⟨_, (pss_cons (ps_par rfl sc__law_cut_costs.nd (i := 2) (j := 3) rfl rfl (by decide) rfl rfl (pa_cons (pe_callB (ST.cr_sortLT (K := K) rfl) (by rfl) T.n_sorted (by decide +kernel) (pa_cons (pv 0) pa_nil)) (pa_cons (pe_lst (pa_cons (pe_int) pa_nil)) pa_nil)) (by rfl))
        (pss_cons (ps_for PassesOwn.never rfl (pi_range2 (by rfl) T.n_range (pa_cons (pe_int) (pa_cons (pe_op (op_uAdd (K := K) rfl) (pe_callB (call_uLen (K := K) rfl) (by rfl) T.n_len (by decide +kernel) (pa_cons (pv 2) pa_nil)) (pe_int)) pa_nil))) (pg_name (i := 4) sc__law_cut_costs.nd rfl (Or.inl rfl)) (pss_cons (ps_set (i := 5) sc__law_cut_costs.nd rfl (Or.inl rfl) (pe_lst pa_nil))
        (pss_cons (ps_for PassesOwn.never rfl (pi_range1 (by rfl) T.n_range (pa_cons (pe_op (op_uAdd (K := K) rfl) (pe_op op_uSub (pv 4) (pv 1)) (pe_int)) pa_nil)) (pg_name (i := 6) sc__law_cut_costs.nd rfl (Or.inl rfl)) (pss_one (ps_if (pt_cmpR op_notN (pe_ix (ix_u (K := K) rfl) (pv 3) (pv 6) (fun _ _ => rfl)) pe_non (nomark _)) (pss_one (ps_expr (pe_bm PySem.F.plainAttrs_list PySem.F.slot_list_append PySem.F.type_list_append mt_append (pv 5) (pa_cons (pe_op (op_uAdd (K := K) rfl) (pe_ix (ix_u (K := K) rfl) (pv 3) (pv 6) (fun _ _ => rfl)) (pe_call (ok__law_crowd_cost T) (hr.mono (by decide)) rfl T.m__law_crowd_cost T.F__law_crowd_cost.kp (b__law_crowd_cost T) .nil pass0 (pa_cons (pe_slice (sl_u (K := K) rfl) (pv 2) (po_some (pv 6)) (po_some (pv 4))) pa_nil))) pa_nil)))) pss_nil)))
        (pss_one (ps_expr (pe_bm PySem.F.plainAttrs_list PySem.F.slot_list_append PySem.F.type_list_append mt_append (pv 3) (pa_cons (pe_ifExp (pt_cmpR (op_uNe (K := K) rfl hu64) (pv 5) (pe_lst pa_nil) (nomark _)) (pe_callB (cr_min rfl) (by rfl) T.n_min (by decide +kernel) (pa_cons (pv 5) pa_nil)) (pe_non)) pa_nil)))))))
        (pss_one (ps_ret (pv 3))))), ?_⟩
    walk_at "st"
    walk_at "go"
    refine ST.g_sortLT hb fun ns' l p1 p2 nl => ?_
    cases hrow.uniq ⟨p1, p2⟩
    have rl := hrow.len
    have sl := U.same_new (o := .lst (row.map V.int)) nl
    walk_at "go"
    refine ⟨by decide, fun q nq => ?_⟩
    have sq := U.same_new (o := .lst [V.int 0]) nq
    have hl1 := sq _ _ (upd_same (H := H) (o := .lst (row.map V.int)) (a := l))
    have nq0 := U.nb1 nq
    have lq : l ≠ q := ne_of_none (upd_same (H := H) (o := .lst (row.map V.int)) (a := l)) nq
    walk_at "go"
    refine U.g_lenL (Or.inl (SqL.of hl1)) ?_
    walk_at "go"
    rw [List.length_map]
    refine e_rng2 (by omega) ?_
    rw [show ((row.length : Int) + 1 - 1).toNat = row.length by omega]
    refine forI_by walk_range (fun i σ' H' => ∃ (v4 v5 v6 : Option V), σ' = [some (.ref b), some (.int (s : Int)), some (.ref l), some (.ref q), v4, v5, v6] ∧ H' q = some (.lst ((tab (cs (rowF row)) s i).map oV)) ∧ H' l = some (.lst (row.map V.int)) ∧ Same H H') ⟨none, none, none, rfl, upd_same, hl1, sl.trans sq⟩ (fun _ _ _ _ _ => trivial) ?ts ?td
    case td =>
      rintro σ' H' ⟨v4, v5, v6, rfl, hq, _, s'⟩
      walk_at "go"
      exact kk q H' nq0 s' hq
    case ts =>
      rintro i y σ' H' _ hi ⟨v4, v5, v6, rfl, hq, hl', s'⟩ ⟨rfl, rfl⟩
      have tl : ((tab (cs (rowF row)) s i).map oV).length = i + 1 := by rw [List.length_map, tab_len]
      have tat : ∀ {b : Nat}, b ≤ i → ((tab (cs (rowF row)) s i).map oV)[b]? = some (oV (F (cs (rowF row)) s b)) := fun h => by rw [List.getElem?_map, tab_at _ _ h]; rfl
      walk_at "go"
      refine ⟨by decide, fun m nm => ?_⟩
      have sm0 := U.same_new (o := .lst []) nm
      have mq : q ≠ m := ne_of_none hq nm
      have ml : l ≠ m := ne_of_none hl' nm
      have nm0 := none_of s' nm
      walk_at "go"
      refine e_rng (by omega) (by omega) ?_
      rw [show (1 + (i : Int) - (s : Int) + 1).toNat = i + 2 - s by omega]
      refine forI_by walk_range (fun j σ' H2 => ∃ v6 : Option V, σ' = [some (.ref b), some (.int (s : Int)), some (.ref l), some (.ref q), some (.int (1 + (i : Int))), some (.ref m), v6] ∧ H2 q = some (.lst ((tab (cs (rowF row)) s i).map oV)) ∧ H2 l = some (.lst (row.map V.int)) ∧ H2 m = some (.lst ((cand (cs (rowF row)) (tab (cs (rowF row)) s i) 0 j (i + 1)).map V.int)) ∧ Same H H2) ⟨v6, rfl, sm0 _ _ hq, sm0 _ _ hl', upd_same, s'.trans sm0⟩ (fun _ _ _ _ _ => trivial) ?us ?ud
      case us =>
        rintro j z σ2 H2 _ hj ⟨v6, rfl, hq2, hl2, hm2, s2⟩ ⟨rfl, rfl⟩
        have hb' : j ≤ i := by omega
        have pt := put_tab (cs (rowF row)) s hb'
        have csucc : cand (cs (rowF row)) (tab (cs (rowF row)) s i) 0 (j + 1) (i + 1) = cand (cs (rowF row)) (tab (cs (rowF row)) s i) 0 j (i + 1) ++ (match F (cs (rowF row)) s j with | none => [] | some u => [u + cs (rowF row) j (i + 1)]) := by
          unfold cand
          rw [show j + 1 - 0 = j + 1 by omega, show j - 0 = j by omega, List.range'_concat, List.filterMap_append]
          congr 1
          rw [show 0 + 1 * j = j by omega]
          simp only [List.filterMap_cons, List.filterMap_nil, pt]
          cases F (cs (rowF row)) s j <;> rfl
        have cl : (cand (cs (rowF row)) (tab (cs (rowF row)) s i) 0 j (i + 1)).length ≤ j := by
          unfold cand
          refine Nat.le_trans (List.length_filterMap_le _ _) ?_
          rw [List.length_range']
          omega
        walk_at "go"
        refine U.g_ix (Or.inl (SqL.of hq2)) (U.at_nat (show (0 + (j : Int)) = ((j : Nat) : Int) by omega) (tat hb')) ?_
        cases hF : F (cs (rowF row)) s j with
        | none =>
          refine U.g_c ⟨rfl, _, rfl, U.g_F ?_⟩
          walk_at "go"
          exact ⟨_, rfl, hq2, hl2, by rw [hm2, csucc, hF, List.append_nil], s2⟩
        | some u =>
          refine U.g_c ⟨rfl, _, rfl, U.g_T ?_⟩
          walk_at "go"
          refine U.g_ix (Or.inl (SqL.of hq2)) (U.at_nat (show (0 + (j : Int)) = ((j : Nat) : Int) by omega) (tat hb')) ?_
          rw [hF]
          walk_at "go"
          refine U.g_slL (SqL.of hl2) fun c nc => ?_
          rw [show (0 + (j : Int)) = ((j : Nat) : Int) by omega, show (1 + (i : Int)) = ((i + 1 : Nat) : Int) by omega, cut_mid (by rw [List.length_map]; omega) (by omega), ← List.map_drop, ← List.map_take]
          have sc := U.same_new (o := .lst (((row.drop j).take (i + 1 - j)).map V.int)) nc
          have pl : ((row.drop j).take (i + 1 - j)).length = i + 1 - j := by rw [List.length_take, List.length_drop]; omega
          walk_at "go"
          refine ⟨c, _, _, rfl, Or.inl (SqL.of upd_same), by omega, by omega, part_row hrow.up j (i + 1 - j), fun H3 s3 => ?_⟩
          rw [pl, cs_part (by omega) (by omega)]
          refine U.g_addI ?_
          walk_at "go"
          refine U.g_appL (s3 _ _ (sc _ _ hm2)) (by rw [List.length_map]; omega) ?_
          refine ⟨_, rfl, ?_, ?_, ?_, same_mut ((s2.trans sc).trans s3) nm0⟩
          · exact (upd_ne mq).trans (s3 _ _ (sc _ _ hq2))
          · exact (upd_ne ml).trans (s3 _ _ (sc _ _ hl2))
          · rw [upd_same, csucc, hF, List.map_append]
            rfl
      case ud =>
        rintro σ2 H2 ⟨v6, rfl, hq2, hl2, hm2, s2⟩
        walk_at "go"
        have fin : ∀ (H3 : Hp) (v : V), Same H2 H3 → v = oV (F (cs (rowF row)) s (i + 1)) → rAppend (V.ref q) [v] H3 fun _ H4 => ∃ (w4 w5 w6 : Option V), [some (.ref b), some (.int (s : Int)), some (.ref l), some (.ref q), some (.int (1 + (i : Int))), some (.ref m), v6] = [some (.ref b), some (.int (s : Int)), some (.ref l), some (.ref q), w4, w5, w6] ∧ H4 q = some (.lst ((tab (cs (rowF row)) s (i + 1)).map oV)) ∧ H4 l = some (.lst (row.map V.int)) ∧ Same H H4 := fun H3 v s3 hv => by
          refine U.g_appL (s3 _ _ hq2) (by rw [tl]; omega) ?_
          refine ⟨_, _, _, rfl, ?_, (upd_ne lq).trans (s3 _ _ hl2), same_mut (s2.trans s3) nq0⟩
          rw [upd_same, tab_succ, List.map_append, hv]
          rfl
        refine ⟨by decide, fun c nc => ?_⟩
        have sc := U.same_new (o := .lst []) nc
        refine g_neNil (SqL.of (sc _ _ hm2)) (SqL.of upd_same) ⟨_, rfl, U.g_2 (fun h => ?_) (fun h => ?_)⟩
        · walk_at "go"
          refine ⟨m, _, rfl, SqL.of (sc _ _ hm2), ?_, fun v m1 m2 => ?_⟩
          · generalize cand (cs (rowF row)) (tab (cs (rowF row)) s i) 0 (i + 2 - s) (i + 1) = xs at h
            cases xs with
            | nil => cases h
            | cons x r => exact Nat.succ_pos _
          · walk_at "go"
            refine fin _ _ sc ?_
            rw [F_succ, lmin_in m1 m2]
            rfl
        · walk_at "go"
          refine fin _ _ sc ?_
          rw [F_succ]
          generalize cand (cs (rowF row)) (tab (cs (rowF row)) s i) 0 (i + 2 - s) (i + 1) = xs at h
          cases xs with
          | nil => rfl
          | cons x r => cases h
theorem sc__law_least : FnScope ["values", "least"] ["values", "least"] (defScope s__law_least) := ⟨rfl, rfl, rfl, by decide +kernel, rfl, by decide +kernel, by decide +kernel⟩
def sp_least (K : PySem.W.Frag) : Sp := fun vs H Q _ => ∃ (b : Addr) (ns row : List Int) (s : Nat), vs = [.ref b, .int s] ∧ (SqL K H b (ns.map V.int) ∨ SqT K H b (ns.map V.int)) ∧ ns.length ≤ 200 ∧ Row ns row ∧ 1 ≤ s ∧ s ≤ 1000 ∧ ∀ H' : Hp, Same H H' → Q (oV (F (cs (rowF row)) s row.length)) H'
theorem ok__law_least (T : Tx K mg) : FnOk P w K mg base CX0 3 T.a__law_least T.fd__law_least ["values", "least"] (sp_least K) := by
  refine T.F__law_least.ok sc__law_least (fun vs H Q E h => ?_) (fun cdv A outer s H vs Q E hr h => ?_)
  · obtain ⟨b, ns, row, s, rfl, _⟩ := h
    rfl
  · obtain ⟨b, ns, row, s, rfl, hb, hl, hrow, h1, h2, kk⟩ := h
    have hu := hu_of hr
    have hu64 := hr.units
    refine ⟨_, (pss_one (ps_ret (pe_ix (ix_u (K := K) rfl) (pe_call (ok__law_cut_costs T) (hr.mono (by decide)) rfl T.m__law_cut_costs T.F__law_cut_costs.kp (b__law_cut_costs T) .nil pass0 (pa_cons (pv 0) (pa_cons (pv 1) pa_nil))) (pe_un op_uNeg (pe_int)) (fun _ _ => rfl)))), ?_⟩
    walk_at "st"
    walk_at "go"
    refine ⟨b, ns, row, s, rfl, hb, hl, hrow, h1, h2, fun q H1 nq s1 hq => ?_⟩
    walk_at "go"
    obtain ⟨ys, ey⟩ := tab_end (cs (rowF row)) s row.length
    refine U.g_ix (Or.inl (SqL.of hq)) (at_end (map_end oV ey)) ?_
    exact kk _ s1
end
end Toy

namespace LM8
open PySem L2 U M LM
/-- heights: the least losses, the highest of them where there is none -/
def hiF (L : List (Option Int)) (hi : Int) : List Int := L.map fun o => o.getD hi
/-- what heights may be told -/
def HtOk (row : List Int) (s : Nat) (zs : List Int) : Prop := zs.length = row.length + 1 ∧ rowF zs 0 = 0 ∧ some (rowF zs row.length) = F (cs (rowF row)) s row.length ∧ ∀ b e, b < row.length → b + s ≤ e → e ≤ row.length → rowF zs e - rowF zs b ≤ cs (rowF row) b e
def lossesI (c : Nat → Nat → Int) (s n : Nat) : List Int := (tab c s n).filterMap id
theorem tab_memI {c : Nat → Nat → Int} {s n i : Nat} {u : Int} (h : i ≤ n) (e : F c s i = some u) : u ∈ lossesI c s n := by
  have t := tab_at c s h
  rw [e] at t
  unfold lossesI
  rw [List.mem_filterMap]
  exact ⟨some u, List.mem_of_getElem? t, rfl⟩
theorem hiF_at {c : Nat → Nat → Int} {s n i : Nat} {m : Int} (h : i ≤ n) : rowF (hiF (tab c s n) m) i = (F c s i).getD m := by
  unfold rowF hiF
  rw [List.getElem?_map, tab_at c s h]
  rfl
theorem heights_ok {row : List Int} {s : Nat} {m : Int} (hs : 1 ≤ s) (hc : row.length = 0 ∨ s ≤ row.length) (hm : ∀ y ∈ lossesI (cs (rowF row)) s row.length, y ≤ m) : HtOk row s (hiF (tab (cs (rowF row)) s row.length) m) := by
  refine ⟨by unfold hiF; rw [List.length_map, tab_len], ?_, ?_, fun b e hb hbe he => ?_⟩
  · rw [hiF_at (Nat.zero_le _), F_zero]; rfl
  · rw [hiF_at (Nat.le_refl _)]
    obtain ⟨u, eF⟩ := F_one (c := cs (rowF row)) hs hc
    rw [eF]
    rfl
  · rw [hiF_at he, hiF_at (by omega)]
    have n0 := cs_nonneg (rowF row) (b := b) (e := e) (by omega)
    cases eb : F (cs (rowF row)) s b with
    | none =>
      have top : (F (cs (rowF row)) s e).getD m ≤ m := by
        cases ee : F (cs (rowF row)) s e with
        | none => exact Int.le_refl _
        | some v => exact hm _ (tab_memI he ee)
      show (F (cs (rowF row)) s e).getD m - m ≤ _
      omega
    | some u =>
      obtain ⟨v, ev, le⟩ := F_le (c := cs (rowF row)) hs hbe eb
      rw [ev]
      show v - u ≤ _
      omega
end LM8
namespace Toy
open PySem PySem.Spec PyProof.Rows L2 U M LM G QD KW LM8 EX
section
variable {P : Program} {w : World} {K : PySem.W.Frag} {mg : Str → Option Value} {base : Heap}
theorem sc_crowded_ladder : FnScope ["values", "size", "ladder"] ["values", "size"] (defScope s_crowded_ladder) := ⟨rfl, rfl, rfl, by decide +kernel, rfl, by decide +kernel, by decide +kernel⟩
def sp_crowded (CL : Addr) : Sp := fun vs H Q _ => ∃ (b : Addr) (ns : List Int) (s : Nat), vs = [.ref b, .int s] ∧ H b = some (.tup (ns.map V.int)) ∧ ns.length ≤ 200 ∧ inB ns ∧ 1 ≤ s ∧ s ≤ 200 ∧ (ns.length = 0 ∨ s ≤ ns.length) ∧ ∀ (x dx la lp ls : Addr) (row pl : List Int) (H' : Hp), H x = none → Same H H' → LadX CL H' x dx la lp ls row pl → RowOk ns row pl → Q (.ref x) H'
theorem ok_crowded_ladder (T : Tx K mg) : FnOk P w K mg base CX0 5 T.a_crowded_ladder T.fd_crowded_ladder ["values", "size"] (sp_crowded T.C_Ladder) := by
  refine T.F_crowded_ladder.ok sc_crowded_ladder (fun vs H Q E h => ?_) (fun cdv A outer s H vs Q E hr h => ?_)
  · obtain ⟨b, ns, s, rfl, _⟩ := h
    rfl
  · obtain ⟨b, ns, s, rfl, hb, hl, hn, z1, z2, hc, kk⟩ := h
    have hu := hu_of hr
    have hu64 := hr.units
    refine ⟨_, (pss_cons (ps_set (i := 2) sc_crowded_ladder.nd rfl (Or.inl rfl) (pe_call (ok_sized_ladder T) (hr.mono (by decide)) rfl T.m_sized_ladder T.F_sized_ladder.kp (b_sized_ladder T) .nil pass0 (pa_cons (pv 0) (pa_cons (pv 1) pa_nil))))
        (pss_cons (ps_if (pt_not (pt_val (pe_call (ok_has_crowds T) (hr.mono (by decide)) rfl T.m_has_crowds T.F_has_crowds.kp (b_has_crowds T) .nil pass0 (pa_cons (pv 0) (pa_cons (pv 1) pa_nil))))) (pss_one (ps_never)) pss_nil)
        (pss_one (ps_ret (pv 2))))), ?_⟩
    walk_at "st"
    walk_at "go"
    refine ⟨b, ns, s, rfl, hb, hl, hn, by omega, by omega, fun x dx la lp ls row pl H1 nx s1 lx ok => ?_⟩
    walk_at "go"
    refine ⟨b, ns, s, rfl, s1 _ _ hb, by omega, ?_⟩
    rw [show (decide (ns.length = 0) || decide (s ≤ ns.length)) = true by rw [Bool.or_eq_true, decide_eq_true_eq, decide_eq_true_eq]; exact hc]
    walk_at "go"
    exact kk x dx la lp ls row pl H1 nx s1 lx ok
/-- without crowds: NoCrowds with how many values -/
def sp_crowdX (CN : Addr) : Sp := fun vs H _ E => ∃ (b : Addr) (ns : List Int) (s : Nat), vs = [.ref b, .int s] ∧ H b = some (.tup (ns.map V.int)) ∧ ns.length ≤ 200 ∧ inB ns ∧ 1 ≤ s ∧ s ≤ 200 ∧ 0 < ns.length ∧ ns.length < s ∧ ∀ d H', Same H H' → H' d = some (.xd [(("value" : Str), .int (ns.length : Nat))]) → E (.ref CN) (some d) H'
theorem okx_crowded_ladder (T : Tx K mg) : FnOk P w K mg base (L2.CX P w) 5 T.a_crowded_ladder T.fd_crowded_ladder ["values", "size"] (sp_crowdX T.C_NoCrowds) := by
  refine T.F_crowded_ladder.okX sc_crowded_ladder (fun vs H Q E h => ?_) (fun cdv A outer s H vs Q E hr h => ?_)
  · obtain ⟨b, ns, s, rfl, _⟩ := h
    rfl
  · obtain ⟨b, ns, s, rfl, hb, hl, hn, z1, z2, c0, c1, kk⟩ := h
    have hu := hu_of hr
    have hu64 := hr.units
    refine ⟨_, (pss_cons (ps_set (i := 2) sc_crowded_ladder.nd rfl (Or.inl rfl) (pe_call (ok_sized_ladder T) (hr.mono (by decide)) rfl T.m_sized_ladder T.F_sized_ladder.kp (b_sized_ladder T) .nil pass0 (pa_cons (pv 0) (pa_cons (pv 1) pa_nil))))
        (pss_cons (ps_if (pt_not (pt_val (pe_call (ok_has_crowds T) (hr.mono (by decide)) rfl T.m_has_crowds T.F_has_crowds.kp (b_has_crowds T) .nil pass0 (pa_cons (pv 0) (pa_cons (pv 1) pa_nil))))) (pss_one (ps_raise rfl (takes_of rfl rfl rfl rfl) (pmk_oex T.e_NoCrowds.oex T.e_NoCrowds.ini T.tI (ok_CrowdError___init__ T) (hr.mono (by decide)) (b_CrowdError___init__ T) .nil pass0 rfl T.m_NoCrowds (pa_cons (pe_callB (call_uLen (K := K) rfl) (by rfl) T.n_len (by decide +kernel) (pa_cons (pv 0) pa_nil)) pa_nil)))) pss_nil)
        (pss_one (ps_ret (pv 2))))), ?_⟩
    walk_at "st"
    walk_at "go"
    refine ⟨b, ns, s, rfl, hb, hl, hn, by omega, by omega, fun x dx la lp ls row pl H1 nx s1 lx ok => ?_⟩
    walk_at "go"
    refine ⟨b, ns, s, rfl, s1 _ _ hb, by omega, ?_⟩
    rw [show (decide (ns.length = 0) || decide (s ≤ ns.length)) = false by rw [Bool.or_eq_false_iff, decide_eq_false_iff_not, decide_eq_false_iff_not]; omega]
    walk_at "go"
    unfold tMkO
    walk_at "go"
    refine U.g_lenL (Or.inr (SqT.of (s1 _ _ hb))) ?_
    rw [List.length_map]
    walk_at "go"
    refine ⟨by show 1 ≤ 1000; decide, fun e ne => ?_⟩
    refine ⟨e, T.C_NoCrowds, _, rfl, T.e_NoCrowds.oex, T.e_NoCrowds.noV, upd_same, fun d nd de => ?_⟩
    have nd1 : H1 d = none := by rw [upd_ne de] at nd; exact nd
    refine ⟨rfl, d, _, upd_same, by rw [upd_ne de, upd_same], nd1, kk d _ (s1.trans fun b o hb => ?_) upd_same⟩
    have be : b ≠ e := ne_of_none hb ne
    have bd : b ≠ d := ne_of_none hb nd1
    rw [upd_ne bd, del_ne be, upd_ne be, upd_ne bd, upd_ne be]
    exact hb
end
end Toy

namespace Toy
open PySem PySem.Spec L2 U M LM G QD KW LM8
section
variable {P : Program} {w : World} {K : PySem.W.Frag} {mg : Str → Option Value} {base : Heap}
theorem sc_heights : FnScope ["values", "size", "losses", "highest", "loss"] ["values", "size"] (defScope s_heights) := ⟨rfl, rfl, rfl, by decide +kernel, rfl, by decide +kernel, by decide +kernel⟩
def sp_heights : Sp := fun vs H Q _ => ∃ (b : Addr) (ns row : List Int) (s : Nat), vs = [.ref b, .int s] ∧ H b = some (.tup (ns.map V.int)) ∧ ns.length ≤ 200 ∧ inB ns ∧ Row ns row ∧ 1 ≤ s ∧ s ≤ 200 ∧ (ns.length = 0 ∨ s ≤ ns.length) ∧ ∀ (q : Addr) (zs : List Int) (H' : Hp), H q = none → Same H H' → H' q = some (.tup (zs.map V.int)) → HtOk row s zs → Q (.ref q) H'
theorem ok_heights (T : Tx K mg) : FnOk P w K mg base CX0 6 T.a_heights T.fd_heights ["values", "size"] sp_heights := by
  refine T.F_heights.ok sc_heights (fun vs H Q E h => ?_) (fun cdv A outer s H vs Q E hr h => ?_)
  · obtain ⟨b, ns, row, s, rfl, _⟩ := h
    rfl
  · obtain ⟨b, ns, row, s, rfl, hb, hl, hn, R, z1, z2, hc, kk⟩ := h
    have hu := hu_of hr
    have hu64 := hr.units
    refine ⟨_, (pss_cons (ps_set (i := 2) sc_heights.nd rfl (Or.inl rfl) (pe_meth (pe_call (ok_crowded_ladder T) (hr.mono (by decide)) rfl T.m_crowded_ladder T.F_crowded_ladder.kp (b_crowded_ladder T) .nil pass0 (pa_cons (pv 0) (pa_cons (pv 1) pa_nil))) T.cl_Ladder T.me_Ladder_first_losses (ok_Ladder_first_losses T) (hr.mono (by decide)) (b_Ladder_first_losses T) .nil pass0 (pa_cons (pv 1) pa_nil)))
        (pss_cons (ps_set (i := 3) sc_heights.nd rfl (Or.inr rfl) (pe_callB (cr_max rfl) (by rfl) T.n_max (by decide +kernel) (pa_cons (pe_lc rfl sc_heights.nd (u_list (K := K) rfl (pv 2)) (blkOk_by (own := [("loss", 4)]) (N := ["values", "size", "losses", "highest", "loss"]) (sc := defScope s_heights) (by decide +kernel)) (fun _ _ _ _ _ => (pg_name (i := 4) sc_heights.nd rfl (Or.inl rfl))) (fun _ _ _ _ _ => (pts_one (pt_cmpR op_notN (pv 4) pe_non (nomark _)))) (fun _ _ _ _ _ => (pv 4))) pa_nil)))
        (pss_one (ps_ret (pe_callTy (call_uTuple (K := K) rfl) (by rfl) T.n_tuple (by decide +kernel) (pa_cons (pe_lc rfl sc_heights.nd (u_list (K := K) rfl (pv 2)) (blkOk_by (own := [("loss", 4)]) (N := ["values", "size", "losses", "highest", "loss"]) (sc := defScope s_heights) (by decide +kernel)) (fun _ _ _ _ _ => (pg_name (i := 4) sc_heights.nd rfl (Or.inl rfl))) (fun _ _ _ _ _ => pts_nil) (fun _ _ _ _ _ => (pe_ifExp (pt_cmpR op_isN (pv 4) pe_non (nomark _)) (pv 3) (pv 4)))) pa_nil)))))), ?_⟩
    walk_at "st"
    walk_at "go"
    refine ⟨b, ns, s, rfl, hb, hl, hn, by omega, by omega, hc, fun x dx la lp ls row' pl H1 nx sa lx ok => ?_⟩
    have er : row' = row := ok.row.uniq R
    subst er
    have lr : row'.length = ns.length := R.perm.length_eq
    have lpl : row'.length = pl.length := by rw [ok.len, ok.pln]
    walk_at "go"
    refine ⟨x, dx, _, rfl, lx.hi, lad_no (by decide +kernel) (by decide +kernel) (by decide +kernel) la lp ls, ?_⟩
    walk_at "go"
    refine ⟨x, dx, la, lp, ls, row', pl, s, rfl, lx, ok.up, lpl, by omega, z1, by omega, fun q2 H4 nq2 s4 hq2 => ?_⟩
    walk_at "go"
    have s2 := sa.trans s4
    have vw : ∀ o : V, o ∈ (tab (cs (rowF row')) s row'.length).map oV → ∃ u : Option Int, o = oV u := fun o ho => by
      obtain ⟨u, _, rfl⟩ := List.mem_map.mp ho
      exact ⟨u, rfl⟩
    have tl : ((tab (cs (rowF row')) s row'.length).map oV).length ≤ 1000000 := by rw [List.length_map, tab_len]; omega
    refine e_list (SqL.of hq2) ?_
    refine lcI_list (SqL.of hq2) tl (fun v => match v with | .int i => some (.int i) | _ => none) (fun v H' A B hv s' kA kB => ?t1) fun L1 H5 nL1 s5 hL1 => ?c1
    case t1 =>
      obtain ⟨u, rfl⟩ := vw v hv
      cases u with
      | none =>
        walk_at "go"
        refine ⟨rfl, ?_⟩
        walk_at "go"
        exact kB rfl _ (Same.refl _)
      | some i =>
        walk_at "go"
        refine ⟨rfl, ?_⟩
        walk_at "go"
        rw [if_pos (show (!decide (oV (some i) = V.non)) = true by rfl)]
        walk_at "go"
        exact kA _ _ rfl (Same.refl _)
    have el : ((tab (cs (rowF row')) s row'.length).map oV).filterMap (fun v => match v with | .int i => some (V.int i) | _ => none) = (lossesI (cs (rowF row')) s row'.length).map V.int := by
      unfold lossesI
      generalize tab (cs (rowF row')) s row'.length = t
      induction t with
      | nil => rfl
      | cons o r ih => cases o with
        | none => simpa [oV] using ih
        | some i => simpa [oV] using ih
    rw [el] at hL1
    have ne : 0 < (lossesI (cs (rowF row')) s row'.length).length := List.length_pos_of_mem (tab_memI (Nat.zero_le _) (F_zero _ _))
    walk_at "go"
    refine g_maxL (SqL.of hL1) ne fun m mm mx => ?_
    walk_at "go"
    have hq5 := s5 _ _ hq2
    refine e_list (SqL.of hq5) ?_
    refine lcI_list (SqL.of hq5) tl (fun v => match v with | .int i => some (.int i) | _ => some (.int m)) (fun v H' A B hv s' kA kB => ?t2) fun L2 H6 nL2 s6 hL2 => ?c2
    case t2 =>
      obtain ⟨u, rfl⟩ := vw v hv
      cases u with
      | none =>
        walk_at "go"
        refine ⟨rfl, ?_⟩
        walk_at "go"
        rw [if_pos (show decide (oV none = V.non) = true by rfl)]
        walk_at "go"
        exact kA _ _ rfl (Same.refl _)
      | some i =>
        walk_at "go"
        refine ⟨rfl, ?_⟩
        walk_at "go"
        rw [if_neg (show ¬ decide (oV (some i) = V.non) = true by intro z; cases z)]
        walk_at "go"
        exact kA _ _ rfl (Same.refl _)
    have el2 : ((tab (cs (rowF row')) s row'.length).map oV).filterMap (fun v => match v with | .int i => some (V.int i) | _ => some (V.int m)) = (hiF (tab (cs (rowF row')) s row'.length) m).map V.int := by
      unfold hiF
      generalize tab (cs (rowF row')) s row'.length = t
      induction t with
      | nil => rfl
      | cons o r ih => cases o with
        | none => simpa [oV] using ih
        | some i => simpa [oV] using ih
    rw [el2] at hL2
    walk_at "go"
    refine U.g_tupL (SqL.of hL2) fun z nz => ?_
    have s06 := (s2.trans s5).trans s6
    refine kk z _ _ (none_of s06 nz) (s06.trans (U.same_new nz)) upd_same (heights_ok z1 (by rw [lr]; exact hc) mx)
theorem sc_shows_heights : FnScope ["values", "size", "value", "ladder", "many", "begin", "end", "height"] ["values", "size", "value"] (defScope s_shows_heights) := ⟨rfl, rfl, rfl, by decide +kernel, rfl, by decide +kernel, by decide +kernel⟩
/-- a value that is no tuple, or a tuple of plain things -/
def HvAt (K : PySem.W.Frag) (H : Hp) (v : V) (o : Option (List V)) : Prop := match o with
  | none => ∃ t, TyX K H v (.type t) ∧ kitB t "tuple" = some false ∧ ∀ H', Same H H' → TyX K H' v (.type t)
  | some xs => ∃ a, v = .ref a ∧ H a = some (.tup xs) ∧ xs.all plainV = true ∧ xs.length ≤ 300
theorem ints_isI (zs : List Int) : (zs.map V.int).all isIB = true := by
  rw [List.all_map]
  exact List.all_eq_true.mpr fun _ _ => rfl
theorem ints_inj : ∀ {xs ys : List Int}, xs.map V.int = ys.map V.int → xs = ys
  | [], [], _ => rfl
  | [], _ :: _, h => by cases h
  | _ :: _, [], h => by cases h
  | x :: xs, y :: ys, h => by
    rw [List.map_cons, List.map_cons, List.cons.injEq] at h
    rw [V.int.inj h.1, ints_inj h.2]
theorem isI_ints : ∀ {xs : List V}, xs.all isIB = true → ∃ zs : List Int, xs = zs.map V.int
  | [], _ => ⟨[], rfl⟩
  | x :: r, h => by
    rw [List.all_cons, Bool.and_eq_true] at h
    obtain ⟨zs, rfl⟩ := isI_ints h.2
    cases x <;> first | exact ⟨_ :: zs, rfl⟩ | cases h.1
def HtP (row : List Int) (s : Nat) (o : Option (List V)) : Prop := ∃ zs : List Int, o = some (zs.map V.int) ∧ HtOk row s zs
def sp_showsH (K : PySem.W.Frag) : Sp := fun vs H Q _ => ∃ (b : Addr) (ns row : List Int) (s : Nat) (v : V) (o : Option (List V)), vs = [.ref b, .int s, v] ∧ H b = some (.tup (ns.map V.int)) ∧ ns.length ≤ 200 ∧ inB ns ∧ Row ns row ∧ 1 ≤ s ∧ s ≤ 200 ∧ (ns.length = 0 ∨ s ≤ ns.length) ∧ HvAt K H v o ∧ ∀ (c : Bool) (H' : Hp), Same H H' → (c = true ↔ HtP row s o) → Q (.bl c) H'
theorem ok_shows_heights (T : Tx K mg) : FnOk P w K mg base CX0 6 T.a_shows_heights T.fd_shows_heights ["values", "size", "value"] (sp_showsH K) := by
  refine T.F_shows_heights.ok sc_shows_heights (fun vs H Q E h => ?_) (fun cdv A outer s H vs Q E hr h => ?_)
  · obtain ⟨b, ns, row, s, v, o, rfl, _⟩ := h
    rfl
  · obtain ⟨b, ns, row, s, v, o, rfl, hb, hl, hn, R, z1, z2, hc, ho, kk⟩ := h
    have hu := hu_of hr
    have hu64 := hr.units
    refine ⟨_, (pss_cons (ps_set (i := 3) sc_shows_heights.nd rfl (Or.inl rfl) (pe_call (ok_crowded_ladder T) (hr.mono (by decide)) rfl T.m_crowded_ladder T.F_crowded_ladder.kp (b_crowded_ladder T) .nil pass0 (pa_cons (pv 0) (pa_cons (pv 1) pa_nil))))
        (pss_cons (ps_set (i := 4) sc_shows_heights.nd rfl (Or.inl rfl) (pe_callB (call_uLen (K := K) rfl) (by rfl) T.n_len (by decide +kernel) (pa_cons (pv 0) pa_nil)))
        (pss_cons (ps_if (PW.pt (pw_or (pt_not (pt_val (pe_call (ok_is_tuple_of T) (hr.mono (by decide)) rfl T.m_is_tuple_of T.F_is_tuple_of.kp (b_is_tuple_of T) .nil pass0 (pa_cons (pv 2) (pa_cons (pe_op (op_uAdd (K := K) rfl) (pv 4) (pe_int)) pa_nil))))) (pw_or1 (pt_not (pt_val (pe_callB (call_uAll (K := K) rfl rfl) (by rfl) T.n_all (by decide +kernel) (pa_cons (pe_lc rfl sc_shows_heights.nd (u_tup (K := K) rfl (pv 2)) (blkOk_by (own := [("height", 7)]) (N := ["values", "size", "value", "ladder", "many", "begin", "end", "height"]) (sc := defScope s_shows_heights) (by decide +kernel)) (fun _ _ _ _ _ => (pg_name (i := 7) sc_shows_heights.nd rfl (Or.inl rfl))) (fun _ _ _ _ _ => pts_nil) (fun _ _ _ _ _ => (pe_call (ok_is_integer T) (hr.mono (by decide)) rfl T.m_is_integer T.F_is_integer.kp (b_is_integer T) .nil pass0 (pa_cons (pv 7) pa_nil)))) pa_nil))))))) (pss_one (ps_ret (pe_bl))) pss_nil)
        (pss_cons (ps_if (PW.pt (pw_or (pt_cmpR (op_uNe (K := K) rfl hu64) (pe_ix (ix_u (K := K) rfl) (pv 2) (pe_int) (fun _ _ => rfl)) (pe_int) (nomark _)) (pw_or1 (pt_cmpR (op_uNe (K := K) rfl hu64) (pe_ix (ix_u (K := K) rfl) (pv 2) (pv 4) (fun _ _ => rfl)) (pe_ix (ix_u (K := K) rfl) (pe_meth (pv 3) T.cl_Ladder T.me_Ladder_first_losses (ok_Ladder_first_losses T) (hr.mono (by decide)) (b_Ladder_first_losses T) .nil pass0 (pa_cons (pv 1) pa_nil)) (pv 4) (fun _ _ => rfl)) (nomark _))))) (pss_one (ps_ret (pe_bl))) pss_nil)
        (pss_cons (ps_for PassesOwn.never rfl (pi_range1 (by rfl) T.n_range (pa_cons (pv 4) pa_nil)) (pg_name (i := 5) sc_shows_heights.nd rfl (Or.inl rfl)) (pss_one (ps_for PassesOwn.never rfl (pi_range2 (by rfl) T.n_range (pa_cons (pe_op (op_uAdd (K := K) rfl) (pv 5) (pv 1)) (pa_cons (pe_op (op_uAdd (K := K) rfl) (pv 4) (pe_int)) pa_nil))) (pg_name (i := 6) sc_shows_heights.nd rfl (Or.inl rfl)) (pss_one (ps_if (pt_cmpR op_uGt (pe_op op_uSub (pe_ix (ix_u (K := K) rfl) (pv 2) (pv 6) (fun _ _ => rfl)) (pe_ix (ix_u (K := K) rfl) (pv 2) (pv 5) (fun _ _ => rfl))) (pe_meth (pv 3) T.cl_Ladder T.me_Ladder_loss (ok_Ladder_loss T) (hr.mono (by decide)) (b_Ladder_loss T) .nil pass0 (pa_cons (pv 5) (pa_cons (pv 6) pa_nil))) (nomark _)) (pss_one (ps_ret (pe_bl))) pss_nil)))))
        (pss_one (ps_ret (pe_bl)))))))), ?_⟩
    walk_at "st"
    walk_at "go"
    refine ⟨b, ns, s, rfl, hb, hl, hn, by omega, by omega, hc, fun x dx la lp ls row' pl H1 nx sa lx ok => ?_⟩
    have er : row' = row := ok.row.uniq R
    subst er
    have lr : row'.length = ns.length := R.perm.length_eq
    have lpl : row'.length = pl.length := by rw [ok.len, ok.pln]
    walk_at "go"
    refine U.g_lenL (Or.inr (SqT.of (sa _ _ hb))) ?_
    rw [List.length_map]
    walk_at "go"
    have no : ¬ HtP row' s o → ∀ H', Same H H' → Q (.bl false) H' := fun h H' s' => kk false H' s' ⟨fun z => (by cases z), fun z => absurd z h⟩
    cases o with
    | none =>
      obtain ⟨t, t1, t2, t3⟩ := ho
      refine ⟨v, _, rfl, .inr ⟨t, t3 _ sa, t2, ?_⟩⟩
      walk_at "go"
      exact no (fun ⟨zs, e, _⟩ => by cases e) _ sa
    | some xs =>
      obtain ⟨a, rfl, ha, px, xl⟩ := ho
      have ha1 := sa _ _ ha
      refine ⟨_, _, rfl, .inl ⟨a, xs, rfl, ha1, ?_⟩⟩
      rw [show decide ((xs.length : Int) = (ns.length : Int) + 1) = decide (xs.length = ns.length + 1) by rw [Bool.eq_iff_iff, decide_eq_true_eq, decide_eq_true_eq]; omega]
      by_cases cl : xs.length = ns.length + 1
      case neg =>
        rw [decide_eq_false cl]
        refine ⟨_, rfl, ?_⟩
        walk_at "go"
        exact no (fun ⟨zs, e, h⟩ => cl (by cases e; rw [List.length_map, h.1, lr])) _ sa
      rw [decide_eq_true cl]
      refine ⟨_, rfl, ?_⟩
      rw [if_neg (show ¬ (!true) = true by decide)]
      walk_at "go"
      refine e_tup (SqT.of ha1) ?_
      refine lcI_tup (fun H' s' => SqT.of (s' _ _ ha1)) (by omega) (fun v => some (.bl (isIB v))) (fun x H' A B hx s' kA kB => ?t3) fun L1 H2 nL1 s2 hL1 => ?c3
      case t3 =>
        walk_at "go"
        refine ⟨rfl, ?_⟩
        walk_at "go"
        exact e_plI (List.all_eq_true.mp px x hx) (kA _ _ rfl (Same.refl _))
      rw [show xs.filterMap (fun v => some (V.bl (isIB v))) = (xs.map isIB).map V.bl by rw [LM.fm_some, List.map_map]; rfl] at hL1
      walk_at "go"
      refine U.g_allB (SqL.of hL1) ?_
      rw [show (xs.map isIB).all id = xs.all isIB by rw [List.all_map]; rfl]
      have sa2 := sa.trans s2
      by_cases ci : xs.all isIB = true
      case neg =>
        rw [Bool.not_eq_true] at ci
        rw [ci]
        refine ⟨_, rfl, ?_⟩
        walk_at "go"
        exact no (fun ⟨zs, e, h⟩ => by cases e; rw [ints_isI] at ci; cases ci) _ sa2
      rw [ci]
      obtain ⟨zs, rfl⟩ := isI_ints ci
      rw [List.length_map] at cl
      have lz : zs.length = row'.length + 1 := by rw [cl, lr]
      refine ⟨_, rfl, ?_⟩
      rw [if_neg (show ¬ (!true) = true by decide)]
      walk_at "go"
      have zat : ∀ i : Nat, i ≤ row'.length → (zs.map V.int)[i]? = some (V.int (rowF zs i)) := fun i hi => by
        rw [List.getElem?_map, rowF_at (by omega)]; rfl
      have ha2 := s2 _ _ ha1
      refine U.g_ix (Or.inr (SqT.of ha2)) (U.at_nat (show (0 : Int) = ((0 : Nat) : Int) from rfl) (zat 0 (by omega))) ?_
      walk_at "go"
      by_cases c0 : rowF zs 0 = 0
      case neg =>
        rw [if_pos (show (if true = true then !decide (V.int (rowF zs 0) = V.int 0) else decide (V.int (rowF zs 0) = V.int 0)) = true by rw [if_pos rfl, decide_eq_false (fun z => c0 (V.int.inj z))]; rfl)]
        walk_at "go"
        exact no (fun ⟨zs', e, h⟩ => by cases ints_inj (Option.some.inj e); exact c0 h.2.1) _ sa2
      rw [if_neg (show ¬ (if true = true then !decide (V.int (rowF zs 0) = V.int 0) else decide (V.int (rowF zs 0) = V.int 0)) = true by rw [if_pos rfl, decide_eq_true (congrArg V.int c0)]; decide)]
      walk_at "go"
      refine U.g_ix (Or.inr (SqT.of ha2)) (U.at_nat (show (ns.length : Int) = ((row'.length : Nat) : Int) by rw [lr]) (zat row'.length (Nat.le_refl _))) ?_
      walk_at "go"
      have lx2 := lx.same s2
      refine ⟨x, dx, _, rfl, lx2.hi, lad_no (by decide +kernel) (by decide +kernel) (by decide +kernel) la lp ls, ?_⟩
      walk_at "go"
      refine ⟨x, dx, la, lp, ls, row', pl, s, rfl, lx2, ok.up, lpl, by omega, z1, by omega, fun q2 H4 nq2 s4 hq2 => ?_⟩
      walk_at "go"
      obtain ⟨u, eu⟩ := F_one (c := cs (rowF row')) z1 (show row'.length = 0 ∨ s ≤ row'.length by rw [lr]; exact hc)
      refine U.g_ix (Or.inl (SqL.of hq2)) (U.at_nat (show (ns.length : Int) = ((row'.length : Nat) : Int) by rw [lr]) (show ((tab (cs (rowF row')) s row'.length).map oV)[row'.length]? = some (V.int u) by rw [List.getElem?_map, tab_at _ _ (Nat.le_refl _), eu]; rfl)) ?_
      walk_at "go"
      have sa4 := sa2.trans s4
      by_cases cn : rowF zs row'.length = u
      case neg =>
        rw [if_pos (show (if true = true then !decide (V.int (rowF zs row'.length) = V.int u) else decide (V.int (rowF zs row'.length) = V.int u)) = true by rw [if_pos rfl, decide_eq_false (fun z => cn (V.int.inj z))]; rfl)]
        walk_at "go"
        exact no (fun ⟨zs', e, h⟩ => by cases ints_inj (Option.some.inj e); exact cn (Option.some.inj (h.2.2.1.trans eu))) _ sa4
      rw [if_neg (show ¬ (if true = true then !decide (V.int (rowF zs row'.length) = V.int u) else decide (V.int (rowF zs row'.length) = V.int u)) = true by rw [if_pos rfl, decide_eq_true (congrArg V.int cn)]; decide)]
      walk_at "go"
      have ha4 := s4 _ _ ha2
      have lx4 := lx2.same s4
      refine e_rng (by omega) (by omega) ?_
      rw [show ((ns.length : Int)).toNat = row'.length by omega]
      refine forI_by walk_range (fun i σ' H' => ∃ (v5 v6 v7 : Option V), σ' = [some (.ref b), some (.int (s : Int)), some (.ref a), some (.ref x), some (.int (ns.length : Int)), v5, v6, v7] ∧ Same H4 H' ∧ ∀ b' e : Nat, b' < i → b' + s ≤ e → e ≤ row'.length → rowF zs e - rowF zs b' ≤ cs (rowF row') b' e) ⟨none, none, none, rfl, Same.refl _, fun _ _ h => absurd h (Nat.not_lt_zero _)⟩ (fun _ _ _ _ _ => trivial) ?ts ?td
      case td =>
        rintro σ' H' ⟨v5, v6, v7, rfl, s', hall⟩
        walk_at "go"
        refine kk true H' (sa4.trans s') ⟨fun _ => ⟨zs, rfl, lz, c0, by rw [cn, eu], fun b' e h1 h2 h3 => hall b' e h1 h2 h3⟩, fun _ => rfl⟩
      case ts =>
        rintro i y σ' _ H' hi ⟨v5, v6, v7, rfl, s', hall⟩ ⟨rfl, rfl⟩
        walk_at "go"
        refine e_rng2 (by omega) ?_
        refine forI_by walk_range (fun j σ2 H2 => ∃ (v6 v7 : Option V), σ2 = [some (.ref b), some (.int (s : Int)), some (.ref a), some (.ref x), some (.int (ns.length : Int)), some (.int (0 + (i : Int))), v6, v7] ∧ Same H' H2 ∧ ∀ e : Nat, i + s ≤ e → e < i + s + j → rowF zs e - rowF zs i ≤ cs (rowF row') i e) ⟨_, _, rfl, Same.refl _, fun _ h1 h2 => absurd h2 (by omega)⟩ (fun _ _ _ _ _ => trivial) ?us ?ud
        case ud =>
          rintro σ2 H2 ⟨v6', v7', rfl, s2', hin⟩
          walk_at "go"
          refine ⟨_, _, _, rfl, s'.trans s2', fun b' e h1 h2 h3 => ?_⟩
          by_cases cb : b' = i
          · subst cb
            exact hin e h2 (by omega)
          · exact hall b' e (by omega) h2 h3
        case us =>
          rintro j y σ2 _ H2 hj ⟨v6', v7', rfl, s2', hin⟩ ⟨rfl, rfl⟩
          have he : i + s + j ≤ row'.length := by omega
          have hs2 := s'.trans s2'
          walk_at "go"
          refine U.g_ix (Or.inr (SqT.of (hs2 _ _ ha4))) (U.at_nat (show (0 + (i : Int) + (s : Int) + (j : Int)) = ((i + s + j : Nat) : Int) by omega) (zat (i + s + j) he)) ?_
          walk_at "go"
          refine U.g_ix (Or.inr (SqT.of (hs2 _ _ ha4))) (U.at_nat (show (0 + (i : Int)) = ((i : Nat) : Int) by omega) (zat i (by omega))) ?_
          walk_at "go"
          have lx5 := lx4.same hs2
          refine ⟨x, dx, _, rfl, lx5.hi, lad_no (by decide +kernel) (by decide +kernel) (by decide +kernel) la lp ls, ?_⟩
          walk_at "go"
          rw [show (0 + (i : Int) + (s : Int) + (j : Int)) = ((i + s + j : Nat) : Int) by omega, show (0 + (i : Int)) = ((i : Nat) : Int) by omega]
          refine ⟨x, dx, la, lp, ls, row', pl, i, i + s + j, rfl, lx5, ok.up, by omega, he, by omega, ?_⟩
          walk_at "go"
          by_cases cc : cs (rowF row') i (i + s + j) < rowF zs (i + s + j) - rowF zs i
          · rw [if_pos (decide_eq_true cc)]
            walk_at "go"
            exact no (fun ⟨zs', e, h⟩ => by cases ints_inj (Option.some.inj e); have := h.2.2.2 i (i + s + j) hi (by omega) he; omega) _ (sa4.trans hs2)
          · rw [if_neg (show ¬ decide (cs (rowF row') i (i + s + j) < rowF zs (i + s + j) - rowF zs i) = true by rw [decide_eq_true_eq]; exact cc)]
            walk_at "go"
            refine ⟨_, _, rfl, s2', fun e h1 h2 => ?_⟩
            by_cases ce : e = i + s + j
            · subst ce
              omega
            · exact hin e h1 (by omega)
end
end Toy

namespace Toy
open PySem PySem.Spec L2 U M LM G QD KW LM8
section
variable {P : Program} {w : World} {K : PySem.W.Frag} {mg : Str → Option Value} {base : Heap}
theorem sc__law_is_int : FnScope ["thing"] ["thing"] (defScope s__law_is_int) := ⟨rfl, rfl, rfl, by decide +kernel, rfl, by decide +kernel, by decide +kernel⟩
def sp_lint (K : PySem.W.Frag) : Sp := fun vs H Q _ => ∃ (x : V), vs = [x] ∧ plainV x = true ∧ Q (.bl (isIB x)) H
theorem ok__law_is_int (T : Tx K mg) : FnOk P w K mg base CX0 1 T.a__law_is_int T.fd__law_is_int ["thing"] (sp_lint K) := by
  refine T.F__law_is_int.ok sc__law_is_int (fun vs H Q E h => ?_) (fun cdv A outer s H vs Q E hr h => ?_)
  · obtain ⟨x, rfl, _⟩ := h
    rfl
  · obtain ⟨x, rfl, px, kk⟩ := h
    have hu := hu_of hr
    have hu64 := hr.units
    refine ⟨_, (pss_one (ps_ret (pe_and (pe_callB (call_uIsi (K := K) rfl) (by rfl) T.n_isinstance (by decide +kernel) (pa_cons (pv 0) (pa_cons (u_ty (n := "int") (by rfl) T.n_int (by decide +kernel)) pa_nil))) (pe_one (pe_not (pe_callB (call_uIsi (K := K) rfl) (by rfl) T.n_isinstance (by decide +kernel) (pa_cons (pv 0) (pa_cons (u_ty (n := "bool") (by rfl) T.n_bool (by decide +kernel)) pa_nil)))))))), ?_⟩
    walk_at "st"
    walk_at "go"
    have tail : ∀ (t : String) (b1 b2 : Bool), TyX K H x (.type t) → kitB t "int" = some b1 → kitB t "bool" = some b2 → isIB x = (b1 && !b2) → rIsi K [x, V.ty "int"] H fun x_1 H1 =>
        ∃ c, x_1 = V.bl c ∧ if c = true then tNotV (tCB (rIsi K) (tCons (tVar 0) (tCons (tC (V.ty "bool")) tNil))) [some x] H1 Q else Q (V.bl false) H1 := fun t b1 b2 ht h1 h2 e => by
      refine e_isi (b := b1) ht h1 ⟨b1, rfl, ?_⟩
      cases b1 with
      | false => rw [e] at kk; exact kk
      | true =>
        rw [if_pos rfl]
        walk_at "go"
        refine e_isi (b := b2) ht h2 ?_
        walk_at "go"
        rw [e] at kk
        exact kk
    cases x with
    | int z => exact tail "int" true false ty_int (by decide +kernel) (by decide +kernel) rfl
    | bl z => exact tail "bool" true true ty_bl (by decide +kernel) (by decide +kernel) rfl
    | non => exact tail "NoneType" false false ty_non (by decide +kernel) (by decide +kernel) rfl
    | str z => exact tail "str" false false ty_str (by decide +kernel) (by decide +kernel) rfl
    | _ => cases px
theorem sc__law_may : FnScope ["values", "least", "value", "row", "begin", "end", "one"] ["values", "least", "value"] (defScope s__law_may) := ⟨rfl, rfl, rfl, by decide +kernel, rfl, by decide +kernel, by decide +kernel⟩
def sp_lmay (K : PySem.W.Frag) : Sp := fun vs H Q _ => ∃ (b : Addr) (ns row : List Int) (s : Nat) (v : V) (o : Option (List V)), vs = [.ref b, .int s, v] ∧ H b = some (.tup (ns.map V.int)) ∧ ns.length ≤ 200 ∧ Row ns row ∧ 1 ≤ s ∧ s ≤ 200 ∧ (ns.length = 0 ∨ s ≤ ns.length) ∧ HvAt K H v o ∧ ∀ (c : Bool) (H' : Hp), Same H H' → (c = true ↔ HtP row s o) → Q (.bl c) H'
theorem ok__law_may (T : Tx K mg) : FnOk P w K mg base CX0 4 T.a__law_may T.fd__law_may ["values", "least", "value"] (sp_lmay K) := by
  refine T.F__law_may.ok sc__law_may (fun vs H Q E h => ?_) (fun cdv A outer s H vs Q E hr h => ?_)
  · obtain ⟨b, ns, row, s, v, o, rfl, _⟩ := h
    rfl
  · obtain ⟨b, ns, row, s, v, o, rfl, hb, hl, R, z1, z2, hc, ho, kk⟩ := h
    have hu := hu_of hr
    have hu64 := hr.units
    refine ⟨_, (pss_cons (ps_set (i := 3) sc__law_may.nd rfl (Or.inl rfl) (pe_callB (ST.cr_sortLT (K := K) rfl) (by rfl) T.n_sorted (by decide +kernel) (pa_cons (pv 0) pa_nil)))
        (pss_cons (ps_if (PW.pt (pw_or (pt_not (pt_val (pe_callB (call_uIsi (K := K) rfl) (by rfl) T.n_isinstance (by decide +kernel) (pa_cons (pv 2) (pa_cons (u_ty (n := "tuple") (by rfl) T.n_tuple (by decide +kernel)) pa_nil))))) (pw_or (pt_cmpR (op_uNe (K := K) rfl hu64) (pe_callB (call_uLen (K := K) rfl) (by rfl) T.n_len (by decide +kernel) (pa_cons (pv 2) pa_nil)) (pe_op (op_uAdd (K := K) rfl) (pe_callB (call_uLen (K := K) rfl) (by rfl) T.n_len (by decide +kernel) (pa_cons (pv 3) pa_nil)) (pe_int)) (nomark _)) (pw_or1 (pt_not (pt_val (pe_callB (call_uAll (K := K) rfl rfl) (by rfl) T.n_all (by decide +kernel) (pa_cons (pe_lc rfl sc__law_may.nd (u_tup (K := K) rfl (pv 2)) (blkOk_by (own := [("one", 6)]) (N := ["values", "least", "value", "row", "begin", "end", "one"]) (sc := defScope s__law_may) (by decide +kernel)) (fun _ _ _ _ _ => (pg_name (i := 6) sc__law_may.nd rfl (Or.inl rfl))) (fun _ _ _ _ _ => pts_nil) (fun _ _ _ _ _ => (pe_call (ok__law_is_int T) (hr.mono (by decide)) rfl T.m__law_is_int T.F__law_is_int.kp (b__law_is_int T) .nil pass0 (pa_cons (pv 6) pa_nil)))) pa_nil)))))))) (pss_one (ps_ret (pe_bl))) pss_nil)
        (pss_cons (ps_if (PW.pt (pw_or (pt_cmpR (op_uNe (K := K) rfl hu64) (pe_ix (ix_u (K := K) rfl) (pv 2) (pe_int) (fun _ _ => rfl)) (pe_int) (nomark _)) (pw_or1 (pt_cmpR (op_uNe (K := K) rfl hu64) (pe_ix (ix_u (K := K) rfl) (pv 2) (pe_un op_uNeg (pe_int)) (fun _ _ => rfl)) (pe_call (ok__law_least T) (hr.mono (by decide)) rfl T.m__law_least T.F__law_least.kp (b__law_least T) .nil pass0 (pa_cons (pv 0) (pa_cons (pv 1) pa_nil))) (nomark _))))) (pss_one (ps_ret (pe_bl))) pss_nil)
        (pss_cons (ps_for PassesOwn.never rfl (pi_range1 (by rfl) T.n_range (pa_cons (pe_callB (call_uLen (K := K) rfl) (by rfl) T.n_len (by decide +kernel) (pa_cons (pv 3) pa_nil)) pa_nil)) (pg_name (i := 4) sc__law_may.nd rfl (Or.inl rfl)) (pss_one (ps_for PassesOwn.never rfl (pi_range2 (by rfl) T.n_range (pa_cons (pe_op (op_uAdd (K := K) rfl) (pv 4) (pv 1)) (pa_cons (pe_op (op_uAdd (K := K) rfl) (pe_callB (call_uLen (K := K) rfl) (by rfl) T.n_len (by decide +kernel) (pa_cons (pv 3) pa_nil)) (pe_int)) pa_nil))) (pg_name (i := 5) sc__law_may.nd rfl (Or.inl rfl)) (pss_one (ps_if (pt_cmpR op_uGt (pe_op op_uSub (pe_ix (ix_u (K := K) rfl) (pv 2) (pv 5) (fun _ _ => rfl)) (pe_ix (ix_u (K := K) rfl) (pv 2) (pv 4) (fun _ _ => rfl))) (pe_call (ok__law_crowd_cost T) (hr.mono (by decide)) rfl T.m__law_crowd_cost T.F__law_crowd_cost.kp (b__law_crowd_cost T) .nil pass0 (pa_cons (pe_slice (sl_u (K := K) rfl) (pv 3) (po_some (pv 4)) (po_some (pv 5))) pa_nil)) (nomark _)) (pss_one (ps_ret (pe_bl))) pss_nil)))))
        (pss_one (ps_ret (pe_bl))))))), ?_⟩
    walk_at "st"
    walk_at "go"
    refine ST.g_sortLT (Or.inr (SqT.of hb)) fun ns' l p1 p2 nl => ?_
    cases R.uniq ⟨p1, p2⟩
    have rl := R.len
    have sl := U.same_new (o := .lst (row.map V.int)) nl
    have hl1 : upd H l (.lst (row.map V.int)) l = some (.lst (row.map V.int)) := upd_same
    generalize upd H l (.lst (row.map V.int)) = H1 at sl hl1 ⊢
    walk_at "go"
    have no : ¬ HtP row s o → ∀ H', Same H H' → Q (.bl false) H' := fun h H' s' => kk false H' s' ⟨fun z => (by cases z), fun z => absurd z h⟩
    cases o with
    | none =>
      obtain ⟨t, t1, t2, t3⟩ := ho
      refine e_isi (b := false) (t3 _ sl) t2 ⟨_, rfl, ?_⟩
      walk_at "go"
      exact no (fun ⟨zs, e, _⟩ => by cases e) _ sl
    | some xs =>
      obtain ⟨a, rfl, ha, px, xl⟩ := ho
      have ha1 := sl _ _ ha
      refine e_isi (b := true) (ty_tup ha1) (by decide +kernel) ⟨_, rfl, ?_⟩
      rw [if_neg (show ¬ (!true) = true by decide)]
      walk_at "go"
      refine U.g_lenL (Or.inr (SqT.of ha1)) ?_
      walk_at "go"
      refine U.g_lenL (Or.inl (SqL.of hl1)) ?_
      rw [List.length_map]
      walk_at "go"
      by_cases cl : xs.length = row.length + 1
      case neg =>
        rw [if_pos (show (if true = true then !decide (V.int (xs.length : Int) = V.int ((row.length : Int) + 1)) else decide (V.int (xs.length : Int) = V.int ((row.length : Int) + 1))) = true by rw [if_pos rfl, decide_eq_false (fun z => cl (by have := V.int.inj z; omega))]; rfl)]
        walk_at "go"
        exact no (fun ⟨zs, e, h⟩ => cl (by cases e; rw [List.length_map, h.1])) _ sl
      rw [if_neg (show ¬ (if true = true then !decide (V.int (xs.length : Int) = V.int ((row.length : Int) + 1)) else decide (V.int (xs.length : Int) = V.int ((row.length : Int) + 1))) = true by rw [if_pos rfl, decide_eq_true (congrArg V.int (show (xs.length : Int) = (row.length : Int) + 1 by omega))]; decide)]
      walk_at "go"
      refine e_tup (SqT.of ha1) ?_
      refine lcI_tup (fun H' s' => SqT.of (s' _ _ ha1)) (by omega) (fun v => some (.bl (isIB v))) (fun x H' A B hx s' kA kB => ?t3) fun L1 H2 nL1 s2 hL1 => ?c3
      case t3 =>
        walk_at "go"
        refine ⟨rfl, ?_⟩
        walk_at "go"
        exact ⟨x, rfl, List.all_eq_true.mp px x hx, kA _ _ rfl (Same.refl _)⟩
      rw [show xs.filterMap (fun v => some (V.bl (isIB v))) = (xs.map isIB).map V.bl by rw [LM.fm_some, List.map_map]; rfl] at hL1
      walk_at "go"
      refine U.g_allB (SqL.of hL1) ?_
      rw [show (xs.map isIB).all id = xs.all isIB by rw [List.all_map]; rfl]
      have sa2 := sl.trans s2
      by_cases ci : xs.all isIB = true
      case neg =>
        rw [Bool.not_eq_true] at ci
        rw [ci]
        refine ⟨_, rfl, ?_⟩
        walk_at "go"
        exact no (fun ⟨zs, e, h⟩ => by cases e; rw [ints_isI] at ci; cases ci) _ sa2
      rw [ci]
      obtain ⟨zs, rfl⟩ := isI_ints ci
      rw [List.length_map] at cl
      have lz : zs.length = row.length + 1 := cl
      have zat : ∀ i : Nat, i ≤ row.length → (zs.map V.int)[i]? = some (V.int (rowF zs i)) := fun i hi => by
        rw [List.getElem?_map, rowF_at (by omega)]; rfl
      have zend : ∃ ys, zs.map V.int = ys ++ [V.int (rowF zs row.length)] := by
        have e := snoc_ex zs row.length (by omega)
        rw [List.take_of_length_le (by omega)] at e
        refine ⟨(zs.take row.length).map V.int, ?_⟩
        have e2 : rowF zs row.length = zs[row.length] := by unfold rowF; rw [List.getElem?_eq_getElem (by omega)]; rfl
        rw [e2]
        conv => lhs; rw [e]
        rw [List.map_append]; rfl
      refine ⟨_, rfl, ?_⟩
      rw [if_neg (show ¬ (!true) = true by decide)]
      walk_at "go"
      have ha2 := s2 _ _ ha1
      refine U.g_ix (Or.inr (SqT.of ha2)) (U.at_nat (show (0 : Int) = ((0 : Nat) : Int) from rfl) (zat 0 (by omega))) ?_
      walk_at "go"
      by_cases c0 : rowF zs 0 = 0
      case neg =>
        rw [if_pos (show (if true = true then !decide (V.int (rowF zs 0) = V.int 0) else decide (V.int (rowF zs 0) = V.int 0)) = true by rw [if_pos rfl, decide_eq_false (fun z => c0 (V.int.inj z))]; rfl)]
        walk_at "go"
        exact no (fun ⟨zs', e, h⟩ => by cases ints_inj (Option.some.inj e); exact c0 h.2.1) _ sa2
      rw [if_neg (show ¬ (if true = true then !decide (V.int (rowF zs 0) = V.int 0) else decide (V.int (rowF zs 0) = V.int 0)) = true by rw [if_pos rfl, decide_eq_true (congrArg V.int c0)]; decide)]
      walk_at "go"
      obtain ⟨ys, ey⟩ := zend
      refine U.g_ix (Or.inr (SqT.of ha2)) (at_end ey) ?_
      walk_at "go"
      refine ⟨b, ns, row, s, rfl, Or.inr (SqT.of (sa2 _ _ hb)), by omega, R, z1, by omega, fun H4 s4 => ?_⟩
      obtain ⟨u, eu⟩ := F_one (c := cs (rowF row)) z1 (show row.length = 0 ∨ s ≤ row.length by rw [rl]; exact hc)
      rw [eu, show oV (some u) = V.int u from rfl]
      walk_at "go"
      have sa4 := sa2.trans s4
      by_cases cn : rowF zs row.length = u
      case neg =>
        rw [if_pos (show (if true = true then !decide (V.int (rowF zs row.length) = V.int u) else decide (V.int (rowF zs row.length) = V.int u)) = true by rw [if_pos rfl, decide_eq_false (fun z => cn (V.int.inj z))]; rfl)]
        walk_at "go"
        exact no (fun ⟨zs', e, h⟩ => by cases ints_inj (Option.some.inj e); exact cn (Option.some.inj (h.2.2.1.trans eu))) _ sa4
      rw [if_neg (show ¬ (if true = true then !decide (V.int (rowF zs row.length) = V.int u) else decide (V.int (rowF zs row.length) = V.int u)) = true by rw [if_pos rfl, decide_eq_true (congrArg V.int cn)]; decide)]
      walk_at "go"
      have ha4 := s4 _ _ ha2
      have hl4 := s4 _ _ (s2 _ _ hl1)
      refine U.g_lenL (Or.inl (SqL.of hl4)) ?_
      rw [List.length_map]
      walk_at "go"
      refine e_rng (by omega) (by omega) ?_
      rw [show ((row.length : Int)).toNat = row.length by omega]
      refine forI_by walk_range (fun i σ' H' => ∃ (v4 v5 v6 : Option V), σ' = [some (.ref b), some (.int (s : Int)), some (.ref a), some (.ref l), v4, v5, v6] ∧ Same H4 H' ∧ ∀ b' e : Nat, b' < i → b' + s ≤ e → e ≤ row.length → rowF zs e - rowF zs b' ≤ cs (rowF row) b' e) ⟨none, none, none, rfl, Same.refl _, fun _ _ h => absurd h (Nat.not_lt_zero _)⟩ (fun _ _ _ _ _ => trivial) ?ts ?td
      case td =>
        rintro σ' H' ⟨v4, v5, v6, rfl, s', hall⟩
        walk_at "go"
        refine kk true H' (sa4.trans s') ⟨fun _ => ⟨zs, rfl, lz, c0, by rw [cn, eu], fun b' e h1 h2 h3 => hall b' e h1 h2 h3⟩, fun _ => rfl⟩
      case ts =>
        rintro i y σ' _ H' hi ⟨v4, v5, v6, rfl, s', hall⟩ ⟨rfl, rfl⟩
        walk_at "go"
        refine U.g_lenL (Or.inl (SqL.of (s' _ _ hl4))) ?_
        rw [List.length_map]
        walk_at "go"
        refine e_rng2 (by omega) ?_
        refine forI_by walk_range (fun j σ2 H2 => ∃ (v5 v6 : Option V), σ2 = [some (.ref b), some (.int (s : Int)), some (.ref a), some (.ref l), some (.int (0 + (i : Int))), v5, v6] ∧ Same H' H2 ∧ ∀ e : Nat, i + s ≤ e → e < i + s + j → rowF zs e - rowF zs i ≤ cs (rowF row) i e) ⟨_, _, rfl, Same.refl _, fun _ h1 h2 => absurd h2 (by omega)⟩ (fun _ _ _ _ _ => trivial) ?us ?ud
        case ud =>
          rintro σ2 H2 ⟨v5', v6', rfl, s2', hin⟩
          walk_at "go"
          refine ⟨_, _, _, rfl, s'.trans s2', fun b' e h1 h2 h3 => ?_⟩
          by_cases cb : b' = i
          · subst cb
            exact hin e h2 (by omega)
          · exact hall b' e (by omega) h2 h3
        case us =>
          rintro j y σ2 _ H2 hj ⟨v5', v6', rfl, s2', hin⟩ ⟨rfl, rfl⟩
          have he : i + s + j ≤ row.length := by omega
          have hs2 := s'.trans s2'
          walk_at "go"
          refine U.g_ix (Or.inr (SqT.of (hs2 _ _ ha4))) (U.at_nat (show (0 + (i : Int) + (s : Int) + (j : Int)) = ((i + s + j : Nat) : Int) by omega) (zat (i + s + j) he)) ?_
          walk_at "go"
          refine U.g_ix (Or.inr (SqT.of (hs2 _ _ ha4))) (U.at_nat (show (0 + (i : Int)) = ((i : Nat) : Int) by omega) (zat i (by omega))) ?_
          walk_at "go"
          refine U.g_slL (SqL.of (hs2 _ _ hl4)) fun c nc => ?_
          rw [show (0 + (i : Int) + (s : Int) + (j : Int)) = ((i + s + j : Nat) : Int) by omega, show (0 + (i : Int)) = ((i : Nat) : Int) by omega, cut_mid (by rw [List.length_map]; omega) (by omega), ← List.map_drop, ← List.map_take]
          have sc := U.same_new (o := .lst (((row.drop i).take (i + s + j - i)).map V.int)) nc
          have pl : ((row.drop i).take (i + s + j - i)).length = i + s + j - i := by rw [List.length_take, List.length_drop]; omega
          walk_at "go"
          refine ⟨c, _, _, rfl, Or.inl (SqL.of upd_same), by omega, by omega, part_row R.up i (i + s + j - i), fun H3 s3 => ?_⟩
          rw [pl, cs_part (by omega) (by omega)]
          have s23 := (s2'.trans sc).trans s3
          walk_at "go"
          by_cases cc : cs (rowF row) i (i + s + j) < rowF zs (i + s + j) - rowF zs i
          · rw [if_pos (decide_eq_true cc)]
            walk_at "go"
            exact no (fun ⟨zs', e, h⟩ => by cases ints_inj (Option.some.inj e); have := h.2.2.2 i (i + s + j) hi (by omega) he; omega) _ (sa4.trans (s'.trans s23))
          · rw [if_neg (show ¬ decide (cs (rowF row) i (i + s + j) < rowF zs (i + s + j) - rowF zs i) = true by rw [decide_eq_true_eq]; exact cc)]
            walk_at "go"
            refine ⟨_, _, rfl, s23, fun e h1 h2 => ?_⟩
            by_cases ce : e = i + s + j
            · subst ce
              omega
            · exact hin e h1 (by omega)
end
end Toy

namespace LM8
open PySem L2 U M LM
theorem eqv_nilT (ds : List PyData) : PyData.eqv (.tuple ds) (.tuple []) = decide (ds.length = 0) := by
  cases ds <;> rfl
/-- a tuple of data != () -/
theorem g_neNilT {K : PySem.W.Frag} {H : Hp} {Q : VK} {l e : Addr} {vs : List V} {ds : List PyData} (hl : H l = some (.tup vs)) (hd : DpAll K H vs ds) (sh : SeqAt.shaped (.tuple ds) = true) (he : H e = some (.tup [])) (q : Q (.bl (!decide (ds.length = 0))) H) : uEq K true (.ref l) (.ref e) H Q :=
  Or.inr ⟨.tuple ds, .tuple [], Dp.tup (SqT.of hl) hd, Dp.tup (SqT.of he) .nil, sh, rfl, by rw [eqv_nilT, if_pos rfl]; exact q⟩
theorem ints_shT (ns : List Int) : SeqAt.shaped (.tuple (ns.map PyData.int)) = true := by
  unfold SeqAt.shaped
  rw [Bool.and_eq_true]
  refine ⟨lay_all fun d hd => ?_, decide_eq_true ?_⟩
  · obtain ⟨p, hp, rfl⟩ := List.mem_map.mp hd
    rfl
  · have : PyData.depthAll (ns.map PyData.int) ≤ 0 := depth_all fun d hd => by
      obtain ⟨p, hp, rfl⟩ := List.mem_map.mp hd
      exact Nat.le_refl _
    simp only [PyData.depth]
    omega
theorem g_slTT {K : PySem.W.Frag} {H : Hp} {Q : VK} {a : Addr} {xs : List V} {lo hi : Option Int} (h : H a = some (.tup xs)) (q : ∀ (c : Addr) (H' : Hp), Same H H' → H' c = some (.tup (cutV xs lo hi)) → (c = a ∨ H c = none) → Q (.ref c) H') : uSlA K (.ref a) lo hi H Q := by
  refine Or.inr ⟨a, xs, rfl, SqT.of h, fun hw => ?_, fun _ p np => q p _ (U.same_new np) upd_same (Or.inr np)⟩
  have e : cutV xs lo hi = xs := by
    unfold cutV
    rw [hw.1, hw.2, List.drop_zero, Nat.sub_zero, List.take_of_length_le (Nat.le_refl _)]
  exact q a H (Same.refl _) (by rw [e]; exact h) (Or.inl rfl)
theorem g_addTT {K : PySem.W.Frag} {H : Hp} {Q : VK} {a b : Addr} {xs ys : List V} (h : H a = some (.tup xs)) (h2 : H b = some (.tup ys)) (hz : xs.length + ys.length ≤ sizeLine) (q : ∀ (c : Addr) (H' : Hp), Same H H' → H' c = some (.tup (xs ++ ys)) → (c = a ∨ c = b ∨ H c = none) → Q (.ref c) H') : uAddA K (.ref a) (.ref b) H Q := by
  refine Or.inr ⟨a, b, xs, ys, rfl, rfl, SqT.of h, SqT.of h2, hz, fun e => ?_, fun _ e => ?_, fun _ _ p np => q p _ (U.same_new np) upd_same (Or.inr (Or.inr np))⟩
  · exact q b H (Same.refl _) (by rw [e]; exact h2) (Or.inr (Or.inl rfl))
  · exact q a H (Same.refl _) (by rw [e, List.append_nil]; exact h) (Or.inl rfl)
theorem plain_ints (ms : List Int) : (ms.map V.int).all plainV = true := List.all_eq_true.mpr fun v hv => by
  obtain ⟨z, _, rfl⟩ := List.mem_map.mp hv
  rfl
theorem sb_put {l : Addr} {H : Hp} {o : HO} : SB l H (upd H l o) := fun b x e nb => by rw [upd_ne nb]; exact e
theorem plain_cut {xs : List V} {lo hi : Option Int} (h : xs.all plainV = true) : (cutV xs lo hi).all plainV = true := by
  rw [List.all_eq_true] at h ⊢
  intro v hv
  unfold cutV at hv
  exact h v (List.mem_of_mem_drop (List.mem_of_mem_take hv))
theorem len_cut (xs : List V) (lo hi : Option Int) : (cutV xs lo hi).length ≤ xs.length := by
  unfold cutV
  rw [List.length_take, List.length_drop]
  omega
/-- an entry of the list a: something plain, a list, a tuple of plain things -/
def HvN (a5 : Addr) (H : Hp) (v : V) : Prop := v = .non ∨ (∃ i, v = .int i) ∨ (∃ x, v = .str x) ∨ (∃ a xs, v = .ref a ∧ a ≠ a5 ∧ H a = some (.lst xs)) ∨ ∃ a xs, v = .ref a ∧ a ≠ a5 ∧ H a = some (.tup xs) ∧ xs.all plainV = true ∧ xs.length ≤ 300
theorem HvN.mono {a5 : Addr} {H H' : Hp} (s : SB a5 H H') {v : V} (h : HvN a5 H v) : HvN a5 H' v := by
  rcases h with h | h | h | ⟨a, xs, e, n, h⟩ | ⟨a, xs, e, n, h, p, l⟩
  · exact .inl h
  · exact .inr (.inl h)
  · exact .inr (.inr (.inl h))
  · exact .inr (.inr (.inr (.inl ⟨a, xs, e, n, s _ _ h n⟩)))
  · exact .inr (.inr (.inr (.inr ⟨a, xs, e, n, s _ _ h n, p, l⟩)))
end LM8
namespace Toy
open PySem PySem.Spec L2 U M LM G QD KW LM8
section
variable {P : Program} {w : World} {K : PySem.W.Frag} {mg : Str → Option Value} {base : Heap}
theorem HvN.at {K : PySem.W.Frag} {a5 : Addr} {H : Hp} {v : V} (h : HvN a5 H v) : ∃ o, HvAt K H v o := by
  rcases h with rfl | ⟨i, rfl⟩ | ⟨x, rfl⟩ | ⟨a, xs, rfl, n, h⟩ | ⟨a, xs, rfl, n, h, p, l⟩
  · exact ⟨none, "NoneType", ty_non, by decide +kernel, fun _ _ => ty_non⟩
  · exact ⟨none, "int", ty_int, by decide +kernel, fun _ _ => ty_int⟩
  · exact ⟨none, "str", ty_str, by decide +kernel, fun _ _ => ty_str⟩
  · exact ⟨none, "list", .base (.lst h), by decide +kernel, fun H' s => .base (.lst (s _ _ h))⟩
  · exact ⟨some xs, a, rfl, h, p, l⟩
theorem sc__law_near : FnScope ["pot", "told", "found", "at", "more", "one"] ["pot", "told"] (defScope s__law_near) := ⟨rfl, rfl, rfl, by decide +kernel, rfl, by decide +kernel, by decide +kernel⟩
def sp_near23 : Sp := fun vs H Q _ => ∃ (p t : Addr) (zs : List Int) (n : Nat), vs = [.ref p, .ref t] ∧ H t = some (.tup (zs.map V.int)) ∧ 0 < zs.length ∧ zs.length ≤ 120 ∧ PotAt H p (n + 2) ∧ ∀ (l : Addr) (ws : List V) (H' : Hp), H l = none → H' l = some (.lst ws) → ws.length ≤ 100 → (∀ v ∈ ws, HvN l H' v) → PotAt H' p n → SB p H H' → Q (.ref l) H'
theorem ok__law_near (T : Tx K mg) : FnOk P w K mg base CX0 3 T.a__law_near T.fd__law_near ["pot", "told"] sp_near23 := by
  refine T.F__law_near.ok sc__law_near (fun vs H Q E h => ?_) (fun cdv A outer s H vs Q E hr h => ?_)
  · obtain ⟨p, t, zs, n, rfl, _⟩ := h
    rfl
  · obtain ⟨p, t, zs, n, rfl, ht, l0, l1, hp, kk⟩ := h
    have hu := hu_of hr
    have hu64 := hr.units
    refine ⟨_, (pss_cons (ps_set (i := 2) sc__law_near.nd rfl (Or.inl rfl) (pe_lst (pa_cons (pv 1) (pa_cons (pe_non) (pa_cons (pe_tup pa_nil) (pa_cons (pe_int) (pa_cons (pe_tup (pa_cons (pe_int) pa_nil)) (pa_cons (pe_tup (pa_cons (pe_bl) pa_nil)) (pa_cons (pe_str) pa_nil)))))))))
        (pss_cons (ps_if (PW.pt (pw_and (pt_val (pe_callB (call_uIsi (K := K) rfl) (by rfl) T.n_isinstance (by decide +kernel) (pa_cons (pv 1) (pa_cons (u_ty (n := "tuple") (by rfl) T.n_tuple (by decide +kernel)) pa_nil)))) (pw_and (pt_cmpR (op_uNe (K := K) rfl hu64) (pv 1) (pe_tup pa_nil) (nomark _)) (pw_and1 (pt_val (pe_callB (call_uAll (K := K) rfl rfl) (by rfl) T.n_all (by decide +kernel) (pa_cons (pe_lc rfl sc__law_near.nd (u_tup (K := K) rfl (pv 1)) (blkOk_by (own := [("one", 5)]) (N := ["pot", "told", "found", "at", "more", "one"]) (sc := defScope s__law_near) (by decide +kernel)) (fun _ _ _ _ _ => (pg_name (i := 5) sc__law_near.nd rfl (Or.inl rfl))) (fun _ _ _ _ _ => pts_nil) (fun _ _ _ _ _ => (pe_call (ok__law_is_int T) (hr.mono (by decide)) rfl T.m__law_is_int T.F__law_is_int.kp (b__law_is_int T) .nil pass0 (pa_cons (pv 5) pa_nil)))) pa_nil))))))) (pss_cons (ps_par rfl sc__law_near.nd (i := 3) (j := 4) rfl rfl (by decide) rfl rfl (pa_cons (pe_call (ok__law_take T) (hr.mono (by decide)) rfl T.m__law_take T.F__law_take.kp (b__law_take T) .nil pass0 (pa_cons (pv 0) (pa_cons (pe_callB (call_uLen (K := K) rfl) (by rfl) T.n_len (by decide +kernel) (pa_cons (pv 1) pa_nil)) pa_nil))) (pa_cons (pe_callTy call_uInt (by rfl) T.n_int (by decide +kernel) (pa_cons (pe_call (ok__law_of T) (hr.mono (by decide)) rfl T.m__law_of T.F__law_of.kp (b__law_of T) .nil pass0 (pa_cons (pv 0) (pa_cons (pe_lst (pa_cons (pe_int) (pa_cons (pe_un op_uNeg (pe_int)) (pa_cons (pe_int) (pa_cons (pe_un op_uNeg (pe_int)) pa_nil))))) pa_nil))) pa_nil)) pa_nil)) (by rfl))
        (pss_cons (ps_expr (pe_bm PySem.F.plainAttrs_list PySem.F.slot_list_extend PySem.F.type_list_extend mt_extend (pv 2) (pa_cons (pe_lst (pa_cons (pe_op (U.op_uAddA (K := K) rfl) (pe_op (U.op_uAddA (K := K) rfl) (pe_slice (U.sl_uA (K := K) rfl) (pv 1) po_none (po_some (pv 3))) (pe_tup (pa_cons (pe_op (op_uAdd (K := K) rfl) (pe_ix (ix_u (K := K) rfl) (pv 1) (pv 3) (fun _ _ => rfl)) (pv 4)) pa_nil))) (pe_slice (U.sl_uA (K := K) rfl) (pv 1) (po_some (pe_op (op_uAdd (K := K) rfl) (pv 3) (pe_int))) po_none)) (pa_cons (pe_callTy (call_uList (K := K) rfl) (by rfl) T.n_list (by decide +kernel) (pa_cons (pv 1) pa_nil)) (pa_cons (pe_op (U.op_uAddA (K := K) rfl) (pv 1) (pe_tup (pa_cons (pe_ix (ix_u (K := K) rfl) (pv 1) (pe_un op_uNeg (pe_int)) (fun _ _ => rfl)) pa_nil))) (pa_cons (pe_slice (U.sl_uA (K := K) rfl) (pv 1) (po_some (pe_int)) po_none) pa_nil))))) pa_nil)))
        (pss_one (ps_expr (pe_bm PySem.F.plainAttrs_list PySem.F.slot_list_extend PySem.F.type_list_extend mt_extend (pv 2) (pa_cons (pe_lst (pa_cons (RV.pe_revT (K := K) rfl (pv 1)) (pa_cons (pe_callTy (call_uTuple (K := K) rfl) (by rfl) T.n_tuple (by decide +kernel) (pa_cons (pe_lc rfl sc__law_near.nd (u_tup (K := K) rfl (pv 1)) (blkOk_by (own := [("one", 5)]) (N := ["pot", "told", "found", "at", "more", "one"]) (sc := defScope s__law_near) (by decide +kernel)) (fun _ _ _ _ _ => (pg_name (i := 5) sc__law_near.nd rfl (Or.inl rfl))) (fun _ _ _ _ _ => pts_nil) (fun _ _ _ _ _ => (pe_int))) pa_nil)) (pa_cons (pe_callTy (call_uTuple (K := K) rfl) (by rfl) T.n_tuple (by decide +kernel) (pa_cons (pe_lc rfl sc__law_near.nd (u_tup (K := K) rfl (pv 1)) (blkOk_by (own := [("one", 5)]) (N := ["pot", "told", "found", "at", "more", "one"]) (sc := defScope s__law_near) (by decide +kernel)) (fun _ _ _ _ _ => (pg_name (i := 5) sc__law_near.nd rfl (Or.inl rfl))) (fun _ _ _ _ _ => pts_nil) (fun _ _ _ _ _ => (pe_op (op_uAdd (K := K) rfl) (pv 5) (pe_int)))) pa_nil)) (pa_cons (pe_op (U.op_uAddA (K := K) rfl) (pe_tup (pa_cons (pe_bl) pa_nil)) (pe_slice (U.sl_uA (K := K) rfl) (pv 1) (po_some (pe_int)) po_none)) pa_nil))))) pa_nil)))))) pss_nil)
        (pss_one (ps_ret (pv 2))))), ?_⟩
    have sH : SB p H H := SB.refl _ _
    have hpc := hp
    walk_at "st"
    walk_at "go"
    refine ⟨Nat.le_of_ble_eq_true rfl, fun a1 na1 => ?_⟩
    have p1 : a1 ≠ p := pot_ne hpc na1
    have h1 : H a1 = none := sb_free sH hpc na1
    generalize q1 : upd H a1 (.tup []) = N1
    have s1 : Same H N1 := q1 ▸ U.same_new na1
    have e1 : N1 a1 = some (.tup []) := q1 ▸ upd_same
    clear q1
    replace ht := s1 _ _ ht
    replace sH := sH.trans (SB.of s1)
    replace hpc := hpc.same s1
    walk_at "go"
    refine ⟨Nat.le_of_ble_eq_true rfl, fun a2 na2 => ?_⟩
    have p2 : a2 ≠ p := pot_ne hpc na2
    have h2 : H a2 = none := sb_free sH hpc na2
    generalize q2 : upd N1 a2 (.tup [.int 0]) = N2
    have s2 : Same N1 N2 := q2 ▸ U.same_new na2
    have e2 : N2 a2 = some (.tup [.int 0]) := q2 ▸ upd_same
    clear q2
    replace ht := s2 _ _ ht
    replace e1 := s2 _ _ e1
    replace sH := sH.trans (SB.of s2)
    replace hpc := hpc.same s2
    walk_at "go"
    refine ⟨Nat.le_of_ble_eq_true rfl, fun a3 na3 => ?_⟩
    have p3 : a3 ≠ p := pot_ne hpc na3
    have h3 : H a3 = none := sb_free sH hpc na3
    generalize q3 : upd N2 a3 (.tup [.bl true]) = N3
    have s3 : Same N2 N3 := q3 ▸ U.same_new na3
    have e3 : N3 a3 = some (.tup [.bl true]) := q3 ▸ upd_same
    clear q3
    replace ht := s3 _ _ ht
    replace e1 := s3 _ _ e1
    replace e2 := s3 _ _ e2
    replace sH := sH.trans (SB.of s3)
    replace hpc := hpc.same s3
    walk_at "go"
    refine ⟨Nat.le_of_ble_eq_true rfl, fun a4 na4 => ?_⟩
    have p4 : a4 ≠ p := pot_ne hpc na4
    have h4 : H a4 = none := sb_free sH hpc na4
    generalize q4 : upd N3 a4 (.lst [.ref t, .non, .ref a1, .int 0, .ref a2, .ref a3, .str "0"]) = N4
    have s4 : Same N3 N4 := q4 ▸ U.same_new na4
    have e4 : N4 a4 = some (.lst [.ref t, .non, .ref a1, .int 0, .ref a2, .ref a3, .str "0"]) := q4 ▸ upd_same
    clear q4
    replace ht := s4 _ _ ht
    replace e1 := s4 _ _ e1
    replace e2 := s4 _ _ e2
    replace e3 := s4 _ _ e3
    replace sH := sH.trans (SB.of s4)
    replace hpc := hpc.same s4
    walk_at "go"
    refine e_isi (b := true) (ty_tup ht) (by decide +kernel) ?_
    walk_at "go"
    refine ⟨Nat.le_of_ble_eq_true rfl, fun a5 na5 => ?_⟩
    have p5 : a5 ≠ p := pot_ne hpc na5
    have h5 : H a5 = none := sb_free sH hpc na5
    generalize q5 : upd N4 a5 (.tup []) = N5
    have s5 : Same N4 N5 := q5 ▸ U.same_new na5
    have e5 : N5 a5 = some (.tup []) := q5 ▸ upd_same
    clear q5
    replace ht := s5 _ _ ht
    replace e1 := s5 _ _ e1
    replace e2 := s5 _ _ e2
    replace e3 := s5 _ _ e3
    replace e4 := s5 _ _ e4
    replace sH := sH.trans (SB.of s5)
    replace hpc := hpc.same s5
    refine g_neNilT ht (ints_dp zs) (ints_shT zs) e5 ?_
    rw [show (!decide ((zs.map PyData.int).length = 0)) = true by rw [List.length_map, decide_eq_false (by omega)]; rfl]
    refine ⟨_, rfl, ?_⟩
    rw [if_pos (show true = true from rfl)]
    walk_at "go"
    refine e_tup (SqT.of ht) ?_
    refine lcI_tup (fun H' s' => SqT.of (s' _ _ ht)) (by rw [List.length_map]; omega) (fun v => some (.bl (isIB v))) (fun x H' A B hx s' kA kB => ?t3) fun L1 N6 nL1 s6 hL1 => ?c3
    case t3 =>
      walk_at "go"
      refine ⟨rfl, ?_⟩
      walk_at "go"
      exact ⟨x, rfl, List.all_eq_true.mp (plain_ints zs) x hx, kA _ _ rfl (Same.refl _)⟩
    have ea : (zs.map V.int).filterMap (fun v => some (V.bl (isIB v))) = (zs.map fun _ => true).map V.bl := by
      rw [LM.fm_some, List.map_map, List.map_map]
      exact List.map_congr_left fun _ _ => rfl
    rw [ea] at hL1
    walk_at "go"
    refine U.g_allB (SqL.of hL1) ?_
    rw [show (zs.map fun _ => true).all id = true by simp]
    walk_at "go"
    replace ht := s6 _ _ ht
    replace e1 := s6 _ _ e1
    replace e2 := s6 _ _ e2
    replace e3 := s6 _ _ e3
    replace e4 := s6 _ _ e4
    replace sH := sH.trans (SB.of s6)
    replace hpc := hpc.same s6
    refine U.g_lenL (Or.inr (SqT.of ht)) ?_
    rw [List.length_map]
    walk_at "go"
    refine ⟨p, (zs.length : Int), n + 1, rfl, by omega, by omega, hpc.le (by omega), fun r N7 r0 r1 hp7 s7 => ?_⟩
    have t7 := hpc.ts s7
    replace ht := t7 _ _ ht
    replace e1 := t7 _ _ e1
    replace e2 := t7 _ _ e2
    replace e3 := t7 _ _ e3
    replace e4 := s7 _ _ e4 p4
    replace sH := sH.trans s7
    clear hpc
    have hpc := hp7
    clear s7 t7 hp7 hL1 s6
    walk_at "go"
    refine ⟨Nat.le_of_ble_eq_true rfl, fun a8 na8 => ?_⟩
    have p8 : a8 ≠ p := pot_ne hpc na8
    have h8 : H a8 = none := sb_free sH hpc na8
    generalize q8 : upd N7 a8 (.lst [.int 1, .int (-1), .int 5, .int (-40)]) = N8
    have s8 : Same N7 N8 := q8 ▸ U.same_new na8
    have e8 : N8 a8 = some (.lst [.int 1, .int (-1), .int 5, .int (-40)]) := q8 ▸ upd_same
    clear q8
    replace ht := s8 _ _ ht
    replace e1 := s8 _ _ e1
    replace e2 := s8 _ _ e2
    replace e3 := s8 _ _ e3
    replace e4 := s8 _ _ e4
    replace sH := sH.trans (SB.of s8)
    replace hpc := hpc.same s8
    walk_at "go"
    refine ⟨p, .ref a8, n, rfl, hpc, Or.inl ⟨a8, _, rfl, Or.inl (SqL.of e8), by decide, by decide, fun H' s => Or.inl (SqL.of (s _ _ e8 p8)), fun j y N9 ey hp9 s9 => ?_⟩⟩
    obtain ⟨m, rfl⟩ : ∃ m : Int, y = .int m := by
      have hm := List.mem_of_getElem? ey
      simp only [List.mem_cons, List.not_mem_nil, or_false] at hm
      rcases hm with rfl | rfl | rfl | rfl <;> exact ⟨_, rfl⟩
    have t9 := hpc.ts s9
    replace ht := t9 _ _ ht
    replace e1 := t9 _ _ e1
    replace e2 := t9 _ _ e2
    replace e3 := t9 _ _ e3
    replace e4 := s9 _ _ e4 p4
    replace sH := sH.trans s9
    clear hpc
    have hpc := hp9
    clear s9 t9 hp9 e8 ey
    obtain ⟨k, rfl⟩ : ∃ k : Nat, r = (k : Int) := ⟨r.toNat, by omega⟩
    have k1 : k < zs.length := by omega
    have zk : (zs.map V.int)[k]? = some (V.int (rowF zs k)) := by rw [List.getElem?_map, rowF_at k1]; rfl
    obtain ⟨zi, ze⟩ : ∃ ys, zs.map V.int = ys ++ [V.int (rowF zs (zs.length - 1))] := by
      have e := snoc_ex zs (zs.length - 1) (by omega)
      rw [List.take_of_length_le (by omega)] at e
      refine ⟨(zs.take (zs.length - 1)).map V.int, ?_⟩
      have e2 : rowF zs (zs.length - 1) = zs[zs.length - 1] := by unfold rowF; rw [List.getElem?_eq_getElem (by omega)]; rfl
      rw [e2]
      conv => lhs; rw [e]
      rw [List.map_append]; rfl
    have pz := plain_ints zs
    have lzz : (zs.map V.int).length ≤ 120 := by rw [List.length_map]; exact l1
    have sz : 1000 ≤ sizeLine := Nat.le_of_ble_eq_true rfl
    have lc := fun lo hi => Nat.le_trans (len_cut (zs.map V.int) lo hi) lzz
    walk_at "go"
    refine g_slTT ht fun a10 N10 s10 e10 _ => ?_
    replace ht := s10 _ _ ht
    replace e1 := s10 _ _ e1
    replace e2 := s10 _ _ e2
    replace e3 := s10 _ _ e3
    replace e4 := s10 _ _ e4
    replace sH := sH.trans (SB.of s10)
    replace hpc := hpc.same s10
    walk_at "go"
    refine U.g_ix (Or.inr (SqT.of ht)) (atI_nat (j := k) zk) ?_
    walk_at "go"
    refine ⟨Nat.le_of_ble_eq_true rfl, fun a11 na11 => ?_⟩
    have p11 : a11 ≠ p := pot_ne hpc na11
    have h11 : H a11 = none := sb_free sH hpc na11
    generalize q11 : upd N10 a11 (.tup [.int (rowF zs k + m)]) = N11
    have s11 : Same N10 N11 := q11 ▸ U.same_new na11
    have e11 : N11 a11 = some (.tup [.int (rowF zs k + m)]) := q11 ▸ upd_same
    clear q11
    replace ht := s11 _ _ ht
    replace e1 := s11 _ _ e1
    replace e2 := s11 _ _ e2
    replace e3 := s11 _ _ e3
    replace e4 := s11 _ _ e4
    replace e10 := s11 _ _ e10
    replace sH := sH.trans (SB.of s11)
    replace hpc := hpc.same s11
    walk_at "go"
    refine g_addTT e10 e11 (by have := lc none (some (k : Int)); simp only [List.length_cons, List.length_nil]; omega) fun a12 N12 s12 e12 _ => ?_
    replace ht := s12 _ _ ht
    replace e1 := s12 _ _ e1
    replace e2 := s12 _ _ e2
    replace e3 := s12 _ _ e3
    replace e4 := s12 _ _ e4
    replace e10 := s12 _ _ e10
    replace e11 := s12 _ _ e11
    replace sH := sH.trans (SB.of s12)
    replace hpc := hpc.same s12
    walk_at "go"
    refine g_slTT ht fun a13 N13 s13 e13 _ => ?_
    replace ht := s13 _ _ ht
    replace e1 := s13 _ _ e1
    replace e2 := s13 _ _ e2
    replace e3 := s13 _ _ e3
    replace e4 := s13 _ _ e4
    replace e10 := s13 _ _ e10
    replace e11 := s13 _ _ e11
    replace e12 := s13 _ _ e12
    replace sH := sH.trans (SB.of s13)
    replace hpc := hpc.same s13
    walk_at "go"
    refine g_addTT e12 e13 (by have := lc none (some (k : Int)); have := lc (some ((k : Int) + 1)) none; simp only [List.length_append, List.length_cons, List.length_nil]; omega) fun a14 N14 s14 e14 _ => ?_
    replace ht := s14 _ _ ht
    replace e1 := s14 _ _ e1
    replace e2 := s14 _ _ e2
    replace e3 := s14 _ _ e3
    replace e4 := s14 _ _ e4
    replace e10 := s14 _ _ e10
    replace e11 := s14 _ _ e11
    replace e12 := s14 _ _ e12
    replace e13 := s14 _ _ e13
    replace sH := sH.trans (SB.of s14)
    replace hpc := hpc.same s14
    walk_at "go"
    refine U.g_lstC (Or.inr (SqT.of ht)) fun a15 na15 => ?_
    have d15 : a15 ≠ a4 := (ne_of_none e4 na15).symm
    have p15 : a15 ≠ p := pot_ne hpc na15
    have h15 : H a15 = none := sb_free sH hpc na15
    generalize q15 : upd N14 a15 (.lst (zs.map V.int)) = N15
    have s15 : Same N14 N15 := q15 ▸ U.same_new na15
    have e15 : N15 a15 = some (.lst (zs.map V.int)) := q15 ▸ upd_same
    clear q15
    replace ht := s15 _ _ ht
    replace e1 := s15 _ _ e1
    replace e2 := s15 _ _ e2
    replace e3 := s15 _ _ e3
    replace e4 := s15 _ _ e4
    replace e10 := s15 _ _ e10
    replace e11 := s15 _ _ e11
    replace e12 := s15 _ _ e12
    replace e13 := s15 _ _ e13
    replace e14 := s15 _ _ e14
    replace sH := sH.trans (SB.of s15)
    replace hpc := hpc.same s15
    walk_at "go"
    refine U.g_ix (Or.inr (SqT.of ht)) (at_end ze) ?_
    walk_at "go"
    refine ⟨Nat.le_of_ble_eq_true rfl, fun a16 na16 => ?_⟩
    have p16 : a16 ≠ p := pot_ne hpc na16
    have h16 : H a16 = none := sb_free sH hpc na16
    generalize q16 : upd N15 a16 (.tup [.int (rowF zs (zs.length - 1))]) = N16
    have s16 : Same N15 N16 := q16 ▸ U.same_new na16
    have e16 : N16 a16 = some (.tup [.int (rowF zs (zs.length - 1))]) := q16 ▸ upd_same
    clear q16
    replace ht := s16 _ _ ht
    replace e1 := s16 _ _ e1
    replace e2 := s16 _ _ e2
    replace e3 := s16 _ _ e3
    replace e4 := s16 _ _ e4
    replace e10 := s16 _ _ e10
    replace e11 := s16 _ _ e11
    replace e12 := s16 _ _ e12
    replace e13 := s16 _ _ e13
    replace e14 := s16 _ _ e14
    replace e15 := s16 _ _ e15
    replace sH := sH.trans (SB.of s16)
    replace hpc := hpc.same s16
    walk_at "go"
    refine g_addTT ht e16 (by simp only [List.length_cons, List.length_nil]; omega) fun a17 N17 s17 e17 _ => ?_
    replace ht := s17 _ _ ht
    replace e1 := s17 _ _ e1
    replace e2 := s17 _ _ e2
    replace e3 := s17 _ _ e3
    replace e4 := s17 _ _ e4
    replace e10 := s17 _ _ e10
    replace e11 := s17 _ _ e11
    replace e12 := s17 _ _ e12
    replace e13 := s17 _ _ e13
    replace e14 := s17 _ _ e14
    replace e15 := s17 _ _ e15
    replace e16 := s17 _ _ e16
    replace sH := sH.trans (SB.of s17)
    replace hpc := hpc.same s17
    walk_at "go"
    refine g_slTT ht fun a18 N18 s18 e18 _ => ?_
    replace ht := s18 _ _ ht
    replace e1 := s18 _ _ e1
    replace e2 := s18 _ _ e2
    replace e3 := s18 _ _ e3
    replace e4 := s18 _ _ e4
    replace e10 := s18 _ _ e10
    replace e11 := s18 _ _ e11
    replace e12 := s18 _ _ e12
    replace e13 := s18 _ _ e13
    replace e14 := s18 _ _ e14
    replace e15 := s18 _ _ e15
    replace e16 := s18 _ _ e16
    replace e17 := s18 _ _ e17
    replace sH := sH.trans (SB.of s18)
    replace hpc := hpc.same s18
    walk_at "go"
    refine ⟨Nat.le_of_ble_eq_true rfl, fun a19 na19 => ?_⟩
    have p19 : a19 ≠ p := pot_ne hpc na19
    have h19 : H a19 = none := sb_free sH hpc na19
    generalize q19 : upd N18 a19 (.lst [.ref a14, .ref a15, .ref a17, .ref a18]) = N19
    have s19 : Same N18 N19 := q19 ▸ U.same_new na19
    have e19 : N19 a19 = some (.lst [.ref a14, .ref a15, .ref a17, .ref a18]) := q19 ▸ upd_same
    clear q19
    replace ht := s19 _ _ ht
    replace e1 := s19 _ _ e1
    replace e2 := s19 _ _ e2
    replace e3 := s19 _ _ e3
    replace e4 := s19 _ _ e4
    replace e10 := s19 _ _ e10
    replace e11 := s19 _ _ e11
    replace e12 := s19 _ _ e12
    replace e13 := s19 _ _ e13
    replace e14 := s19 _ _ e14
    replace e15 := s19 _ _ e15
    replace e16 := s19 _ _ e16
    replace e17 := s19 _ _ e17
    replace e18 := s19 _ _ e18
    replace sH := sH.trans (SB.of s19)
    replace hpc := hpc.same s19
    walk_at "go"
    have nt : ∀ {a : Addr} {xs : List V}, N19 a = some (.tup xs) → a ≠ a4 := fun e => ne_of e e4 (by intro z; cases z)
    have O19 : ∀ v ∈ [.ref t, .non, .ref a1, .int 0, .ref a2, .ref a3, .str "0"] ++ [.ref a14, .ref a15, .ref a17, .ref a18], HvN a4 N19 v := fun v hv => by
      simp only [List.mem_append, List.mem_cons, List.not_mem_nil, or_false] at hv
      have tu : ∀ {a : Addr} {xs : List V}, N19 a = some (.tup xs) → xs.all plainV = true → xs.length ≤ 300 → HvN a4 N19 (.ref a) := fun e p l => .inr (.inr (.inr (.inr ⟨_, _, rfl, nt e, e, p, l⟩)))
      rcases hv with (rfl | rfl | rfl | rfl | rfl | rfl | rfl) | (rfl | rfl | rfl | rfl)
      · exact tu ht pz (by omega)
      · exact .inl rfl
      · exact tu e1 rfl (by decide)
      · exact .inr (.inl ⟨_, rfl⟩)
      · exact tu e2 rfl (by decide)
      · exact tu e3 rfl (by decide)
      · exact .inr (.inr (.inl ⟨_, rfl⟩))
      · refine tu e14 ?_ ?_
        · rw [List.all_append, List.all_append, plain_cut pz, plain_cut pz]; rfl
        · have := lc none (some (k : Int)); have := lc (some ((k : Int) + 1)) none
          simp only [List.length_append, List.length_cons, List.length_nil]; omega
      · exact .inr (.inr (.inr (.inl ⟨_, _, rfl, d15, e15⟩)))
      · refine tu e17 ?_ ?_
        · rw [List.all_append, pz]; rfl
        · simp only [List.length_append, List.length_cons, List.length_nil]; omega
      · exact tu e18 (plain_cut pz) (Nat.le_trans (lc _ _) (by decide))
    refine U.g_ext e4 e19 (Nat.le_of_ble_eq_true rfl) ?_
    generalize q20 : upd N19 a4 (.lst ([.ref t, .non, .ref a1, .int 0, .ref a2, .ref a3, .str "0"] ++ [.ref a14, .ref a15, .ref a17, .ref a18])) = N20
    have x20 : SB a4 N19 N20 := q20 ▸ sb_put
    replace e4 : N20 a4 = some (.lst ([.ref t, .non, .ref a1, .int 0, .ref a2, .ref a3, .str "0"] ++ [.ref a14, .ref a15, .ref a17, .ref a18])) := q20 ▸ upd_same
    replace hpc : PotAt N20 p n := q20 ▸ hpc.put (Ne.symm p4)
    replace sH : SB p H N20 := q20 ▸ sH.mut h4
    replace ht := x20 _ _ ht (nt ht)
    clear q20
    have O20 := fun v hv => (O19 v hv).mono x20
    walk_at "go"
    refine ⟨_, rfl, t, _, rfl, SqT.of ht, fun a21 na21 => ?_⟩
    have p21 : a21 ≠ p := pot_ne hpc na21
    have h21 : H a21 = none := sb_free sH hpc na21
    generalize q21 : upd N20 a21 (.tup (zs.map V.int).reverse) = N21
    have s21 : Same N20 N21 := q21 ▸ U.same_new na21
    have e21 : N21 a21 = some (.tup (zs.map V.int).reverse) := q21 ▸ upd_same
    clear q21
    replace ht := s21 _ _ ht
    replace e4 := s21 _ _ e4
    replace sH := sH.trans (SB.of s21)
    replace hpc := hpc.same s21
    walk_at "go"
    refine e_tup (SqT.of ht) ?_
    refine lcI_tup (fun H' s' => SqT.of (s' _ _ ht)) (by omega) (fun v => some (.int 0)) (fun x H' A B hx s' kA kB => ?t22) fun a22 N22 na22 s22 e22 => ?c22
    case t22 =>
      obtain ⟨z, _, rfl⟩ := List.mem_map.mp hx
      walk_at "go"
      refine ⟨rfl, ?_⟩
      walk_at "go"
      exact kA _ _ rfl (Same.refl _)
    rw [show (zs.map V.int).filterMap (fun v => some (.int 0)) = (zs.map fun z => (0 : Int)).map V.int by rw [List.filterMap_map, List.map_map]; exact congrFun List.filterMap_eq_map _] at e22
    replace ht := s22 _ _ ht
    replace e4 := s22 _ _ e4
    replace e21 := s22 _ _ e21
    replace sH := sH.trans (SB.of s22)
    replace hpc := hpc.same s22
    walk_at "go"
    refine U.g_tupL (SqL.of e22) fun a23 na23 => ?_
    have p23 : a23 ≠ p := pot_ne hpc na23
    have h23 : H a23 = none := sb_free sH hpc na23
    generalize q23 : upd N22 a23 (.tup ((zs.map fun z => (0 : Int)).map V.int)) = N23
    have s23 : Same N22 N23 := q23 ▸ U.same_new na23
    have e23 : N23 a23 = some (.tup ((zs.map fun z => (0 : Int)).map V.int)) := q23 ▸ upd_same
    clear q23
    replace ht := s23 _ _ ht
    replace e4 := s23 _ _ e4
    replace e21 := s23 _ _ e21
    replace e22 := s23 _ _ e22
    replace sH := sH.trans (SB.of s23)
    replace hpc := hpc.same s23
    walk_at "go"
    refine e_tup (SqT.of ht) ?_
    refine lcI_tup (fun H' s' => SqT.of (s' _ _ ht)) (by omega) (fun v => match v with | .int z => some (.int (z + 1)) | _ => none) (fun x H' A B hx s' kA kB => ?t24) fun a24 N24 na24 s24 e24 => ?c24
    case t24 =>
      obtain ⟨z, _, rfl⟩ := List.mem_map.mp hx
      walk_at "go"
      refine ⟨rfl, ?_⟩
      walk_at "go"
      exact kA _ _ rfl (Same.refl _)
    rw [show (zs.map V.int).filterMap (fun v => match v with | .int z => some (.int (z + 1)) | _ => none) = (zs.map fun z => z + 1).map V.int by rw [List.filterMap_map, List.map_map]; exact congrFun List.filterMap_eq_map _] at e24
    replace ht := s24 _ _ ht
    replace e4 := s24 _ _ e4
    replace e21 := s24 _ _ e21
    replace e22 := s24 _ _ e22
    replace e23 := s24 _ _ e23
    replace sH := sH.trans (SB.of s24)
    replace hpc := hpc.same s24
    walk_at "go"
    refine U.g_tupL (SqL.of e24) fun a25 na25 => ?_
    have p25 : a25 ≠ p := pot_ne hpc na25
    have h25 : H a25 = none := sb_free sH hpc na25
    generalize q25 : upd N24 a25 (.tup ((zs.map fun z => z + 1).map V.int)) = N25
    have s25 : Same N24 N25 := q25 ▸ U.same_new na25
    have e25 : N25 a25 = some (.tup ((zs.map fun z => z + 1).map V.int)) := q25 ▸ upd_same
    clear q25
    replace ht := s25 _ _ ht
    replace e4 := s25 _ _ e4
    replace e21 := s25 _ _ e21
    replace e22 := s25 _ _ e22
    replace e23 := s25 _ _ e23
    replace e24 := s25 _ _ e24
    replace sH := sH.trans (SB.of s25)
    replace hpc := hpc.same s25
    walk_at "go"
    refine ⟨Nat.le_of_ble_eq_true rfl, fun a26 na26 => ?_⟩
    have p26 : a26 ≠ p := pot_ne hpc na26
    have h26 : H a26 = none := sb_free sH hpc na26
    generalize q26 : upd N25 a26 (.tup [.bl false]) = N26
    have s26 : Same N25 N26 := q26 ▸ U.same_new na26
    have e26 : N26 a26 = some (.tup [.bl false]) := q26 ▸ upd_same
    clear q26
    replace ht := s26 _ _ ht
    replace e4 := s26 _ _ e4
    replace e21 := s26 _ _ e21
    replace e22 := s26 _ _ e22
    replace e23 := s26 _ _ e23
    replace e24 := s26 _ _ e24
    replace e25 := s26 _ _ e25
    replace sH := sH.trans (SB.of s26)
    replace hpc := hpc.same s26
    walk_at "go"
    refine g_slTT ht fun a27 N27 s27 e27 _ => ?_
    replace ht := s27 _ _ ht
    replace e4 := s27 _ _ e4
    replace e21 := s27 _ _ e21
    replace e22 := s27 _ _ e22
    replace e23 := s27 _ _ e23
    replace e24 := s27 _ _ e24
    replace e25 := s27 _ _ e25
    replace e26 := s27 _ _ e26
    replace sH := sH.trans (SB.of s27)
    replace hpc := hpc.same s27
    walk_at "go"
    refine g_addTT e26 e27 (by have := lc (some 1) none; simp only [List.length_cons, List.length_nil]; omega) fun a28 N28 s28 e28 _ => ?_
    replace ht := s28 _ _ ht
    replace e4 := s28 _ _ e4
    replace e21 := s28 _ _ e21
    replace e22 := s28 _ _ e22
    replace e23 := s28 _ _ e23
    replace e24 := s28 _ _ e24
    replace e25 := s28 _ _ e25
    replace e26 := s28 _ _ e26
    replace e27 := s28 _ _ e27
    replace sH := sH.trans (SB.of s28)
    replace hpc := hpc.same s28
    walk_at "go"
    refine ⟨Nat.le_of_ble_eq_true rfl, fun a29 na29 => ?_⟩
    have p29 : a29 ≠ p := pot_ne hpc na29
    have h29 : H a29 = none := sb_free sH hpc na29
    generalize q29 : upd N28 a29 (.lst [.ref a21, .ref a23, .ref a25, .ref a28]) = N29
    have s29 : Same N28 N29 := q29 ▸ U.same_new na29
    have e29 : N29 a29 = some (.lst [.ref a21, .ref a23, .ref a25, .ref a28]) := q29 ▸ upd_same
    clear q29
    replace ht := s29 _ _ ht
    replace e4 := s29 _ _ e4
    replace e21 := s29 _ _ e21
    replace e22 := s29 _ _ e22
    replace e23 := s29 _ _ e23
    replace e24 := s29 _ _ e24
    replace e25 := s29 _ _ e25
    replace e26 := s29 _ _ e26
    replace e27 := s29 _ _ e27
    replace e28 := s29 _ _ e28
    replace sH := sH.trans (SB.of s29)
    replace hpc := hpc.same s29
    walk_at "go"
    clear nt
    have nt : ∀ {a : Addr} {xs : List V}, N29 a = some (.tup xs) → a ≠ a4 := fun e => ne_of e e4 (by intro z; cases z)
    have O29 : ∀ v ∈ ([.ref t, .non, .ref a1, .int 0, .ref a2, .ref a3, .str "0"] ++ [.ref a14, .ref a15, .ref a17, .ref a18]) ++ [.ref a21, .ref a23, .ref a25, .ref a28], HvN a4 N29 v := fun v hv => by
      have tu : ∀ {a : Addr} {xs : List V}, N29 a = some (.tup xs) → xs.all plainV = true → xs.length ≤ 300 → HvN a4 N29 (.ref a) := fun e p l => .inr (.inr (.inr (.inr ⟨_, _, rfl, nt e, e, p, l⟩)))
      rcases List.mem_append.mp hv with hv | hv
      · exact (O20 v hv).mono (((((((((SB.of s21).trans (SB.of s22)).trans (SB.of s23)).trans (SB.of s24)).trans (SB.of s25)).trans (SB.of s26)).trans (SB.of s27)).trans (SB.of s28)).trans (SB.of s29))
      simp only [List.mem_cons, List.not_mem_nil, or_false] at hv
      rcases hv with rfl | rfl | rfl | rfl
      · exact tu e21 (by rw [List.all_reverse]; exact pz) (by rw [List.length_reverse]; omega)
      · exact tu e23 (plain_ints _) (by rw [List.length_map, List.length_map]; omega)
      · exact tu e25 (plain_ints _) (by rw [List.length_map, List.length_map]; omega)
      · refine tu e28 ?_ ?_
        · rw [List.all_append, plain_cut pz]; rfl
        · have := lc (some 1) none
          simp only [List.length_append, List.length_cons, List.length_nil]; omega
    refine U.g_ext e4 e29 (Nat.le_of_ble_eq_true rfl) ?_
    generalize q30 : upd N29 a4 (.lst (([.ref t, .non, .ref a1, .int 0, .ref a2, .ref a3, .str "0"] ++ [.ref a14, .ref a15, .ref a17, .ref a18]) ++ [.ref a21, .ref a23, .ref a25, .ref a28])) = N30
    have x30 : SB a4 N29 N30 := q30 ▸ sb_put
    replace e4 : N30 a4 = some (.lst (([.ref t, .non, .ref a1, .int 0, .ref a2, .ref a3, .str "0"] ++ [.ref a14, .ref a15, .ref a17, .ref a18]) ++ [.ref a21, .ref a23, .ref a25, .ref a28])) := q30 ▸ upd_same
    replace hpc : PotAt N30 p n := q30 ▸ hpc.put (Ne.symm p4)
    replace sH : SB p H N30 := q30 ▸ sH.mut h4
    replace ht := x30 _ _ ht (nt ht)
    clear q30
    walk_at "go"
    exact kk a4 _ N30 h4 e4 (Nat.le_of_ble_eq_true rfl) (fun v hv => (O29 v hv).mono x30) hpc sH
end
end Toy

namespace TE
open PySem PySem.Spec PyProof.Rows L2
/-! ### try .. except A as e .. else: the clause binds a name, the body's own end goes on in else -/
section
variable {X : Cx} {A n : Str} {c : Value} {i : Nat} {body suite orelse : List Stmt} {st : Stmt} {p1 p2 p3 : Pos} {tb : WX → TS} {ts : Addr → Value → Option Addr → TS} {Wo : WX} {u : TS}
/-- no frame of the stack is the exception's own address -/
theorem fields_off {h B : Heap} {es : List Env} {a : Addr} {o : Obj} {vs : Array Value} (ff : h.FunFrames B es) (ea : h.get? a = some o) (ed : o.data = .fields vs) : a ∉ frs es := fun q => by
  obtain ⟨_, o2, e2, no⟩ := ff.mem q
  cases ea.symm.trans e2
  exact no _ ed
theorem ps_try_asE (ho : PSs X orelse u) (hs : X.stack = X.env :: X.outer) (hf : X.env.frame = some X.env.locals) (hN : X.N.Nodup) (hi : X.N[i]? = some n) (hn : X.env.kindOf n = some .local) (hc : Names X A c) (tk : Takes X Wo)
    (hb : ∀ (W : WX) (pn : List (Addr × Obj)) (xe : Value → Shared → Prop), Takes (X.tr pn xe) W → PassesOwn (model X.prog X.w) X.A X.env xe → PSs (X.tr pn xe) body (tb W))
    (hsu : ∀ (a : Addr) (oe : Obj) (cls : Value) (d : Option Addr) (pn : List (Addr × Obj)), Zc cls d oe → (∃ vs, oe.data = .fields vs) → PSs (X.suite a ((a, oe) :: pn)) (st :: suite) (ts a cls d)) :
    PS X (.Try body [.ExceptHandler (some (.Name A p1)) (some n) (st :: suite) p2] orelse [] p3) (fun D σ H => tb (wAs X.K c i ts Wo D) { D with nx := u D } σ H) := by
  refine ⟨fun pins s0 σ0 H0 D I0 hyp => wpAny_Try_except ?_⟩
  have ok := I0.ok
  have frames : X.A.frames = some (X.env :: X.outer) := ok.frames.trans (congrArg some hs)
  have first := (hb (wAs X.K c i ts Wo D) (X.pn ++ pins)
    (fun e s₁ => wpAny (model X.prog X.w) X.A (noteFrame e X.env) (fun _ s₂ => wpAny (model X.prog X.w) X.A (setFlight e none) (fun _ s₃ =>
      wpAny (model X.prog X.w) X.A (handleBy e X.env [.ExceptHandler (some (.Name A p1)) (some n) (st :: suite) p2]) (SP X pins D) X.xe s₃) X.xe s₂) X.xe s₁) ?caught PassesOwn.looking).run [] s0 σ0 H0 { D with nx := u D } (I0.toTry _) hyp
  case caught =>
    rintro v s1 ⟨a, B, sI, pins1, σ, H, cls, d, rfl, J1, nb, up, sky, na, os, ag, b, isb, onYes, onNo⟩
    have J := J1.ofTry ok
    rw [hs] at sky
    refine Sky.land Zc.steady frames hf sky fun h1 lands up1 => ?_
    have K1 : Inv X pins σ H { s1 with heap := h1 } := J.landed nb lands.1 (up.trans up1) os ag
    obtain ⟨oe, ws, oeAt, zc, oeD⟩ := lands.there
    have off := fields_off lands.2.2.1 oeAt oeD
    have offL : a ≠ X.env.locals := fun z => off (List.mem_filterMap.mpr ⟨X.env, List.mem_cons_self, by rw [hf, z]⟩)
    have offF : a ∉ X.fs := fun q => by
      obtain ⟨e, he, q2⟩ := List.mem_filterMap.mp q
      exact off (List.mem_filterMap.mpr ⟨e, List.mem_cons_of_mem _ he, q2⟩)
    have inSuite := K1.suite oeAt oeD na offL offF
    have isOf := PySem.W.exm_one (M := model X.prog X.w) K1.kIn (fun _ _ _ _ k q => wpAny_typeOf_ref (k _ _ oeAt) (by rw [zc.1]; exact q)) isb
    refine wpAny_handleBy_cons (codeAny_handlers_test ?_) (by intro q; cases q)
    have named : ∀ {Q E : Value → Shared → Prop}, Q c { s1 with heap := h1 } → wpAny (model X.prog X.w) (X.A.mark (some (.ref a))) (eval (.Name A p1) X.env) Q E { s1 with heap := h1 } := fun {Q E} q => by
      rcases hc with ⟨hg, hd, hm | ⟨hm, hv, nn⟩⟩
      · exact ld_glob (X := X.suite a ((a, oe) :: (X.pn ++ pins))) inSuite hg hm q hd
      · exact ld_blt (X := X.suite a ((a, oe) :: (X.pn ++ pins))) inSuite hg hm hv q nn hd
    refine named (isOf.here ?_)
    cases b
    · -- another class: it goes on
      refine wpAny_handleBy_nil ?_
      obtain ⟨_, _, _, o2, vs2, T, _, _, at2, _, d2, f1, _⟩ := id lands
      have away : wpAny (model X.prog X.w) X.A (setFlight (.ref a) X.env.frame) (fun _ s4 => wpAny (model X.prog X.w) X.A (throw (.ref a) : Sem Flow) (SP X pins D) X.xe s4) X.xe { s1 with heap := h1 } := by
        rw [hf]
        refine HandSPX.setFlight_upZ lands fun h4 still up4 => wpAny_throw (tk _ _ ⟨a, B, sI, pins, σ, H, cls, d, rfl, J, nb, (up.trans up1).trans up4, .inr (.inr ?_), na, os, ag, onNo rfl⟩)
        rw [hs]
        exact still
      unfold PySem.passOn
      refine wpAny_bind (wpAny_field at2 d2 f1 ?_)
      rw [if_neg (show ¬ ((Value.ref T == Value.none) = true) from by simp)]
      first | exact wpAny_bind (wpAny_pure (wpAny_bind away)) | exact wpAny_bind away
    · refine codeAny_handlers_suite_as (HandSPX.lands_againZ lands fun h2 again up2 => ?_)
      obtain ⟨oe2, ws2, oeAt2, zc2, oeD2⟩ := again.there
      have K2 : Inv X pins σ H { s1 with heap := h2 } := J.landed nb again.1 ((up.trans up1).trans up2) os ag
      refine store_ok (X := X.suite a ((a, oe2) :: (X.pn ++ pins))) (v := .ref a) (K2.suite oeAt2 oeD2 na offL offF) hN hi (.inl hn) rfl (fun s5 K5 => ?_) (.inr hn)
      refine wpAny_mono ((hsu a oe2 cls d (X.pn ++ pins) zc2 ⟨_, oeD2⟩).run [] s5 _ H _ K5 (onYes rfl a na)) (fun f s6 out => ?_) (fun _ _ z => z.elim)
      have gone : ∀ {σ6 : L2.St} {H6 : Hp} {Q : Shared → Prop}, Inv (X.suite a ((a, oe2) :: (X.pn ++ pins))) [] σ6 H6 s6 → (∀ s7, Inv X pins (σ6.set i none) H6 s7 → Q s7) →
          wpAny (model X.prog X.w) X.A (do bindName X.env n .none; unbindBehindTheSuite X.env n p2) (fun _ s7 => Q s7) X.xe s6 := fun K6 q => gone_ok (K6.unsuite ok) hN hi hn q
      match f, out with
      | .next, ⟨_, _, K6, q⟩ => exact gone K6 fun _ K7 => ⟨_, _, K7, q⟩
      | .brk, ⟨_, _, K6, q⟩ => exact gone K6 fun _ K7 => ⟨_, _, K7, q⟩
      | .cont, ⟨_, _, K6, q⟩ => exact gone K6 fun _ K7 => ⟨_, _, K7, q⟩
      | .ret _, ⟨_, _, _, K6, r, q⟩ => exact gone K6 fun _ K7 => ⟨_, _, _, K7, r, q⟩
  refine wpAny_mono first (fun f s1 out => ?_) (fun _ _ z => z)
  match f, out with
  | .next, ⟨_, _, K1, q⟩ => exact ho.run pins s1 _ _ D (K1.ofTry ok) q
  | .brk, ⟨_, _, K1, q⟩ => exact ⟨_, _, K1.ofTry ok, q⟩
  | .cont, ⟨_, _, K1, q⟩ => exact ⟨_, _, K1.ofTry ok, q⟩
  | .ret _, ⟨_, _, _, K1, r, q⟩ => exact ⟨_, _, _, K1.ofTry ok, r, q⟩
end
end TE

namespace Toy
open PySem PySem.Spec PyProof.Rows L2 U M LM G QD KW LM8 EX
section
variable {P : Program} {w : World} {K : PySem.W.Frag} {mg : Str → Option Value} {base : Heap}
theorem okx_heights (T : Tx K mg) : FnOk P w K mg base (L2.CX P w) 6 T.a_heights T.fd_heights ["values", "size"] (sp_crowdX T.C_NoCrowds) := by
  refine T.F_heights.okX sc_heights (fun vs H Q E h => ?_) (fun cdv A outer s H vs Q E hr h => ?_)
  · obtain ⟨b, ns, s, rfl, _⟩ := h
    rfl
  · obtain ⟨b, ns, s, rfl, hb, hl, hn, z1, z2, c0, c1, kk⟩ := h
    have hu := hu_of hr
    have hu64 := hr.units
    refine ⟨_, (pss_cons (ps_set (i := 2) sc_heights.nd rfl (Or.inl rfl) (pe_meth (pe_callS (okx_crowded_ladder T) (hr.mono (by decide)) rfl T.m_crowded_ladder T.F_crowded_ladder.kp (b_crowded_ladder T) (fun σ => passAt (takes_of rfl rfl rfl rfl) σ) (pa_cons (pv 0) (pa_cons (pv 1) pa_nil))) T.cl_Ladder T.me_Ladder_first_losses (ok_Ladder_first_losses T) (hr.mono (by decide)) (b_Ladder_first_losses T) .nil pass0 (pa_cons (pv 1) pa_nil)))
        (PSs.nox (pss_cons (ps_set (i := 3) sc_heights.nd rfl (Or.inr rfl) (pe_callB (cr_max rfl) (by rfl) T.n_max (by decide +kernel) (pa_cons (pe_lc rfl sc_heights.nd (u_list (K := K) rfl (pv 2)) (blkOk_by (own := [("loss", 4)]) (N := ["values", "size", "losses", "highest", "loss"]) (sc := defScope s_heights) (by decide +kernel)) (fun _ _ _ _ _ => (pg_name (i := 4) sc_heights.nd rfl (Or.inl rfl))) (fun _ _ _ _ _ => (pts_one (pt_cmpR op_notN (pv 4) pe_non (nomark _)))) (fun _ _ _ _ _ => (pv 4))) pa_nil)))
        (pss_one (ps_ret (pe_callTy (call_uTuple (K := K) rfl) (by rfl) T.n_tuple (by decide +kernel) (pa_cons (pe_lc rfl sc_heights.nd (u_list (K := K) rfl (pv 2)) (blkOk_by (own := [("loss", 4)]) (N := ["values", "size", "losses", "highest", "loss"]) (sc := defScope s_heights) (by decide +kernel)) (fun _ _ _ _ _ => (pg_name (i := 4) sc_heights.nd rfl (Or.inl rfl))) (fun _ _ _ _ _ => pts_nil) (fun _ _ _ _ _ => (pe_ifExp (pt_cmpR op_isN (pv 4) pe_non (nomark _)) (pv 3) (pv 4)))) pa_nil))))))), ?_⟩
    walk_at "st"
    walk_at "go"
    unfold tCallS
    walk_at "go"
    exact ⟨b, ns, s, rfl, hb, hl, hn, z1, z2, c0, c1, fun d H' s' hd => kk d H' s' hd⟩
theorem okx_shows_heights (T : Tx K mg) : FnOk P w K mg base (L2.CX P w) 6 T.a_shows_heights T.fd_shows_heights ["values", "size", "value"] (fun vs H Q E => ∃ x y v, vs = [x, y, v] ∧ sp_crowdX T.C_NoCrowds [x, y] H Q E) := by
  refine T.F_shows_heights.okX sc_shows_heights (fun vs H Q E h => ?_) (fun cdv A outer s H vs Q E hr h => ?_)
  · obtain ⟨x, y, v, rfl, _⟩ := h
    rfl
  · obtain ⟨x, y, v, rfl, b, ns, s, e, hb, hl, hn, z1, z2, c0, c1, kk⟩ := h
    cases e
    have hu := hu_of hr
    have hu64 := hr.units
    refine ⟨_, (pss_cons (ps_set (i := 3) sc_shows_heights.nd rfl (Or.inl rfl) (pe_callS (okx_crowded_ladder T) (hr.mono (by decide)) rfl T.m_crowded_ladder T.F_crowded_ladder.kp (b_crowded_ladder T) (fun σ => passAt (takes_of rfl rfl rfl rfl) σ) (pa_cons (pv 0) (pa_cons (pv 1) pa_nil))))
        (PSs.nox (pss_cons (ps_set (i := 4) sc_shows_heights.nd rfl (Or.inl rfl) (pe_callB (call_uLen (K := K) rfl) (by rfl) T.n_len (by decide +kernel) (pa_cons (pv 0) pa_nil)))
        (pss_cons (ps_if (PW.pt (pw_or (pt_not (pt_val (pe_call (ok_is_tuple_of T) (hr.mono (by decide)) rfl T.m_is_tuple_of T.F_is_tuple_of.kp (b_is_tuple_of T) .nil pass0 (pa_cons (pv 2) (pa_cons (pe_op (op_uAdd (K := K) rfl) (pv 4) (pe_int)) pa_nil))))) (pw_or1 (pt_not (pt_val (pe_callB (call_uAll (K := K) rfl rfl) (by rfl) T.n_all (by decide +kernel) (pa_cons (pe_lc rfl sc_shows_heights.nd (u_tup (K := K) rfl (pv 2)) (blkOk_by (own := [("height", 7)]) (N := ["values", "size", "value", "ladder", "many", "begin", "end", "height"]) (sc := defScope s_shows_heights) (by decide +kernel)) (fun _ _ _ _ _ => (pg_name (i := 7) sc_shows_heights.nd rfl (Or.inl rfl))) (fun _ _ _ _ _ => pts_nil) (fun _ _ _ _ _ => (pe_call (ok_is_integer T) (hr.mono (by decide)) rfl T.m_is_integer T.F_is_integer.kp (b_is_integer T) .nil pass0 (pa_cons (pv 7) pa_nil)))) pa_nil))))))) (pss_one (ps_ret (pe_bl))) pss_nil)
        (pss_cons (ps_if (PW.pt (pw_or (pt_cmpR (op_uNe (K := K) rfl hu64) (pe_ix (ix_u (K := K) rfl) (pv 2) (pe_int) (fun _ _ => rfl)) (pe_int) (nomark _)) (pw_or1 (pt_cmpR (op_uNe (K := K) rfl hu64) (pe_ix (ix_u (K := K) rfl) (pv 2) (pv 4) (fun _ _ => rfl)) (pe_ix (ix_u (K := K) rfl) (pe_meth (pv 3) T.cl_Ladder T.me_Ladder_first_losses (ok_Ladder_first_losses T) (hr.mono (by decide)) (b_Ladder_first_losses T) .nil pass0 (pa_cons (pv 1) pa_nil)) (pv 4) (fun _ _ => rfl)) (nomark _))))) (pss_one (ps_ret (pe_bl))) pss_nil)
        (pss_cons (ps_for PassesOwn.never rfl (pi_range1 (by rfl) T.n_range (pa_cons (pv 4) pa_nil)) (pg_name (i := 5) sc_shows_heights.nd rfl (Or.inl rfl)) (pss_one (ps_for PassesOwn.never rfl (pi_range2 (by rfl) T.n_range (pa_cons (pe_op (op_uAdd (K := K) rfl) (pv 5) (pv 1)) (pa_cons (pe_op (op_uAdd (K := K) rfl) (pv 4) (pe_int)) pa_nil))) (pg_name (i := 6) sc_shows_heights.nd rfl (Or.inl rfl)) (pss_one (ps_if (pt_cmpR op_uGt (pe_op op_uSub (pe_ix (ix_u (K := K) rfl) (pv 2) (pv 6) (fun _ _ => rfl)) (pe_ix (ix_u (K := K) rfl) (pv 2) (pv 5) (fun _ _ => rfl))) (pe_meth (pv 3) T.cl_Ladder T.me_Ladder_loss (ok_Ladder_loss T) (hr.mono (by decide)) (b_Ladder_loss T) .nil pass0 (pa_cons (pv 5) (pa_cons (pv 6) pa_nil))) (nomark _)) (pss_one (ps_ret (pe_bl))) pss_nil)))))
        (pss_one (ps_ret (pe_bl))))))))), ?_⟩
    walk_at "st"
    walk_at "go"
    unfold tCallS
    walk_at "go"
    exact ⟨b, ns, s, rfl, hb, hl, hn, z1, z2, c0, c1, fun d H' s' hd => kk d H' s' hd⟩
end
end Toy

namespace LX
open PySem PySem.Spec PyProof.Rows L2 LamX
/-- one of two readings -/
theorem pe_or {X : Cx} {e : Expr} {t1 t2 : TE} (h1 : PE X e t1) (h2 : PE X e t2) : PE X e (fun σ H Q => t1 σ H Q ∨ t2 σ H Q) :=
  ⟨fun pins s σ H Q I h => h.elim (h1.run pins s σ H Q I) (h2.run pins s σ H Q I)⟩
theorem Tabs.put {T : List (Addr × Str)} {H : Hp} {l : Addr} {xs ys : List V} (h : Tabs T H) (hl : H l = some (.lst xs)) : Tabs T (upd H l (.lst ys)) := fun q hq => by
  obtain ⟨ps, h1, h2, h3⟩ := h q hq
  refine ⟨ps, (upd_ne fun e => ?_).trans h1, h2, fun pos cv hc => ?_⟩
  · rw [e, hl] at h1
    cases h1
  · obtain ⟨c, e1, e2⟩ := h3 pos cv hc
    refine ⟨c, e1, (upd_ne fun e => ?_).trans e2⟩
    rw [e, hl] at e2
    cases e2
theorem Tabs.sb {T : List (Addr × Str)} {H H' : Hp} {p : Addr} {n : Nat} (h : Tabs T H) (s : U.SB p H H') (hp : _root_.Toy.PotAt H p n) : Tabs T H' := fun q hq => by
  obtain ⟨ps, h1, h2, h3⟩ := h q hq
  obtain ⟨_, _, _, h4, _⟩ := hp
  refine ⟨ps, s _ _ h1 fun e => ?_, h2, fun pos cv hc => ?_⟩
  · rw [e, h4] at h1
    cases h1
  · obtain ⟨c, e1, e2⟩ := h3 pos cv hc
    refine ⟨c, e1, s _ _ e2 fun e => ?_⟩
    rw [e, h4] at e2
    cases e2
/-- pe_lcall, the def's environment told -/
theorem pe_lcallE {X : Cx} {env : Env} (he : X.env = env) {W : WX} {params : Arguments} {body : Expr} {scope : Scope} {k i : Nat} {a : Str} {t : XK → TE} {p1 p2 : Pos} (L : LamS env.scope scope)
    (hbind : ∀ (q : Str) (cl : List (Str × Addr)) (pm cv ctv : Value), bindArgs (PySem.W.kla_fn "<lambda>" q params body scope cl pm cv ctv) ⟨[], []⟩ = pure [])
    (tk : Takes X W) (hr : Room (k + 1) X.A) (hbody : ∀ (E : XK) (A : Around) (outer : List Env) (s : Shared) (H : Hp) (f c' : Addr), Room k (A.deeper (lamEnv X scope s.heap.objs.size f c')) → PE (lamCx X A outer s H E scope f c') body (t E))
    (hN : X.N[i]? = some a) (hv : Vis X.env.scope a) (hd : (a == ("__debug__" : Str)) = false := by decide) (hcd : (a == ("__classdict__" : Str)) = false := by decide) :
    PE X (.Call (.Name a p1) [] [] p2) (tLCall W (fun c' => ⟨env.qual ++ "<lambda>", params, body, scope, cloFrom env.cells scope.names [], c'⟩) i t) := by
  subst he
  exact pe_lcall L hbind tk hr hbody hN hv hd hcd
theorem ite_no {b : Bool} {A B : Prop} (h : b = false) (q : B) : if b = true then A else B := by rw [h, if_neg Bool.false_ne_true]; exact q
theorem ne_refl (x : V) : (if (true : Bool) = true then !decide (x = x) else decide (x = x)) = false := by rw [if_pos rfl, decide_eq_true rfl]; rfl
theorem seqN {K : PySem.W.Frag} {H H' : Hp} {a : Addr} {xs : List V} (s : ExtN H H') (h : SqL K H a xs) : SqL K H' a xs := by
  rcases h with (h | ⟨o, h⟩) | h
  · exact Or.inl (Or.inl (s _ _ h (by intro ps z; cases z)))
  · exact Or.inl (Or.inr ⟨o, s _ _ h (by intro ps z; cases z)⟩)
  · exact Or.inr h
def lamE : Expr → Option (Arguments × Expr × Scope)
  | .Lambda p b s _ => some (p, b, s)
  | .List [.Lambda p b s _] _ => some (p, b, s)
  | .Call _ [.Lambda p b s _] _ _ => some (p, b, s)
  | _ => none
def lamS : Stmt → Option (Arguments × Expr × Scope)
  | .Assign _ v _ => lamE v
  | .Expr v _ => lamE v
  | _ => none
def thenS : Stmt → List Stmt
  | .If _ b _ _ => b
  | _ => []
/-- what stays where lambdas are made: all but the tables -/
def SBN (p : Addr) (H H' : Hp) : Prop := ∀ c o, H c = some o → c ≠ p → (∀ ps, o ≠ .tbl ps) → H' c = some o
theorem SBN.of {p : Addr} {H H' : Hp} (s : U.SB p H H') : SBN p H H' := fun c o e n _ => s c o e n
theorem SBN.ext {p : Addr} {H H' : Hp} (s : ExtN H H') : SBN p H H' := fun c o e _ t => s c o e t
theorem SBN.trans {p : Addr} {H H1 H2 : Hp} (a : SBN p H H1) (b : SBN p H1 H2) : SBN p H H2 := fun c o e n t => b c o (a c o e n t) n t
end LX
namespace Toy
open PySem PySem.Spec PyProof.Rows L2 U M LM G QD KW LM8 EX
section
variable {P : Program} {w : World} {K : PySem.W.Frag} {mg : Str → Option Value} {base : Heap}
theorem HvAt.same {K : PySem.W.Frag} {H H' : Hp} {v : V} {o : Option (List V)} (h : HvAt K H v o) (s : Same H H') : HvAt K H' v o := by
  cases o with
  | none =>
    obtain ⟨t, a, b, c⟩ := h
    exact ⟨t, c _ s, b, fun H2 s2 => c _ (s.trans s2)⟩
  | some xs =>
    obtain ⟨a, e, b, c⟩ := h
    exact ⟨a, e, s _ _ b, c⟩
def lamAt (i : Nat) : Arguments × Expr × Scope := (((LX.thenS ((defBody s__law_right).getD 1 (.Pass default))).getD i (.Pass default) |> LX.lamS).getD default)
def lamT__law_right (K : PySem.W.Frag) : List (Addr × Str) := [(LX.ptab K "_law_right", "_law_right.<locals>.<lambda>")]
theorem sc__law_right : FnScope ["pot", "values", "least", "calls", "call", "error", "told", "value"] ["pot"] (defScope s__law_right) := ⟨rfl, rfl, rfl, by decide +kernel, rfl, by decide +kernel, by decide +kernel⟩
def sp_right23 (K : PySem.W.Frag) : Sp := fun vs H Q _ => ∃ (p : Addr) (n : Nat), vs = [.ref p] ∧ PotAt H p (n + 100) ∧ LamX.Tabs (lamT__law_right K) H ∧ ∀ H', PotAt H' p n → LX.SBN p H H' → LamX.Tabs (lamT__law_right K) H' → Q (.bl true) H'
theorem ok__law_right (T : Tx K mg) (B : LamT base T) : FnG P w K mg base 8 T.a__law_right T.fd__law_right ["pot"] (sp_right23 K) := by
  refine LX.okGT T.F__law_right (B.c__law_right) sc__law_right (fun vs H Q E h => ?_) (fun A outer s H vs Q E hr hgd h => ?_)
  · obtain ⟨p, n, rfl, _⟩ := h
    rfl
  · obtain ⟨p, n, rfl, hp, ht, kk⟩ := h
    have hu := hu_of hr
    have hu64 := hr.units
    refine ⟨_, (pss_cons (ps_asg (pe_tup (pa_cons (pe_call (ok__law_line_values T) (hr.mono (by decide)) rfl T.m__law_line_values T.F__law_line_values.kp (b__law_line_values T) .nil pass0 (pa_cons (pv 0) (pa_cons (pe_int) pa_nil))) (pa_cons (pe_callTy call_uInt (by rfl) T.n_int (by decide +kernel) (pa_cons (pe_op (op_uAdd (K := K) rfl) (pe_int) (pe_call (ok__law_take T) (hr.mono (by decide)) rfl T.m__law_take T.F__law_take.kp (b__law_take T) .nil pass0 (pa_cons (pv 0) (pa_cons (pe_int) pa_nil)))) pa_nil)) pa_nil))) (u_gtup (K := K) (n := 2) rfl rfl (pgs_cons (pg_name (i := 1) sc__law_right.nd rfl (Or.inr rfl)) (pgs_cons (pg_name (i := 2) sc__law_right.nd rfl (Or.inr rfl)) pgs_nil))))
        (pss_cons (ps_if (pt_cmpR op_isN (pe_call (ok__law_least T) (hr.mono (by decide)) rfl T.m__law_least T.F__law_least.kp (b__law_least T) .nil pass0 (pa_cons (pv 1) (pa_cons (pv 2) pa_nil))) pe_non (nomark _)) (pss_cons (ps_set (i := 3) sc__law_right.nd rfl (Or.inl rfl) (pe_lst (pa_cons (LX.pe_lam (T := lamT__law_right K) B.t__law_right rfl (List.mem_singleton.mpr rfl) (fun p hp _ => by rw [List.mem_singleton.mp hp]; rfl) (LamX.lamS_by rfl) rfl) pa_nil)))
        (pss_cons (ps_expr (pe_bm PySem.F.plainAttrs_list PySem.F.slot_list_append PySem.F.type_list_append mt_append (pv 3) (pa_cons (LX.pe_lam (T := lamT__law_right K) B.t__law_right rfl (List.mem_singleton.mpr rfl) (fun p hp _ => by rw [List.mem_singleton.mp hp]; rfl) (LamX.lamS_by rfl) rfl) pa_nil)))
        (pss_cons (ps_for PassesOwn.never rfl (u_list (K := K) rfl (pv 3)) (pg_name (i := 4) sc__law_right.nd rfl (Or.inl rfl)) (pss_one (TE.ps_try_asE (i := 5) (pss_one (ps_ret (pe_bl))) rfl rfl sc__law_right.nd rfl rfl ⟨rfl, by decide, .inl T.m_NoCrowds⟩ takes0 (fun W pn xe tk _ => (pss_one (ps_expr (LX.pe_or (LX.pe_lcallE (env := envOfC "_law_right" (defScope s__law_right) s.heap.objs.size T.a__law_right (.ref (LX.pcode K "_law_right"))) rfl (params := (lamAt 0).1) (body := (lamAt 0).2.1) (scope := (lamAt 0).2.2) (i := 4) (LamX.lamS_by rfl) (fun _ _ _ _ _ => rfl) tk hr (fun E2 A2 outer2 s2 H2 f2 c2 hr2 => (pe_callS (okx_heights T) (hr2.mono (by decide)) rfl T.m_heights T.F_heights.kp (b_heights T) (fun σ => passAt (takes_of rfl rfl rfl rfl) σ) (pa_cons (pv 1) (pa_cons (pv 2) pa_nil)))) rfl (by first | exact .inl rfl | exact .inr rfl)) (LX.pe_lcallE (env := envOfC "_law_right" (defScope s__law_right) s.heap.objs.size T.a__law_right (.ref (LX.pcode K "_law_right"))) rfl (params := (lamAt 1).1) (body := (lamAt 1).2.1) (scope := (lamAt 1).2.2) (i := 4) (LamX.lamS_by rfl) (fun _ _ _ _ _ => rfl) tk hr (fun E2 A2 outer2 s2 H2 f2 c2 hr2 => (pe_callS (okx_shows_heights T) (hr2.mono (by decide)) rfl T.m_shows_heights T.F_shows_heights.kp (b_shows_heights T) (fun σ => passAt (takes_of rfl rfl rfl rfl) σ) (pa_cons (pv 1) (pa_cons (pv 2) (pa_cons (pe_tup (pa_cons (pe_int) pa_nil)) pa_nil))))) rfl (by first | exact .inl rfl | exact .inr rfl)))))) (fun a oe cls d pn hz hf => (pss_one (ps_if (pt_cmpR (op_uNe (K := K) rfl hu64) (pe_callB (QD.call_rep (K := K) rfl hgd hu64) (by rfl) T.n_repr (by decide +kernel) (pa_cons (EX.pe_xv T.e_NoCrowds hz hf (pv 5)) pa_nil)) (pe_callB (QD.call_rep (K := K) rfl hgd hu64) (by rfl) T.n_repr (by decide +kernel) (pa_cons (pe_callB (call_uLen (K := K) rfl) (by rfl) T.n_len (by decide +kernel) (pa_cons (pv 1) pa_nil)) pa_nil)) (nomark _)) (pss_one (ps_ret (pe_bl))) pss_nil))))))
        (pss_one (ps_ret (pe_bl)))))) pss_nil)
        (pss_cons (ps_set (i := 6) sc__law_right.nd rfl (Or.inl rfl) (KW.pe_callK0 (ok_heights T) (hr.mono (by decide)) (by rfl) T.m_heights T.F_heights.kp (KW.kb0 (ks := ["size", "values"]) T.F_heights [1, 0] (fun _ _ _ _ _ _ us hl => match us, hl with | [_, _], _ => rfl)) pass0 (pk_cons (pv 2) (pk_cons (pv 1) pk_nil))))
        (pss_cons (ps_if (pt_not (pt_val (pe_call (ok__law_may T) (hr.mono (by decide)) rfl T.m__law_may T.F__law_may.kp (b__law_may T) .nil pass0 (pa_cons (pv 1) (pa_cons (pv 2) (pa_cons (pv 6) pa_nil)))))) (pss_one (ps_ret (pe_bl))) pss_nil)
        (pss_cons (ps_for PassesOwn.never rfl (u_list (K := K) rfl (pe_call (ok__law_near T) (hr.mono (by decide)) rfl T.m__law_near T.F__law_near.kp (b__law_near T) .nil pass0 (pa_cons (pv 0) (pa_cons (pv 6) pa_nil)))) (pg_name (i := 7) sc__law_right.nd rfl (Or.inl rfl)) (pss_one (ps_if (pt_cmpR (op_uNe (K := K) rfl hu64) (pe_callB (QD.call_rep (K := K) rfl hgd hu64) (by rfl) T.n_repr (by decide +kernel) (pa_cons (KW.pe_callK0 (ok_shows_heights T) (hr.mono (by decide)) (by rfl) T.m_shows_heights T.F_shows_heights.kp (KW.kb0 (ks := ["value", "size", "values"]) T.F_shows_heights [2, 1, 0] (fun _ _ _ _ _ _ us hl => match us, hl with | [_, _, _], _ => rfl)) pass0 (pk_cons (pv 7) (pk_cons (pv 2) (pk_cons (pv 1) pk_nil)))) pa_nil)) (pe_callB (QD.call_rep (K := K) rfl hgd hu64) (by rfl) T.n_repr (by decide +kernel) (pa_cons (pe_call (ok__law_may T) (hr.mono (by decide)) rfl T.m__law_may T.F__law_may.kp (b__law_may T) .nil pass0 (pa_cons (pv 1) (pa_cons (pv 2) (pa_cons (pv 7) pa_nil)))) pa_nil)) (nomark _)) (pss_one (ps_ret (pe_bl))) pss_nil)))
        (pss_one (ps_ret (pe_bl)))))))), ?_⟩
    walk_at "st"
    walk_at "go"
    refine ⟨p, 16, n + 48, rfl, by decide, hp.le (by omega), fun b ns H1 nb hb hl hn hp1 s1 => ?_⟩
    obtain ⟨row, R⟩ := Row.ex ns
    have bp : b ≠ p := by
      obtain ⟨_, _, _, q, _⟩ := hp1
      exact ne_of hb q (by intro z; cases z)
    walk_at "go"
    refine ⟨p, 5, n + 47, rfl, by decide, by decide, hp1.le (by omega), fun r H2 r0 r1 hp2 s2 => ?_⟩
    obtain ⟨k, ek⟩ : ∃ k : Nat, (k : Int) = 1 + r := ⟨(1 + r).toNat, by omega⟩
    have hb2 := s2 _ _ hb bp
    walk_at "go"
    refine ⟨Nat.le_of_ble_eq_true rfl, fun tt ntt => ?_⟩
    refine U.g_gtup (SqT.of upd_same) rfl ?_
    have stt := U.same_new (o := .tup [.ref b, .int (1 + r)]) ntt
    generalize upd H2 tt (.tup [.ref b, .int (1 + r)]) = H3 at stt ⊢
    walk_at "go"
    rw [← ek]
    have hb3 := stt _ _ hb2
    have s13 := (s1.trans s2).trans (SB.of stt)
    have hp3 := hp2.same stt
    have tb3 : LamX.Tabs (lamT__law_right K) H3 := LX.Tabs.sb ht s13 hp
    refine ⟨b, ns, row, k, rfl, Or.inr (SqT.of hb3), by omega, R, by omega, by omega, fun H4 s4 => ?_⟩
    have tb4 := tb3.ext s4
    have hb4 := s4 _ _ hb3
    have hp4 := hp3.same s4
    have s14 := s13.trans (SB.of s4)
    have rl := R.len
    by_cases hc : ns.length = 0 ∨ k ≤ ns.length
    case neg =>
      have eF : F (cs (rowF row)) k row.length = none := by
        rw [rl]
        cases e : F (cs (rowF row)) k ns.length with
        | none => rfl
        | some v =>
          obtain ⟨b', u, h1, _⟩ := F_mem (show 1 ≤ k by omega) (by omega) e
          exact absurd (Or.inr (by omega)) hc
      rw [eF]
      walk_at "go"
      rw [if_pos (show decide (oV none = V.non) = true by rfl)]
      walk_at "go"
      refine ⟨tb4, ?_⟩
      intro f1 c1 H5 x5 n5 tb5 nf1 hf1 hc1
      walk_at "go"
      refine ⟨Nat.le_of_ble_eq_true rfl, fun l nl => ?_⟩
      have sl := U.same_new (o := .lst [.ref f1]) nl
      have hl6 : upd H5 l (.lst [.ref f1]) l = some (.lst [.ref f1]) := upd_same
      generalize upd H5 l (.lst [.ref f1]) = H6 at sl hl6 ⊢
      have tb6 := tb5.ext sl
      walk_at "go"
      refine ⟨tb6, ?_⟩
      intro f2 c2 H7 x7 n7 tb7 nf2 hf2 hc2
      walk_at "go"
      have hl7 := x7 _ _ hl6 (by intro ps z; cases z)
      refine U.g_appL hl7 (Nat.le_of_ble_eq_true rfl) ?_
      have tb8 : LamX.Tabs (lamT__law_right K) (upd H7 l (.lst ([.ref f1] ++ [.ref f2]))) := LX.Tabs.put tb7 hl7
      have hl8 : (upd H7 l (.lst ([.ref f1] ++ [.ref f2]))) l = some (.lst [.ref f1, .ref f2]) := upd_same
      have kp : ∀ {a : Addr} {o : HO}, H7 a = some o → (∀ xs, o ≠ .lst xs) → (upd H7 l (.lst ([.ref f1] ++ [.ref f2]))) a = some o := fun {a o} e n => by
        refine (upd_ne fun z => ?_).trans e
        rw [z, hl7] at e
        exact n _ (Option.some.inj e).symm
      have hf1' := kp (x7 _ _ (sl _ _ hf1) (fun ps => LX.lamO_ne ps)) (by intro xs z; cases z)
      have hc1' := kp (x7 _ _ (sl _ _ hc1) (by intro ps z; cases z)) (by intro xs z; cases z)
      have hf2' := kp hf2 (by intro xs z; cases z)
      have hc2' := kp hc2 (by intro xs z; cases z)
      have hb8 := kp (x7 _ _ (sl _ _ (x5 _ _ hb4 (by intro ps z; cases z))) (by intro ps z; cases z)) (by intro xs z; cases z)
      have nl4 : H4 l = none := n5 _ nl
      have s48 : LX.SBN p H4 (upd H7 l (.lst ([.ref f1] ++ [.ref f2]))) := fun a o e n t => (upd_ne (ne_of_none e nl4)).trans (x7 _ _ (sl _ _ (x5 _ _ e t)) t)
      have hp8 : PotAt (upd H7 l (.lst ([.ref f1] ++ [.ref f2]))) p n := by
        obtain ⟨o', s', k', q1, q2⟩ := hp4.le (show n ≤ n + 47 by omega)
        exact ⟨o', s', k', (upd_ne (ne_of_none q1 nl4)).trans (x7 _ _ (sl _ _ (x5 _ _ q1 (by intro ps z; cases z))) (by intro ps z; cases z)), q2⟩
      have s18 := (LX.SBN.of s14).trans s48
      clear kp hl7 x7 n7 tb7 hf2 hc2 nf2 hf1 hc1 tb6 tb5 sl hl6 x5 n5 nf1 nl
      generalize upd H7 l (.lst ([.ref f1] ++ [.ref f2])) = H8 at *
      walk_at "go"
      refine e_list (SqL.of hl8) ?_
      refine forI_by (walk_list (K := K) (a := l) (xs := [.ref f1, .ref f2])) (fun i σ' H' => ∃ (v4 : Option V), σ' = [some (.ref p), some (.ref b), some (.int (k : Int)), some (.ref l), v4, none, none, none] ∧ Same H8 H') ⟨none, rfl, Same.refl _⟩ (fun i σ' H' _ ⟨_, _, s⟩ => SqL.of (s _ _ hl8)) ?ts ?td
      case td =>
        rintro σ' H' ⟨v4, rfl, s'⟩
        walk_at "go"
        exact kk _ (hp8.same s') (s18.trans (LX.SBN.of (SB.of s'))) (tb8.ext s')
      case ts =>
        rintro i y σ' _ H' hi ⟨v4, rfl, s'⟩ ⟨rfl, ey⟩
        have hy : y = .ref f1 ∨ y = .ref f2 := by
          have := List.mem_of_getElem? ey
          simpa using this
        rcases hy with rfl | rfl
        · walk_at "go"
          refine Or.inl ⟨f1, c1, rfl, s' _ _ hf1', s' _ _ hc1', ?_⟩
          unfold tCallS
          walk_at "go"
          refine ⟨b, ns, k, rfl, s' _ _ hb8, by omega, hn, by omega, by omega, by omega, by omega, fun d H9 s9 hd => ?_⟩
          refine ⟨true, T.x_NoCrowds, fun _ e ne => ?_, fun z => Bool.noConfusion z⟩
          walk_at "go"
          refine ⟨_, rfl, rfl, rfl, d, _, _, rfl, hd, lk_fst, ?_⟩
          walk_at "go"
          refine rep_I (by omega) (by omega) ?_
          walk_at "go"
          refine U.g_lenL (Or.inr (SqT.of (s9 _ _ (s' _ _ hb8)))) ?_
          rw [List.length_map]
          walk_at "go"
          refine rep_I (by omega) (by omega) ?_
          walk_at "go"
          refine LX.ite_no (LX.ne_refl _) ?_
          walk_at "go"
          exact ⟨_, rfl, s'.trans s9⟩
        · walk_at "go"
          refine Or.inr ⟨f2, c2, rfl, s' _ _ hf2', s' _ _ hc2', ?_⟩
          unfold tCallS
          walk_at "go"
          refine ⟨Nat.le_of_ble_eq_true rfl, fun z nz => ?_⟩
          have sz := U.same_new (o := .tup [.int 0]) nz
          generalize upd H' z (.tup [.int 0]) = Hz at sz ⊢
          walk_at "go"
          refine ⟨b, ns, k, rfl, sz _ _ (s' _ _ hb8), by omega, hn, by omega, by omega, by omega, by omega, fun d H9 s9 hd => ?_⟩
          refine ⟨true, T.x_NoCrowds, fun _ e ne => ?_, fun z => Bool.noConfusion z⟩
          walk_at "go"
          refine ⟨_, rfl, rfl, rfl, d, _, _, rfl, hd, lk_fst, ?_⟩
          walk_at "go"
          refine rep_I (by omega) (by omega) ?_
          walk_at "go"
          refine U.g_lenL (Or.inr (SqT.of (s9 _ _ (sz _ _ (s' _ _ hb8))))) ?_
          rw [List.length_map]
          walk_at "go"
          refine rep_I (by omega) (by omega) ?_
          walk_at "go"
          refine LX.ite_no (LX.ne_refl _) ?_
          walk_at "go"
          exact ⟨_, rfl, s'.trans (sz.trans s9)⟩
    obtain ⟨u, eu⟩ := F_one (c := cs (rowF row)) (show 1 ≤ k by omega) (show row.length = 0 ∨ k ≤ row.length by rw [rl]; exact hc)
    rw [eu]
    walk_at "go"
    rw [if_neg (show ¬ decide (oV (some u) = V.non) = true by intro z; cases z)]
    walk_at "go"
    refine ⟨rfl, b, ns, row, k, rfl, hb4, by omega, hn, R, by omega, by omega, hc, fun q zs H5 nq s5 hq hz => ?_⟩
    have lz : zs.length = row.length + 1 := hz.1
    walk_at "go"
    refine ⟨b, ns, row, k, .ref q, some (zs.map V.int), rfl, s5 _ _ hb4, by omega, R, by omega, by omega, hc, ⟨q, rfl, hq, plain_ints zs, by rw [List.length_map]; omega⟩, fun c H6 s6 hcc => ?_⟩
    have ct : c = true := hcc.mpr ⟨zs, rfl, hz⟩
    subst ct
    refine ⟨_, rfl, ?_⟩
    rw [if_neg (show ¬ (!true) = true by decide)]
    walk_at "go"
    have hq6 := s6 _ _ hq
    have s46 := s5.trans s6
    have hb6 := s46 _ _ hb4
    refine ⟨p, q, zs, n, rfl, hq6, by omega, by omega, (hp4.same s46).le (by omega), fun l ws H7 nl hl wl hw hp7 s7 => ?_⟩
    walk_at "go"
    refine e_list (SqL.of hl) ?_
    have s14' := (s14.trans (SB.of s46)).trans s7
    have hb7 := s7 _ _ hb6 bp
    refine forI_by (walk_list (K := K) (a := l) (xs := ws)) (fun i σ' H' => ∃ (v7 : Option V), σ' = [some (.ref p), some (.ref b), some (.int (k : Int)), none, none, none, some (.ref q), v7] ∧ Same H7 H') ⟨none, rfl, Same.refl _⟩ (fun i σ' H' _ ⟨_, _, s⟩ => SqL.of (s _ _ hl)) ?ts2 ?td2
    case td2 =>
      rintro σ' H' ⟨v7, rfl, s'⟩
      walk_at "go"
      have tb : LamX.Tabs (lamT__law_right K) H' := (LX.Tabs.sb (tb4.ext s46) s7 (hp4.same s46)).ext s'
      exact kk _ (hp7.same s') (LX.SBN.of (s14'.trans (SB.of s'))) tb
    case ts2 =>
      rintro i y σ' _ H' hi ⟨v7, rfl, s'⟩ ⟨rfl, ey⟩
      obtain ⟨o, ho⟩ := HvN.at (K := K) ((hw y (List.mem_of_getElem? ey)).mono (SB.of s'))
      walk_at "go"
      refine ⟨rfl, b, ns, row, k, y, o, rfl, s' _ _ hb7, by omega, hn, R, by omega, by omega, hc, ho, fun c1 H8 s8 hc1 => ?_⟩
      walk_at "go"
      refine rep_B ?_
      walk_at "go"
      refine ⟨b, ns, row, k, y, o, rfl, s8 _ _ (s' _ _ hb7), by omega, R, by omega, by omega, hc, ho.same s8, fun c2 H9 s9 hc2 => ?_⟩
      have ec : c2 = c1 := Bool.eq_iff_iff.mpr (hc2.trans hc1.symm)
      subst ec
      walk_at "go"
      refine rep_B ?_
      walk_at "go"
      refine LX.ite_no (LX.ne_refl _) ?_
      walk_at "go"
      exact ⟨_, rfl, (s'.trans s8).trans s9⟩
end
end Toy

namespace Toy
open PySem PySem.Spec PyProof.Rows L2 U M LM G QD KW LM8 EX
section
variable {P : Program} {w : World} {K : PySem.W.Frag} {mg : Str → Option Value} {base : Heap}
theorem sc_law : FnScope ["script", "place", "pot", "lap"] ["script"] (defScope s_law) := ⟨rfl, rfl, rfl, by decide +kernel, rfl, by decide +kernel, by decide +kernel⟩
def sp_law (K : PySem.W.Frag) : Sp := fun vs H Q _ => ∃ (a : Addr) (ns : List Int), vs = [.ref a] ∧ SqL K H a (ns.map V.int) ∧ ns.length ≤ 63 ∧ (∀ y ∈ mkL, H (LX.ptab K y) = some (.tbl #[])) ∧ ∀ H', Q (.bl true) H'
theorem ok_law (T : Tx K mg) (B : LamT base T) : FnG P w K mg base 9 T.a_law T.fd_law ["script"] (sp_law K) := by
  refine okG T.F_law sc_law (fun vs H Q E h => ?_) (fun cdv A outer s H vs Q E hr hgd h => ?_)
  · obtain ⟨a, ns, rfl, _⟩ := h
    rfl
  · obtain ⟨a, ns, rfl, ha, hl, tb, kk⟩ := h
    have hu := hu_of hr
    have hu64 := hr.units
    refine ⟨_, (pss_cons (ps_for PassesOwn.never rfl (u_list (K := K) rfl (pe_call (ok__law_cells T) (hr.mono (by decide)) rfl T.m__law_cells T.F__law_cells.kp (b__law_cells T) .nil pass0 (pa_cons (pv 0) (pa_cons (pe_int) pa_nil)))) (pg_name (i := 1) sc_law.nd rfl (Or.inl rfl)) (pss_cons (ps_set (i := 2) sc_law.nd rfl (Or.inr rfl) (pe_call (ok__law_pot T) (hr.mono (by decide)) rfl T.m__law_pot T.F__law_pot.kp (b__law_pot T) .nil pass0 (pa_cons (pv 0) (pa_cons (pv 1) pa_nil))))
        (pss_one (ps_if (pt_not (pt_val (pe_callB (call_uAll (K := K) rfl rfl) (by rfl) T.n_all (by decide +kernel) (pa_cons (pe_lc rfl sc_law.nd (pi_range1 (by rfl) T.n_range (pa_cons (pe_int) pa_nil)) (blkOk_by (own := [("lap", 3)]) (N := ["script", "place", "pot", "lap"]) (sc := defScope s_law) (by decide +kernel)) (fun _ _ _ _ _ => (pg_name (i := 3) sc_law.nd rfl (Or.inl rfl))) (fun _ _ _ _ _ => pts_nil) (fun _ _ _ _ _ => (G.pe_callG (ok__law_right T B) (hr.mono (by decide)) hgd rfl T.m__law_right T.F__law_right.kp (b__law_right T) .nil (pa_cons (pv 2) pa_nil)))) pa_nil)))) (pss_one (ps_ret (pe_bl))) pss_nil))))
        (pss_one (ps_ret (pe_bl)))), ?_⟩
    have t0 : LamX.Tabs (lamT__law_right K) H := fun q hq => by
      rw [List.mem_singleton.mp hq]
      exact LamX.TabS.nil (tb _ (by simp [mkL]))
    walk_at "st"
    walk_at "go"
    refine ⟨a, ns, 2, rfl, ha, hl, by decide, by decide, fun q c nq c1 c2 => ?_⟩
    have sq := U.same_new (o := .lst (rgV 0 c)) nq
    have rl : (rgV 0 c).length = c := by simp [rgV]
    have hq : (upd H q (.lst (rgV 0 c))) q = some (.lst (rgV 0 c)) := upd_same
    generalize upd H q (.lst (rgV 0 c)) = H1 at sq hq ⊢
    have t1 := t0.ext sq
    refine e_list (SqL.of hq) ?_
    refine forI_by (walk_list (K := K) (a := q) (xs := rgV 0 c)) (fun i σ' H' => ∃ (v1 v2 v3 : Option V), σ' = [some (.ref a), v1, v2, v3] ∧ LamX.ExtN H1 H' ∧ LamX.Tabs (lamT__law_right K) H') ⟨none, none, none, rfl, LamX.ExtN.refl _, t1⟩ (fun i σ' H' _ ⟨_, _, _, _, s, _⟩ => SqL.of (s _ _ hq (by intro ps z; cases z))) ?ts ?td
    case td =>
      rintro σ' H' ⟨v1, v2, v3, rfl, s', t'⟩
      walk_at "go"
      exact kk _
    case ts =>
      rintro i y σ' _ H' hi ⟨v1, v2, v3, rfl, s', t'⟩ ⟨rfl, ey⟩
      obtain ⟨z, z0, z1, rfl⟩ : ∃ z : Int, 0 ≤ z ∧ z ≤ 100 ∧ y = .int z := by
        have hx := List.mem_of_getElem? ey
        simp only [rgV, List.mem_map, List.mem_range] at hx
        obtain ⟨j, hj, rfl⟩ := hx
        exact ⟨_, by omega, by omega, rfl⟩
      walk_at "go"
      have seqA : SqL K H' a (ns.map V.int) := LX.seqN s' (sq.seq ha)
      refine ⟨a, ns, z, rfl, seqA, z0, z1, fun p H3 np s3 pot => ?_⟩
      have t3 := t'.ext s3
      walk_at "go"
      refine e_rng (by omega) (by omega) ?_
      refine lcI_by walk_range (by decide) fun Ea nE => ⟨fun i acc H5 => acc = ((List.range i).map fun _ => true).map V.bl ∧ PotAt H5 p (900000 - 101 * i) ∧ LX.SBN p H3 H5 ∧ LamX.Tabs (lamT__law_right K) H5, ⟨rfl, (pot.new nE).le (by omega), LX.SBN.of (SB.of (U.same_new nE)), t3.ext (U.same_new nE)⟩, fun _ _ _ _ _ => trivial, ?turn, fun acc H5 hE ⟨e, pot5, s5, t5⟩ => ?rest⟩
      case turn =>
        rintro i x acc H5 _ A B hi hE ⟨rfl, pot5, s5, t5⟩ ⟨rfl, rfl⟩ kA kB
        have hi : i < 3 := by omega
        have Ep : Ea ≠ p := pot_ne pot nE
        walk_at "go"
        refine ⟨rfl, ?_⟩
        walk_at "go"
        refine ⟨p, 900000 - 101 * (i + 1), rfl, pot5.le (by omega), t5, fun H6 pot6 s6 t6 => ?_⟩
        have hE6 := s6 _ _ hE Ep (by intro ps z; cases z)
        refine kA _ _ hE6 ⟨?_, pot6.put (Ne.symm Ep), fun b o e n t => (upd_ne (ne_of_none e nE)).trans (s6 _ _ (s5 _ _ e n t) n t), LX.Tabs.put t6 hE6⟩
        rw [List.range_succ, List.map_append, List.map_append]
        rfl
      case rest =>
        subst e
        walk_at "go"
        refine U.g_allB (SqL.of hE) ?_
        rw [show (((List.range (3 : Int).toNat).map fun _ => true).all id) = true by decide]
        walk_at "go"
        exact ⟨_, _, _, rfl, fun c o e n => s5 c o (s3 c o (s' c o e n)) (ne_of_none (s' c o e n) np) n, t5⟩
end
end Toy

namespace Toy
open PySem PySem.Spec L2 U M QD G
theorem finX {l : PySem.W.OpenLaw} {w : World} {K : PySem.W.Frag} {mg : Str → Option Value} {fa : Addr} {h : Heap} (hfa : mg "law" = some (.ref fa)) (KX : K.In h) (GN : h.Ns mainGlobals mg) (ls : ∀ y ∈ mkL, LX.LamSays K h y) (t : Nonempty (Tx K mg)) :
    ∃ fd : FuncData, (∀ (s : Shared) (u : Value), BindsTo s fd ⟨[u], []⟩ [("script", u)]) ∧ ∀ base : Heap, K.In base → base.Ns mainGlobals mg → (∀ y ∈ mkL, LamX.TabB base mg (LX.pcode K y) (LX.ptab K y)) → FnG l.prog w K mg base 9 fa fd ["script"] (sp_law K) := by
  obtain ⟨T⟩ := t
  have e := hfa.symm.trans T.m_law
  cases e
  refine ⟨T.fd_law, ?_, fun base _ _ tb => ok_law T (mk_LamT T KX GN ls tb)⟩
  obtain ⟨oc, od, kV, doc, pm, an, cdv, ct, osl, e, _, _⟩ := T.F_law.ex
  rw [e]
  exact fun s v => .of_eq rfl
end Toy


open PySem PySem.W PySem.Calls PyProof.Rows
theorem PySem.Challenge.cw_alikecrowds_k23_whole_heights_that_bar_l_holds : PySem.Challenge.rw_alikecrowds_k23_whole_heights_that_bar_l.Holds := by
  w_on; o_law
  refine HandSHeadRun.head_any (r := OpenLaw.row PySem.Challenge.rw_alikecrowds_k23_whole_heights_that_bar_l) (q := Toy.vw) (H := Toy.hk) (ob := Toy.ob) (M := 12000) (loose := Toy.looseL) (d := HandSHeadRun.topDef (OpenLaw.row PySem.Challenge.rw_alikecrowds_k23_whole_heights_that_bar_l).prog 34) (kwd := []) Toy.ob_eq
    (by kernel_rfl) (fun s => by kernel_rfl) Toy.run (by kernel_rfl) (by kernel_rfl) (by kernel_rfl) (by rfl) (by first | assumption | decide +kernel) (by decide +kernel) ⟨rfl, rfl, rfl, rfl, rfl, by decide +kernel⟩ ?hw ?hc
  case hw => w_witness2
  case hc =>
    refine LX.walkGT (l := PySem.Challenge.rw_alikecrowds_k23_whole_heights_that_bar_l) (n := 63) (k := 9) (x := "script") (sp := Toy.sp_law) (mk := Toy.mkL) rfl (by decide) (by kernel_rfl) ⟨rfl, by decide, by decide⟩ ?F ?S
    case S => exact fun K H a ns hl hT hS => ⟨a, ns, rfl, hS, hl, hT, fun _ => rfl⟩
    case F =>
      intro w mg fa h Y G hmg0
      obtain ⟨K, KX, c, x, ls⟩ := Y
      have hmg : mg ("law" : PySem.Str) = some (.ref fa) := by
        have e : (HandSHeadRun.topDef (OpenLaw.row PySem.Challenge.rw_alikecrowds_k23_whole_heights_that_bar_l).prog 34).name = ("law" : PySem.Str) := by kernel_rfl
        rw [← e]
        exact hmg0
      obtain ⟨fd, hb, hF⟩ := Toy.finX (l := PySem.Challenge.rw_alikecrowds_k23_whole_heights_that_bar_l) (w := w) hmg KX G ls (Toy.mk_TxX KX G c x)
      exact ⟨K, fd, KX, ls, hb, hF⟩

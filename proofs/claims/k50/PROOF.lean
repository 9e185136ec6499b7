import PyProof.Rows.All
import Wide.All
import OpenK.AllK
import Wide.FinOn
import HandS.ForMost
import HandS.Exc
import HandS.ExcOwn
import HandS.WordsExc
import HandS.IsInst
import HandS.Wide
import HandS.Walk
import HandS.Conv
import HandS.Deep
import HandS.SetKeys
import HandS.ListItems
import HandS.FStr
import HandS.RaiseMore
import HandS.ExcInit
import KE.KExcIs
import HandS.DictComp
import PyProof.ReprRoads
import HandS.Head0
import HandS.Head1
import HandS.Head2
import HandS.HeadHook1
import PySem.Challenge.RW_alikecrowds_k50_errors_keep_any_value
set_option Elab.async false
set_option linter.all false
set_option maxRecDepth 100000
set_option maxHeartbeats 4000000
namespace U
open PySem PySem.Spec PyProof.Rows L2
/-! ### U: one rule for each sign of Python, whatever kinds of values stand beside it -/
section
variable {X : Cx}
theorem u_or {e : Expr} {t u : TE} (h1 : PE X e t) (h2 : PE X e u) : PE X e (fun σ H Q => t σ H Q ∨ u σ H Q) :=
  ⟨fun pins s σ H Q I h => h.elim (h1.run pins s σ H Q I) (h2.run pins s σ H Q I)⟩
theorem u_weak {e : Expr} {t u : TE} (h1 : PE X e t) (w : ∀ σ H Q, u σ H Q → t σ H Q) : PE X e u := ⟨fun pins s σ H Q I h => h1.run pins s σ H Q I (w σ H Q h)⟩
theorem u_constI {x : Str} {i : Int} {pos : Pos} (hg : Gl X x) (h : ∃ t, X.mg x = some (.int i t)) (hd : (x == ("__debug__" : Str)) = false := by decide) : PE X (.Name x pos) (tC (.int i)) := by
  obtain ⟨t, h⟩ := h
  exact pe_glob hg h ⟨t, rfl⟩ hd
theorem u_constS {x : Str} {z : Str} {pos : Pos} (hg : Gl X x) (h : ∃ t, X.mg x = some (.str z t)) (hd : (x == ("__debug__" : Str)) = false := by decide) : PE X (.Name x pos) (tC (.str z)) := by
  obtain ⟨t, h⟩ := h
  exact pe_glob hg h ⟨t, rfl⟩ hd
theorem u_ty {x : Str} {n : String} {pos : Pos} (hg : Gl X x) (hm : X.mg x = none) (hv : bootBuiltins x = some (.type n)) (hn : x ≠ "__name__" := by decide) (hd : (x == ("__debug__" : Str)) = false := by decide) : PE X (.Name x pos) (tC (.ty n)) := pe_bltn hg hm hv rfl hn hd
/-- x + y -/
def uAdd (K : PySem.W.Frag) : R2 := fun x y H Q => match x, y with
  | .int i, .int j => Q (.int (i + j)) H
  | .str i, .str j => i.length + j.length ≤ sizeLine ∧ Q (.str (i ++ j)) H
  | .ref a, .ref b => rCat (.ref a) (.ref b) H Q ∨ rCatT K (.ref a) (.ref b) H Q
  | _, _ => False
theorem op_uAdd0 : OpR X (binaryOp .Add) (uAdd X.K) := by
  intro pins s σ H x y u v Q I rx ry h
  cases x <;> cases y <;> first | exact False.elim h | skip
  case int.int i j => exact op_add pins s σ H _ _ u v Q I rx ry ⟨i, j, rfl, rfl, h⟩
  case str.str i j => exact op_add_str pins s σ H _ _ u v Q I rx ry ⟨i, j, rfl, rfl, h.1, h.2⟩
  case ref.ref a b => exact (OpR.or op_cat op_catT) pins s σ H _ _ u v Q I rx ry h
/-- x * y, x // y, x ** y -/
def uMul : R2 := fun x y H Q => match x, y with
  | .int i, .int j => (CMul i j ∨ CMulW i j) ∧ Q (.int (i * j)) H
  | _, _ => False
theorem op_uMul : OpR X (binaryOp .Mult) uMul := by
  intro pins s σ H x y u v Q I rx ry h
  cases x <;> cases y <;> first | exact False.elim h | skip
  case int.int i j =>
    rcases h.1 with c | c
    · exact op_mul pins s σ H _ _ u v Q I rx ry ⟨i, j, rfl, rfl, c, h.2⟩
    · exact op_mulW pins s σ H _ _ u v Q I rx ry ⟨i, j, rfl, rfl, c, h.2⟩
def uDiv : R2 := fun x y H Q => match x, y with
  | .int i, .int j => CDivW i j ∧ Q (.int (i / j)) H
  | _, _ => False
theorem op_uDiv : OpR X (binaryOp .FloorDiv) uDiv := by
  intro pins s σ H x y u v Q I rx ry h
  cases x <;> cases y <;> first | exact False.elim h | skip
  case int.int i j => exact op_fdivW pins s σ H _ _ u v Q I rx ry ⟨i, j, rfl, rfl, h.1, h.2⟩
def uMod : R2 := fun x y H Q => match x, y with
  | .int i, .int j => 0 < j ∧ Q (.int (i % j)) H
  | _, _ => False
theorem op_uMod : OpR X (binaryOp .Mod) uMod := by
  intro pins s σ H x y u v Q I rx ry h
  cases x <;> cases y <;> first | exact False.elim h | skip
  case int.int i j => exact op_mod pins s σ H _ _ u v Q I rx ry ⟨i, j, rfl, rfl, h.1, h.2⟩
def uPow : R2 := fun x y H Q => match x, y with
  | .int i, .int j => (0 ≤ j ∧ (Builtin.Int.intBits i : Int) * j ≤ 2 ^ 27) ∧ Q (.int (i ^ j.toNat)) H
  | _, _ => False
theorem op_uPow : OpR X (binaryOp .Pow) uPow := by
  intro pins s σ H x y u v Q I rx ry h
  cases x <;> cases y <;> first | exact False.elim h | skip
  case int.int i j =>
    obtain ⟨t, rfl⟩ := rx
    obtain ⟨t', rfl⟩ := ry
    exact pow_int h.1.1 h.1.2 ⟨.int (i ^ j.toNat), H, I.tok _, ⟨_, rfl⟩, h.2⟩
def uSub : R2 := fun x y H Q => match x, y with
  | .int i, .int j => Q (.int (i - j)) H
  | _, _ => False
theorem op_uSub : OpR X (binaryOp .Sub) uSub := by
  intro pins s σ H x y u v Q I rx ry h
  cases x <;> cases y <;> first | exact False.elim h | skip
  case int.int i j => exact op_sub pins s σ H _ _ u v Q I rx ry ⟨i, j, rfl, rfl, h⟩
def uNeg : V → Hp → VK → Prop := fun x H Q => match x with
  | .int i => Q (.int (-i)) H
  | _ => False
theorem op_uNeg : UnR X (unaryOp .USub) uNeg := by
  intro pins s σ H x v Q I rx h
  cases x <;> first | exact False.elim h | skip
  case int i => exact un_neg pins s σ H _ v Q I rx ⟨i, rfl, h⟩
/-- comparisons of whole numbers -/
def uCmp (p : Int → Int → Bool) : R2 := fun x y H Q => match x, y with
  | .int i, .int j => Q (.bl (p i j)) H
  | _, _ => False
theorem op_uLt : OpR X (compareOp .Lt) (uCmp fun i j => decide (i < j)) := by
  intro pins s σ H x y u v Q I rx ry h
  cases x <;> cases y <;> first | exact False.elim h | skip
  case int.int i j => exact op_lt pins s σ H _ _ u v Q I rx ry ⟨i, j, rfl, rfl, h⟩
theorem op_uLe : OpR X (compareOp .LtE) (uCmp fun i j => decide (i ≤ j)) := by
  intro pins s σ H x y u v Q I rx ry h
  cases x <;> cases y <;> first | exact False.elim h | skip
  case int.int i j => exact op_le pins s σ H _ _ u v Q I rx ry ⟨i, j, rfl, rfl, h⟩
theorem op_uGt : OpR X (compareOp .Gt) (uCmp fun i j => decide (j < i)) := by
  intro pins s σ H x y u v Q I rx ry h
  cases x <;> cases y <;> first | exact False.elim h | skip
  case int.int i j => exact op_gt pins s σ H _ _ u v Q I rx ry ⟨i, j, rfl, rfl, h⟩
theorem op_uGe : OpR X (compareOp .GtE) (uCmp fun i j => decide (j ≤ i)) := by
  intro pins s σ H x y u v Q I rx ry h
  cases x <;> cases y <;> first | exact False.elim h | skip
  case int.int i j => exact op_ge pins s σ H _ _ u v Q I rx ry ⟨i, j, rfl, rfl, h⟩
/-- x == y: scalars, else data at any depth -/
def uEq (K : PySem.W.Frag) (neg : Bool) : R2 := fun x y H Q =>
  (scal x y = true ∧ Q (.bl (if neg then !decide (x = y) else decide (x = y))) H) ∨ (∃ d e, Dp K H x d ∧ Dp K H y e ∧ SeqAt.shaped d = true ∧ SeqAt.shaped e = true ∧ Q (.bl (if neg then !PyData.eqv d e else PyData.eqv d e)) H)
theorem op_uEq0 (hu : X.A.units + 64 < cLine) : OpR X (compareOp .Eq) (uEq X.K false) := OpR.or op_eq (op_eqD hu)
theorem op_uNe0 (hu : X.A.units + 64 < cLine) : OpR X (compareOp .NotEq) (uEq X.K true) := OpR.or op_ne (op_neD hu)
/-- x[i] of a list, a tuple, a text -/
def uIx (K : PySem.W.Frag) : R2 := fun x y H Q => match x, y with
  | .ref p, .int i => (∃ xs v, (SqL K H p xs ∨ SqT K H p xs) ∧ atI xs i = some v ∧ Q v H)
  | .str z, .int i => z.length ≤ sizeLine ∧ ∃ c, atI z.cps.toList i = some c ∧ Q (.str ⟨#[c]⟩) H
  | _, _ => False
theorem ix_u0 : IxR X (uIx X.K) := by
  intro ea eb pins s σ H x y u v Q I rx ry h hs
  cases x <;> cases y <;> first | exact False.elim h | skip
  case ref.int p i =>
    obtain ⟨xs, v', h1 | h1, h2, q⟩ := h
    · exact ix_seq ea eb pins s σ H _ _ u v Q I rx ry (Or.inl ⟨p, xs, i, v', rfl, rfl, h1, h2, q⟩) hs
    · exact ix_seq ea eb pins s σ H _ _ u v Q I rx ry (Or.inr (Or.inl ⟨p, xs, i, v', rfl, rfl, h1, h2, q⟩)) hs
  case str.int z i =>
    obtain ⟨h1, c, h2, q⟩ := h
    exact ix_seq ea eb pins s σ H _ _ u v Q I rx ry (Or.inr (Or.inr ⟨z, i, c, rfl, rfl, h1, h2, q⟩)) hs
/-- x[lo:hi] -/
def uSl (K : PySem.W.Frag) : V → Option Int → Option Int → Hp → VK → Prop := fun x lo hi H Q => match x with
  | .ref a => (∃ xs, SqL K H a xs ∧ ∀ p, H p = none → Q (.ref p) (upd H p (.lst (cutV xs lo hi)))) ∨ rSlT K (.ref a) lo hi H Q
  | .str z => z.length ≤ sizeLine ∧ Q (.str (cutS z lo hi)) H
  | _ => False
theorem sl_u0 : SlR X (uSl X.K) := by
  intro pins s σ H x v vl vu lo hi sl Q I rx hs pl pu h
  cases x <;> first | exact False.elim h | skip
  case ref a =>
    rcases h with ⟨xs, h1, h2⟩ | h
    · exact sl_list pins s σ H _ v vl vu lo hi sl Q I rx hs pl pu ⟨a, xs, rfl, h1, h2⟩
    · exact sl_tup pins s σ H _ v vl vu lo hi sl Q I rx hs pl pu h
  case str z => exact sl_str pins s σ H _ v vl vu lo hi sl Q I rx hs pl pu ⟨z, rfl, h.1, h.2⟩
/-- len(x) -/
def uLen (K : PySem.W.Frag) : List V → Hp → VK → Prop := fun xs H Q => match xs with
  | [.str z] => z.length ≤ sizeLine ∧ Q (.int z.length) H
  | [.ref p] => (∃ ys, (SqL K H p ys ∨ SqT K H p ys) ∧ Q (.int ys.length) H) ∨ ∃ kvs, H p = some (.dK kvs) ∧ Q (.int kvs.length) H
  | _ => False
theorem call_uLen0 : CallR X (.builtin "len") (uLen X.K) := by
  intro pins s σ H xs us Q I r h
  match xs, h with
  | [.str z], h => exact call_len_str pins s σ H _ us Q I r ⟨z, rfl, h.1, h.2⟩
  | [.ref p], h =>
    rcases h with ⟨ys, h1, h2⟩ | ⟨kvs, h1, h2⟩
    · exact call_len_seq pins s σ H _ us Q I r ⟨p, ys, rfl, h1, h2⟩
    · exact call_lenD pins s σ H _ us Q I r ⟨p, kvs, rfl, h1, h2⟩
/-- int(x) -/
def uInt : List V → Hp → VK → Prop := fun xs H Q => match xs with
  | [.int i] => Q (.int i) H
  | [.bl k] => Q (.int (if k then 1 else 0)) H
  | [.str a] => ∃ n, PySem.intText? a = some n ∧ a.length ≤ 640 ∧ Q (.int n) H
  | _ => False
theorem call_uInt : CallR X (.type "int") uInt := by
  intro pins s σ H xs us Q I r h
  match xs, h with
  | [.int i], h => exact call_int1 pins s σ H _ us Q I r (Or.inl ⟨i, rfl, h⟩)
  | [.bl k], h => exact call_int1 pins s σ H _ us Q I r (Or.inr ⟨k, rfl, h⟩)
  | [.str a], ⟨n, h1, h2, q⟩ => exact call_int_str pins s σ H _ us Q I r ⟨a, n, rfl, h1, h2, q⟩
/-- str(x) -/
def uStr : List V → Hp → VK → Prop := fun xs H Q => match xs with
  | [.int i] => i.natAbs.log2 < 1920 ∧ Q (.str (toString i)) H
  | [.str a] => Q (.str a) H
  | _ => False
theorem call_uStr : CallR X (.type "str") uStr := by
  intro pins s σ H xs us Q I r h
  match xs, h with
  | [.int i], h => exact call_str_int pins s σ H _ us Q I r ⟨i, rfl, h.1, h.2⟩
  | [.str a], h => exact SkE.call_str_str pins s σ H _ us Q I r ⟨a, rfl, h⟩
/-- tuple(x), list(x) -/
def uTupC (K : PySem.W.Frag) : List V → Hp → VK → Prop := fun xs H Q => match xs with
  | [.ref p] => (∃ ys, SqL K H p ys ∧ ∀ l, H l = none → Q (.ref l) (upd H l (.tup ys))) ∨ (∃ ys, SqT K H p ys ∧ Q (.ref p) H)
  | _ => False
theorem call_uTuple0 : CallR X (.type "tuple") (uTupC X.K) := by
  intro pins s σ H xs us Q I r h
  match xs, h with
  | [.ref p], h =>
    rcases h with ⟨ys, h1, h2⟩ | ⟨ys, h1, h2⟩
    · exact call_tuple_of pins s σ H _ us Q I r ⟨p, ys, rfl, Or.inl ⟨h1, h2⟩⟩
    · exact call_tuple_of pins s σ H _ us Q I r ⟨p, ys, rfl, Or.inr ⟨h1, h2⟩⟩
def uLstC (K : PySem.W.Frag) : List V → Hp → VK → Prop := fun xs H Q => match xs with
  | [.ref p] => ∃ ys, (SqL K H p ys ∨ SqT K H p ys) ∧ ∀ l, H l = none → Q (.ref l) (upd H l (.lst ys))
  | _ => False
theorem call_uList0 : CallR X (.type "list") (uLstC X.K) := by
  intro pins s σ H xs us Q I r h
  match xs, h with
  | [.ref p], ⟨ys, h1, h2⟩ => exact call_list_of pins s σ H _ us Q I r ⟨p, ys, rfl, h1, h2⟩
/-- abs(i) -/
def uAbs : List V → Hp → VK → Prop := fun xs H Q => match xs with
  | [.int i] => Q (.int (if i < 0 then -i else i)) H
  | _ => False
theorem call_uAbs : CallR X (.builtin "abs") uAbs := by
  intro pins s σ H xs us Q I r h
  match xs, h with
  | [.int i], h => exact call_abs pins s σ H _ us Q I r ⟨i, rfl, h⟩
/-- min(i, j), max(i, j) -/
def uMM (f : Int → Int → Int) : List V → Hp → VK → Prop := fun xs H Q => match xs with
  | [.int i, .int j] => Q (.int (f i j)) H
  | _ => False
theorem call_uMin (hc : X.calm = true) : CallR X (.builtin "min") (uMM fun i j => if j < i then j else i) := by
  intro pins s σ H xs us Q I r h
  match xs, h with
  | [.int i, .int j], h => exact call_min2 hc pins s σ H _ us Q I r ⟨i, j, rfl, h⟩
theorem call_uMax (hc : X.calm = true) : CallR X (.builtin "max") (uMM fun i j => if j > i then j else i) := by
  intro pins s σ H xs us Q I r h
  match xs, h with
  | [.int i, .int j], h => exact call_max2 hc pins s σ H _ us Q I r ⟨i, j, rfl, h⟩
end
section
variable {X : Cx} {K : PySem.W.Frag}
/-! the same, K named: within a comprehension -/
theorem op_uAdd (hK : X.K = K) : OpR X (binaryOp .Add) (uAdd K) := by subst hK; exact op_uAdd0
theorem ix_u (hK : X.K = K) : IxR X (uIx K) := by subst hK; exact ix_u0
theorem sl_u (hK : X.K = K) : SlR X (uSl K) := by subst hK; exact sl_u0
theorem call_uLen (hK : X.K = K) : CallR X (.builtin "len") (uLen K) := by subst hK; exact call_uLen0
theorem op_uEq (hK : X.K = K) (hu : X.A.units + 64 < cLine) : OpR X (compareOp .Eq) (uEq K false) := by subst hK; exact op_uEq0 hu
theorem op_uNe (hK : X.K = K) (hu : X.A.units + 64 < cLine) : OpR X (compareOp .NotEq) (uEq K true) := by subst hK; exact op_uNe0 hu
theorem op_uIn (hK : X.K = K) : OpR X (compareOp .In) (rIn K false) := by subst hK; exact op_in_seq
theorem op_uNotIn (hK : X.K = K) : OpR X (compareOp .NotIn) (rIn K true) := by subst hK; exact op_notIn_seq
theorem call_uAll (hK : X.K = K) (hc : X.calm = true) : CallR X (.builtin "all") (rAll K) := by subst hK; exact cr_all hc
theorem call_uAny (hK : X.K = K) (hc : X.calm = true) : CallR X (.builtin "any") (rAny K) := by subst hK; exact cr_any hc
theorem call_uSum (hK : X.K = K) (hc : X.calm = true) : CallR X (.builtin "sum") (rSum K) := by subst hK; exact cr_sum hc
theorem call_uTuple (hK : X.K = K) : CallR X (.type "tuple") (uTupC K) := by subst hK; exact call_uTuple0
theorem call_uList (hK : X.K = K) : CallR X (.type "list") (uLstC K) := by subst hK; exact call_uList0
theorem call_uIsi (hK : X.K = K) : CallR X (.builtin "isinstance") (rIsi K) := by subst hK; exact call_isi
theorem u_fld {e : Expr} {ta : TE} {f : Str} {pos : Pos} (hK : X.K = K) (he : PE X e ta) (hb : attributeBase e f X.env (eval e X.env) = eval e X.env) : PE X (.Attribute e f pos) (tFld K ta f) := by subst hK; exact pe_fld he hb
theorem u_list {tg l : Expr} {tl : TE} (hK : X.K = K) (hl : PE X l tl) : PI X tg l (iList K tl) := by subst hK; exact pi_list hl
theorem u_tup {tg l : Expr} {tl : TE} (hK : X.K = K) (hl : PE X l tl) : PI X tg l (iTup K tl) := by subst hK; exact pi_tup hl
theorem u_gtup {es : List Expr} {k : Nat} {t : TGs} {n : Nat} {pos : Pos} (hK : X.K = K) (hc : X.calm = true) (h : PGs X es t) (hn : (assignEach es X.env).length = n := by rfl) (hst : (assignEach es X.env).findIdx? (·.1) = none := by rfl) : PG X (.Tuple es k pos) (gTup K n t) := by subst hK; exact pg_tup hc h hn hst
end
/-! ### heaps -/
theorem same_new {H : Hp} {p : Addr} {o : HO} (h : H p = none) : Same H (upd H p o) := fun a u e => by
  rw [upd_ne (ne_of_none e h)]
  exact e
theorem nb1 {H : Hp} {a b : Addr} {o : HO} (h : (upd H a o) b = none) : H b = none := by
  by_cases e : b = a
  · subst e; rw [upd_same] at h; cases h
  · rw [upd_ne e] at h; exact h
theorem nb2 {H : Hp} {a b : Addr} {o : HO} (h : (upd H a o) b = none) : b ≠ a := fun e => by
  subst e; rw [upd_same] at h; cases h
/-- all that was tracked stays, but what stands at p -/
def SB (p : Addr) (H H' : Hp) : Prop := ∀ b o, H b = some o → b ≠ p → H' b = some o
theorem SB.refl (p : Addr) (H : Hp) : SB p H H := fun _ _ h _ => h
theorem SB.trans {p : Addr} {H H1 H2 : Hp} (a : SB p H H1) (b : SB p H1 H2) : SB p H H2 := fun c o h n => b c o (a c o h n) n
theorem SB.of {p : Addr} {H H' : Hp} (a : Same H H') : SB p H H' := fun c o h _ => a c o h
theorem SB.new {p a : Addr} {H H' : Hp} {o : HO} (s : SB p H H') (h : H' a = none) : SB p H (L2.upd H' a o) := fun c u e n => same_new h c u (s c u e n)
theorem SB.mut {p a : Addr} {H H' : Hp} {o : HO} (s : SB p H H') (h : H a = none) : SB p H (L2.upd H' a o) := fun c u e n => by
  rw [upd_ne (ne_of_none e h)]
  exact s c u e n
theorem SB.upd {p : Addr} {H : Hp} {o : HO} : SB p H (L2.upd H p o) := fun c u h n => by rw [L2.upd_ne n]; exact h
theorem SB.put {p : Addr} {H H' : Hp} {o : HO} (a : SB p H H') : SB p H (L2.upd H' p o) := fun c u h n => by rw [upd_ne n]; exact a c u h n
theorem get_same {H : Hp} {a : Addr} {o u : HO} (e : o = u) : (upd H a o) a = some u := by rw [upd_same, e]
theorem get_new {H : Hp} {p a : Addr} {o u : HO} (h : H p = none) (ha : H a = some u) : (upd H p o) a = some u := same_new h a u ha
theorem get_ne {H : Hp} {p a : Addr} {o : HO} {r : Option HO} (h : a ≠ p) (ha : H a = r) : (upd H p o) a = r := by rw [upd_ne h]; exact ha
/-! ### the reading's steps, each by its own lemma (goal on the right) -/
section
variable {σ : L2.St} {H : Hp} {Q : VK} {D : Ends} {K : PySem.W.Frag}
theorem g_var {i : Nat} {v : V} (h : σ[i]? = some (some v)) (q : Q v H) : tVar i σ H Q := ⟨v, h, q⟩
theorem g_c {v : V} (q : Q v H) : tC v σ H Q := q
theorem g_op {r : R2} {ta tb : TE} (q : ta σ H fun x H1 => tb σ H1 fun y H2 => r x y H2 Q) : tOp r ta tb σ H Q := q
theorem g_un {r : V → Hp → VK → Prop} {ta : TE} (q : ta σ H fun x H1 => r x H1 Q) : tUn r ta σ H Q := q
theorem g_nil {R : List V → Hp → Prop} (q : R [] H) : tNil σ H R := q
theorem g_cons {ta : TE} {t : TA} {R : List V → Hp → Prop} (q : ta σ H fun x H1 => t σ H1 fun xs H2 => R (x :: xs) H2) : tCons ta t σ H R := q
theorem g_cb {r : List V → Hp → VK → Prop} {t : TA} (q : t σ H fun vs H1 => r vs H1 Q) : tCB r t σ H Q := q
theorem g_call {sp : Sp} {dvs : List V} {E : XK} {t : TA} (q : t σ H fun vs H1 => sp (vs ++ dvs) H1 Q E) : tCall sp dvs E t σ H Q := q
theorem g_seq {t u : TS} (q : t { D with nx := u D } σ H) : tSeq t u D σ H := q
theorem g_next (q : D.nx σ H) : tNext D σ H := q
theorem g_asg {te : TE} {g : TG} (q : te σ H fun x H1 => g x σ H1 D.nx) : tAsg te g D σ H := q
theorem g_name {i : Nat} {v : V} {R : L2.St → Hp → Prop} (q : R (σ.set i (some v)) H) : gName i v σ H R := q
theorem g_ret {te : TE} (q : te σ H D.rt) : tRet te D σ H := q
theorem g_drop {te : TE} (q : te σ H fun _ H1 => D.nx σ H1) : tDrop te D σ H := q
theorem g_ifS {c : TT} {t u : TS} (q : c σ H fun b H1 => if b = true then t D σ H1 else u D σ H1) : tIfS c t u D σ H := q
theorem g_if {c : TT} {ta tb : TE} (q : c σ H fun b H1 => if b = true then ta σ H1 Q else tb σ H1 Q) : tIf c ta tb σ H Q := q
theorem g_test {t : TE} {R : Bool → Hp → Prop} (q : t σ H fun x H' => ∃ k, x = .bl k ∧ R k H') : tTest t σ H R := q
theorem g_B {t : TE} {R : Bool → Hp → Prop} (q : t σ H fun x H' => ∃ k, x = .bl k ∧ R k H') : tB t σ H R := q
theorem g_and {t u : TT} {R : Bool → Hp → Prop} (q : t σ H fun c H1 => if c = true then u σ H1 R else R false H1) : tAnd t u σ H R := q
theorem g_or {t u : TT} {R : Bool → Hp → Prop} (q : t σ H fun c H1 => if c = true then R true H1 else u σ H1 R) : tOr t u σ H R := q
theorem g_not {t : TT} {R : Bool → Hp → Prop} (q : t σ H fun c H1 => R (!c) H1) : tNot t σ H R := q
theorem g_andV {ta tb : TE} (q : ta σ H fun x H1 => ∃ c, x = .bl c ∧ if c = true then tb σ H1 Q else Q (.bl false) H1) : tAndV ta tb σ H Q := q
theorem g_orV {ta tb : TE} (q : ta σ H fun x H1 => ∃ c, x = .bl c ∧ if c = true then Q (.bl true) H1 else tb σ H1 Q) : tOrV ta tb σ H Q := q
theorem g_notV {ta : TE} (q : ta σ H fun x H1 => ∃ c, x = .bl c ∧ Q (.bl (!c)) H1) : tNotV ta σ H Q := q
theorem g_addI {i j : Int} (q : Q (.int (i + j)) H) : uAdd K (.int i) (.int j) H Q := q
theorem g_addS {i j : Str} (h : i.length + j.length ≤ sizeLine) (q : Q (.str (i ++ j)) H) : uAdd K (.str i) (.str j) H Q := ⟨h, q⟩
theorem g_subI {i j : Int} (q : Q (.int (i - j)) H) : uSub (.int i) (.int j) H Q := q
theorem g_negI {i : Int} (q : Q (.int (-i)) H) : uNeg (.int i) H Q := q
theorem g_cmpI {p : Int → Int → Bool} {i j : Int} (q : Q (.bl (p i j)) H) : uCmp p (.int i) (.int j) H Q := q
theorem g_intI {i : Int} (q : Q (.int i) H) : uInt [.int i] H Q := q
theorem g_intB {k : Bool} (q : Q (.int (if k then 1 else 0)) H) : uInt [.bl k] H Q := q
theorem g_absI {i : Int} (q : Q (.int (if i < 0 then -i else i)) H) : uAbs [.int i] H Q := q
theorem g_mmI {f : Int → Int → Int} {i j : Int} (q : Q (.int (f i j)) H) : uMM f [.int i, .int j] H Q := q
theorem g_bl {b : Bool} {R : Bool → Hp → Prop} (q : R b H) : ∃ k, V.bl b = .bl k ∧ R k H := ⟨b, rfl, q⟩
theorem g_blP {b : Bool} {R : Bool → Prop} (q : R b) : ∃ k, V.bl b = .bl k ∧ R k := ⟨b, rfl, q⟩
theorem g_eqS {x y : V} {n : Bool} (h : scal x y = true) (q : Q (.bl (if n then !decide (x = y) else decide (x = y))) H) : uEq K n x y H Q := Or.inl ⟨h, q⟩
theorem g_modI {i j : Int} (h : 0 < j) (q : Q (.int (i % j)) H) : uMod (.int i) (.int j) H Q := ⟨h, q⟩
theorem g_divI {i j : Int} (h : CDivW i j) (q : Q (.int (i / j)) H) : uDiv (.int i) (.int j) H Q := ⟨h, q⟩
theorem g_mulI {i j : Int} (h : CMul i j ∨ CMulW i j) (q : Q (.int (i * j)) H) : uMul (.int i) (.int j) H Q := ⟨h, q⟩
theorem g_powI {i j : Int} (h : 0 ≤ j ∧ (Builtin.Int.intBits i : Int) * j ≤ 2 ^ 27) (q : Q (.int (i ^ j.toNat)) H) : uPow (.int i) (.int j) H Q := ⟨h, q⟩
theorem g_ix {p : Addr} {xs : List V} {i : Int} {v : V} (h1 : SqL K H p xs ∨ SqT K H p xs) (h2 : atI xs i = some v) (q : Q v H) : uIx K (.ref p) (.int i) H Q := ⟨xs, v, h1, h2, q⟩
theorem g_lst {ta : TA} (q : ta σ H fun xs H1 => xs.length ≤ sizeLine ∧ ∀ p, H1 p = none → Q (.ref p) (upd H1 p (.lst xs))) : tLst ta σ H Q := q
theorem g_tup {ta : TA} (q : ta σ H fun xs H1 => xs.length ≤ sizeLine ∧ ∀ p, H1 p = none → Q (.ref p) (upd H1 p (.tup xs))) : tTup ta σ H Q := q
theorem g_sub {to ti : TE} {t : TSet} {v : V} {R : L2.St → Hp → Prop} (q : to σ H fun o H1 => ti σ H1 fun i H2 => t o i v H2 fun H3 => R σ H3) : gSub to ti t v σ H R := q
theorem g_setL {p : Addr} {xs : List V} {k : Int} {j : Nat} {v : V} {R : Hp → Prop} (h : H p = some (.lst xs)) (e : ixN xs.length k = some j) (q : R (upd H p (.lst (xs.set j v)))) : rSetL (.ref p) (.int k) v H R := ⟨p, xs, k, j, rfl, rfl, h, e, q⟩
theorem g_ixS {z : Str} {i : Int} {c : Nat} (h : z.length ≤ sizeLine) (e : atI z.cps.toList i = some c) (q : Q (.str ⟨#[c]⟩) H) : uIx K (.str z) (.int i) H Q := ⟨h, c, e, q⟩
theorem g_T {A B : Prop} (h : A) : if true = true then A else B := iteT h
theorem g_F {A B : Prop} (h : B) : if false = true then A else B := iteF h
theorem g_nT {A B : Prop} (h : B) : if (!true) = true then A else B := iteF h
theorem g_nF {A B : Prop} (h : A) : if (!false) = true then A else B := iteT h
theorem g_2 {b : Bool} {A B : Prop} (h1 : b = true → A) (h2 : b = false → B) : if b = true then A else B := by
  cases b with
  | true => exact iteT (h1 rfl)
  | false => exact iteF (h2 rfl)
theorem intBits_le {i : Int} {n : Nat} (h : i.natAbs < 2 ^ n) : Builtin.Int.intBits i ≤ n := by
  unfold Builtin.Int.intBits
  split
  · exact Nat.zero_le _
  · rename_i hn
    have h0 : i.natAbs ≠ 0 := fun z => hn (by simp [Int.natAbs_eq_zero.mp z])
    exact (Nat.log2_lt h0).mpr h
theorem g_pow3 {i : Int} (h0 : 0 ≤ i) (h : i < 2 ^ 100) (q : Q (.int (i ^ (3 : Int).toNat)) H) : uPow (.int i) (.int 3) H Q := by
  refine ⟨⟨by decide, ?_⟩, q⟩
  have z : Builtin.Int.intBits i ≤ 100 := intBits_le (by omega)
  have : ((Builtin.Int.intBits i : Nat) : Int) ≤ 100 := by exact_mod_cast z
  omega
theorem g_ix5 {p : Addr} {a b c d e k : Int} (h : SqL K H p [.int a, .int b, .int c, .int d, .int e]) (ha : ∀ v ∈ [a, b, c, d, e], (0 : Int) < v ∧ v < 2 ^ 32) (h0 : 0 ≤ k) (h5 : k < 5) (q : ∀ v : Int, 0 < v → v < 2 ^ 32 → Q (.int v) H) : uIx K (.ref p) (.int k) H Q := by
  have : k = 0 ∨ k = 1 ∨ k = 2 ∨ k = 3 ∨ k = 4 := by omega
  rcases this with rfl | rfl | rfl | rfl | rfl
  · exact g_ix (Or.inl h) rfl (q _ (ha a (by simp)).1 (ha a (by simp)).2)
  · exact g_ix (Or.inl h) rfl (q _ (ha b (by simp)).1 (ha b (by simp)).2)
  · exact g_ix (Or.inl h) rfl (q _ (ha c (by simp)).1 (ha c (by simp)).2)
  · exact g_ix (Or.inl h) rfl (q _ (ha d (by simp)).1 (ha d (by simp)).2)
  · exact g_ix (Or.inl h) rfl (q _ (ha e (by simp)).1 (ha e (by simp)).2)
theorem bnd_ckk {C k : Int} (h0 : 0 ≤ C) (h1 : C ≤ 2 ^ 20) (k0 : 0 ≤ k) (k1 : k ≤ 2 ^ 20) : 0 ≤ C * k * k ∧ C * k * k ≤ 2 ^ 60 := by
  have a1 : 0 ≤ C * k := Int.mul_nonneg h0 k0
  have a2 : C * k ≤ 2 ^ 20 * 2 ^ 20 := Int.mul_le_mul h1 k1 k0 (by decide)
  refine ⟨Int.mul_nonneg a1 k0, ?_⟩
  have a3 : C * k * k ≤ 2 ^ 20 * 2 ^ 20 * 2 ^ 20 := Int.mul_le_mul a2 k1 k0 (by decide)
  exact a3
theorem g_powB {s C k e : Int} (s0 : 0 ≤ s) (s1 : s < 2 ^ 61) (c0 : 0 ≤ C) (c1 : C ≤ 2 ^ 20) (k0 : 0 ≤ k) (k1 : k ≤ 2 ^ 20) (e0 : 0 ≤ e) (e1 : e ≤ 2 ^ 20) (q : Q (.int ((s + C * k * k + e) ^ (3 : Int).toNat)) H) : uPow (.int (s + C * k * k + e)) (.int 3) H Q := by
  obtain ⟨b0, b1⟩ := bnd_ckk c0 c1 k0 k1
  exact g_pow3 (by omega) (by omega) q
theorem at_nat {α : Type} {xs : List α} {z : Int} {j : Nat} {v : α} (e : z = (j : Int)) (h : xs[j]? = some v) : atI xs z = some v := by
  rw [e]
  exact atI_nat h
theorem g_mulB {i : Int} {b : Bool} (q : Q (.int (i * (if b = true then 1 else 0))) H) : uMul (.int i) (.int (if b = true then 1 else 0)) H Q := ⟨Or.inl (Or.inr (by cases b <;> decide)), q⟩
theorem g_powL {i j : Int} (h : decide (0 ≤ j ∧ (Builtin.Int.intBits i : Int) * j ≤ 2 ^ 27) = true) (q : Q (.int (i ^ j.toNat)) H) : uPow (.int i) (.int j) H Q := ⟨of_decide_eq_true h, q⟩
theorem g_modL {i j : Int} (h : decide (0 < j) = true) (q : Q (.int (i % j)) H) : uMod (.int i) (.int j) H Q := ⟨of_decide_eq_true h, q⟩
theorem g_sum {p : Addr} {ns : List Int} (h : SqL K H p (ns.map V.int)) (q : Q (.int ns.sum) H) : rSum K [.ref p] H Q := ⟨p, ns, rfl, h, q⟩
theorem mulB_bd {x : Int} {b : Bool} {M : Int} (h0 : 0 ≤ x) (h1 : x < M) : 0 ≤ x * (if b = true then 1 else 0) ∧ x * (if b = true then 1 else 0) < M := by
  cases b
  · simp; omega
  · simp; omega
theorem cut1 (ns : List Int) : cutV (ns.map V.int) none (some 1) = (ns.take 1).map V.int := by
  cases ns <;> rfl
theorem g_cut {t : TE} (P : V → Hp → Prop) (h1 : ∀ R : VK, (∀ v H1, P v H1 → R v H1) → t σ H R) (h2 : ∀ v H1, P v H1 → Q v H1) : t σ H Q := h1 Q h2
theorem g_cutS {t : TS} (M : L2.St → Hp → Prop) (h1 : ∀ N : L2.St → Hp → Prop, (∀ σ' H', M σ' H' → N σ' H') → t { D with nx := N } σ H) (h2 : ∀ σ' H', M σ' H' → D.nx σ' H') : t D σ H := h1 D.nx h2
theorem g_lrg {te : L2.St → Hp → (Int → Int → Hp → Prop) → Prop} (q : te σ H fun a b H1 => RgOk a b ∧ ∀ q, H1 q = none → Q (.ref q) (upd H1 q (.lst (rgV a b)))) : tLstRg te σ H Q := q
theorem g_rg1 {ta : TE} {R : Int → Int → Hp → Prop} (q : ta σ H fun x H1 => ∃ n, x = .int n ∧ R 0 n H1) : tRg1 ta σ H R := q
theorem g_intE {i : Int} {R : Int → Prop} (q : R i) : ∃ n, V.int i = .int n ∧ R n := ⟨i, rfl, q⟩
theorem g_sl {r : V → Option Int → Option Int → Hp → VK → Prop} {te : TE} {tl th : TO} (q : te σ H fun x H1 => tl σ H1 fun l H2 => th σ H2 fun u H3 => r x l u H3 Q) : tSl r te tl th σ H Q := q
theorem g_noP {R : Option Int → Hp → Prop} (q : R none H) : tNoPart σ H R := q
theorem g_part {t : TE} {R : Option Int → Hp → Prop} (q : t σ H fun x H1 => ∃ i, x = .int i ∧ R (some i) H1) : tPart t σ H R := q
theorem g_slL {a : Addr} {xs : List V} {lo hi : Option Int} (h : SqL K H a xs) (q : ∀ p, H p = none → Q (.ref p) (upd H p (.lst (cutV xs lo hi)))) : uSl K (.ref a) lo hi H Q := Or.inl ⟨xs, h, q⟩
theorem g_slS {z : Str} {lo hi : Option Int} (h : z.length ≤ sizeLine) (q : Q (.str (cutS z lo hi)) H) : uSl K (.str z) lo hi H Q := ⟨h, q⟩
theorem log2_small {i : Int} (h : -(2 ^ 64) < i) (h' : i < 2 ^ 64) : i.natAbs.log2 < 1920 := by
  by_cases h0 : i.natAbs = 0
  · rw [h0]; decide
  · exact Nat.lt_of_lt_of_le ((Nat.log2_lt h0).mpr (show i.natAbs < 2 ^ 64 by omega)) (by decide)
theorem g_strI {i : Int} (h : -(2 ^ 64) < i ∧ i < 2 ^ 64) (q : Q (.str (toString i)) H) : uStr [.int i] H Q := ⟨log2_small h.1 h.2, q⟩
theorem g_strS {a : Str} (q : Q (.str a) H) : uStr [.str a] H Q := q
theorem g_mulL {i j : Int} (h : -(2 ^ 64) < i ∧ i < 2 ^ 64) (q : Q (.int (i * j)) H) : uMul (.int i) (.int j) H Q := ⟨Or.inl (Or.inl h), q⟩
theorem g_mulR {i j : Int} (h : -(2 ^ 64) < j ∧ j < 2 ^ 64) (q : Q (.int (i * j)) H) : uMul (.int i) (.int j) H Q := ⟨Or.inl (Or.inr h), q⟩
theorem g_divP {i j : Int} (h0 : 0 < j) (h1 : j < 2 ^ 62) (q : Q (.int (i / j)) H) : uDiv (.int i) (.int j) H Q := ⟨wide_div h0 (b := 62) (by omega) (by decide) (by decide), q⟩
theorem g_tupL {p : Addr} {ys : List V} (h : SqL K H p ys) (q : ∀ l, H l = none → Q (.ref l) (upd H l (.tup ys))) : uTupC K [.ref p] H Q := Or.inl ⟨ys, h, q⟩
theorem g_tupT {p : Addr} {ys : List V} (h : SqT K H p ys) (q : Q (.ref p) H) : uTupC K [.ref p] H Q := Or.inr ⟨ys, h, q⟩
theorem g_lstC {p : Addr} {ys : List V} (h : SqL K H p ys ∨ SqT K H p ys) (q : ∀ l, H l = none → Q (.ref l) (upd H l (.lst ys))) : uLstC K [.ref p] H Q := ⟨ys, h, q⟩
theorem g_allB {p : Addr} {bs : List Bool} (h : SqL K H p (bs.map V.bl)) (q : Q (.bl (bs.all id)) H) : rAll K [.ref p] H Q := ⟨p, bs, rfl, h, q⟩
theorem g_lenL {p : Addr} {ys : List V} (h : SqL K H p ys ∨ SqT K H p ys) (q : Q (.int ys.length) H) : uLen K [.ref p] H Q := Or.inl ⟨ys, h, q⟩
theorem g_lenS {z : Str} (h : z.length ≤ sizeLine) (q : Q (.int z.length) H) : uLen K [.str z] H Q := ⟨h, q⟩
end
end U
namespace U
open PySem PySem.Spec PyProof.Rows L2
section
variable {σ : L2.St} {H : Hp} {Q : VK} {D : Ends} {K : PySem.W.Frag}
/-- one turn of a comprehension; acc: what was made so far, at E; A, B: what is to be reached with an item, without -/
def LcT (E : Addr) (n : Nat) (Y : Nat → Hp → V → Hp → Prop) (Pv : Nat → List V → Hp → Prop) (σ : L2.St) (vs : List Nat) (g : TG) (tt : TT) (te : TE) : Prop :=
  ∀ i x acc H' H'' (A : VK) (B : Hp → Prop), i < n → H' E = some (.lst acc) → Pv i acc H' → Y i H' x H'' →
    (∀ y H4, H4 E = some (.lst acc) → Pv (i + 1) (acc ++ [y]) (upd H4 E (.lst (acc ++ [y]))) → A y H4) → (∀ H3, H3 E = some (.lst acc) → Pv (i + 1) acc H3 → B H3) →
    g x (wipe σ vs) H'' fun σ2 H2 => wipe σ2 vs = wipe σ vs ∧ tt σ2 H2 fun b H3 => if b = true then te σ2 H3 A else B H3
theorem lc_gen {J : It} {n : Nat} {G : Hp → Prop} {Y : Nat → Hp → V → Hp → Prop} (w : Walk J n G Y) (hn : n ≤ 1000000) {g : TG} {tt : TT} {te : TE} {vs : List Nat} {H1 : Hp} {E : Addr} {Qd : Hp → Prop} (Pv : Nat → List V → Hp → Prop) (h0 : Pv 0 [] (upd H1 E (.lst []))) (hG : ∀ i acc H', i ≤ n → Pv i acc H' → G H')
    (hs : LcT E n Y Pv σ vs g tt te)
    (hd : ∀ acc H', H' E = some (.lst acc) → Pv n acc H' → Qd H') :
    ∃ W : Nat → Nat → Hp → Prop, (∃ m, W 0 m (upd H1 E (.lst []))) ∧ ∀ i m H, W i m H →
      (J.stop i H ∧ Qd H) ∨ (J.go i H ∧ ∃ Nx : Hp → Prop, (∀ H', Nx H' → ∃ m', m' < m ∧ W (i + 1) m' H') ∧ ∀ x H', J.yld i H x H' → g x (wipe σ vs) H' fun σ2 H2 => wipe σ2 vs = wipe σ vs ∧ tt σ2 H2 fun b H3 =>
        if b = true then te σ2 H3 fun y H4 => ∃ acc, H4 E = some (.lst acc) ∧ acc.length < sizeLine ∧ Nx (upd H4 E (.lst (acc ++ [y]))) else Nx H3) := by
  refine lc_it w (fun i H' => ∃ acc, H' E = some (.lst acc) ∧ acc.length ≤ i ∧ Pv i acc H') ⟨[], upd_same, Nat.le_refl _, h0⟩ (fun i H' hi ⟨acc, _, _, p⟩ => hG i acc H' hi p) (fun i x H' H'' hi ⟨acc, ha, hl, p⟩ y => ?_) fun H' ⟨acc, ha, _, p⟩ => hd acc H' ha p
  have h : (1000000 : Nat) < sizeLine := by decide
  refine hs i x acc H' H'' _ _ hi ha p y (fun v H4 q1 q2 => ⟨acc, q1, by omega, acc ++ [v], upd_same, by rw [List.length_append]; show acc.length + 1 ≤ i + 1; omega, q2⟩) fun H3 q1 q2 => ⟨acc, q1, by omega, q2⟩
/-- what a comprehension, a for asks of the thing that is walked -/
def lcI (σ : L2.St) (vs : List Nat) (g : TG) (tt : TT) (te : TE) (Q : VK) (J : It) (H1 : Hp) : Prop := ∀ E, H1 E = none → ∃ W : Nat → Nat → Hp → Prop, (∃ m, W 0 m (upd H1 E (.lst []))) ∧ ∀ i m H, W i m H → (J.stop i H ∧ Q (.ref E) H) ∨ (J.go i H ∧ ∃ Nx : Hp → Prop, (∀ H', Nx H' → ∃ m', m' < m ∧ W (i + 1) m' H') ∧ ∀ x H', J.yld i H x H' → g x (wipe σ vs) H' fun σ2 H2 => wipe σ2 vs = wipe σ vs ∧ tt σ2 H2 fun b H3 => if b = true then te σ2 H3 fun y H4 => ∃ acc, H4 E = some (.lst acc) ∧ acc.length < sizeLine ∧ Nx (upd H4 E (.lst (acc ++ [y]))) else Nx H3)
def forI (σ : L2.St) (g : TG) (tb : TS) (D : Ends) (J : It) (H1 : Hp) : Prop := ∃ W : Nat → Nat → L2.St → Hp → Prop, (∃ m, W 0 m σ H1) ∧ ∀ i m σ H, W i m σ H → (J.stop i H ∧ D.nx σ H) ∨ (J.go i H ∧ ∃ N : L2.St → Hp → Prop, (∀ σ' H', N σ' H' → ∃ m', m' < m ∧ W (i + 1) m' σ' H') ∧ ∀ x H', J.yld i H x H' → g x σ H' fun σ2 H2 => tb { D with nx := N, ct := N, bk := D.nx } σ2 H2)
section
variable {g : TG} {tt : TT} {te tl : TE} {ta : TA} {tb : TS} {vs : List Nat} {wi : TI}
theorem g_lc (q : wi σ H fun J H1 => lcI σ vs g tt te Q J H1) : tLc wi g tt te vs σ H Q := q
theorem g_for (q : wi σ H fun J H1 => forI σ g tb D J H1) : tFor wi g tb D σ H := q
/-- the shapes of walks -/
theorem g_iList {R : It → Hp → Prop} (q : tl σ H fun x H1 => ∃ a, x = .ref a ∧ (∃ xs, SqL K H1 a xs) ∧ R (Itl K a) H1) : iList K tl σ H R := q
theorem g_iTup {R : It → Hp → Prop} (q : tl σ H fun x H1 => ∃ a, x = .ref a ∧ (∃ xs, SqT K H1 a xs) ∧ R (Itt K a) H1) : iTup K tl σ H R := q
theorem g_iRng1 {R : It → Hp → Prop} (q : ta σ H fun vs H1 => ∃ j : Int, vs = [.int j] ∧ -(2 ^ 62) ≤ j ∧ j < 2 ^ 62 ∧ R (Itr 0 j.toNat) H1) : iRng1 ta σ H R := q
theorem g_iStr {R : It → Hp → Prop} (q : tl σ H fun v H1 => ∃ x, v = .str x ∧ R (Its x) H1) : iStr tl σ H R := q
theorem g_iEnum {R : It → Hp → Prop} (q : ta σ H fun vs H1 => ∃ a xs, vs = [.ref a] ∧ SqL K H1 a xs ∧ R (Ite K a) H1) : iEnum K ta σ H R := q
theorem g_iVals {R : It → Hp → Prop} (q : tl σ H fun x H1 => ∃ d o kvs, x = .ref d ∧ H1 d = some (.frz o (.dK kvs)) ∧ R (Itd d o kvs) H1) : iVals tl σ H R := q
theorem e_list {a : Addr} {xs : List V} {R : It → Hp → Prop} (h : SqL K H a xs) (q : R (Itl K a) H) : ∃ b, V.ref a = .ref b ∧ (∃ xs, SqL K H b xs) ∧ R (Itl K b) H := ⟨a, rfl, ⟨xs, h⟩, q⟩
theorem e_tup {a : Addr} {xs : List V} {R : It → Hp → Prop} (h : SqT K H a xs) (q : R (Itt K a) H) : ∃ b, V.ref a = .ref b ∧ (∃ xs, SqT K H b xs) ∧ R (Itt K b) H := ⟨a, rfl, ⟨xs, h⟩, q⟩
theorem e_rng {j : Int} {R : It → Hp → Prop} (h : j ≤ 1000000) (h0 : -1000000 ≤ j) (q : R (Itr 0 j.toNat) H) : ∃ i : Int, [V.int j] = [.int i] ∧ -(2 ^ 62) ≤ i ∧ i < 2 ^ 62 ∧ R (Itr 0 i.toNat) H := ⟨j, rfl, by omega, by omega, q⟩
theorem e_str {x : Str} {R : It → Hp → Prop} (q : R (Its x) H) : ∃ z, V.str x = .str z ∧ R (Its z) H := ⟨x, rfl, q⟩
theorem e_enum {a : Addr} {xs : List V} {R : It → Hp → Prop} (h : SqL K H a xs) (q : R (Ite K a) H) : ∃ b ys, [V.ref a] = [.ref b] ∧ SqL K H b ys ∧ R (Ite K b) H := ⟨a, xs, rfl, h, q⟩
theorem e_vals {d : Addr} {o : Obj} {kvs : List (Key × V)} {R : It → Hp → Prop} (h : H d = some (.frz o (.dK kvs))) (q : R (Itd d o kvs) H) : ∃ d' o' kvs', V.ref d = .ref d' ∧ H d' = some (.frz o' (.dK kvs')) ∧ R (Itd d' o' kvs') H := ⟨d, o, kvs, rfl, h, q⟩
/-- a comprehension, a for, over any walk -/
theorem lcI_by {J : It} {n : Nat} {G : Hp → Prop} {Y : Nat → Hp → V → Hp → Prop} (w : Walk J n G Y) (hn : n ≤ 1000000) (h : ∀ E, H E = none → ∃ Pv, Pv 0 [] (upd H E (.lst [])) ∧ (∀ i acc H', i ≤ n → Pv i acc H' → G H') ∧ LcT E n Y Pv σ vs g tt te ∧ ∀ acc H', H' E = some (.lst acc) → Pv n acc H' → Q (.ref E) H') : lcI σ vs g tt te Q J H := fun E hE =>
  let ⟨Pv, p0, p1, p2, p3⟩ := h E hE
  lc_gen w hn Pv p0 p1 p2 p3
theorem forI_by {J : It} {n : Nat} {G : Hp → Prop} {Y : Nat → Hp → V → Hp → Prop} (w : Walk J n G Y) (Pv : Nat → L2.St → Hp → Prop) (h0 : Pv 0 σ H) (hG : ∀ i σ H, i ≤ n → Pv i σ H → G H)
    (hs : ∀ i x σ H H', i < n → Pv i σ H → Y i H x H' → g x σ H' fun σ2 H2 => tb { D with nx := Pv (i + 1), ct := Pv (i + 1), bk := D.nx } σ2 H2) (hd : ∀ σ H, Pv n σ H → D.nx σ H) : forI σ g tb D J H := for_it w Pv h0 hG hs hd
end
theorem same_mut {H H' : Hp} {a : Addr} {o : HO} (s : Same H H') (h : H a = none) : Same H (upd H' a o) := fun c u e => by
  rw [upd_ne (ne_of_none e h)]
  exact s c u e
/-- a comprehension that leaves all that stood: f tells what turn i gives -/
theorem lcI_same {g : TG} {tt : TT} {te : TE} {vs : List Nat} {J : It} {n : Nat} {G : Hp → Prop} {Y : Nat → Hp → V → Hp → Prop} (w : Walk J n G Y) (hn : n ≤ 1000000) (f : Nat → Option V) (hG : ∀ H', Same H H' → G H') (hY : ∀ i H' x H'', Y i H' x H'' → Same H' H'')
    (turn : ∀ i x H' H'' (A : VK) (B : Hp → Prop), i < n → Same H H' → Y i H' x H'' → (∀ y H4, f i = some y → Same H'' H4 → A y H4) → (f i = none → ∀ H3, Same H'' H3 → B H3) →
      g x (wipe σ vs) H'' fun σ2 H2 => wipe σ2 vs = wipe σ vs ∧ tt σ2 H2 fun b H3 => if b = true then te σ2 H3 A else B H3)
    (k : ∀ E H', H E = none → Same H H' → H' E = some (.lst ((List.range n).filterMap f)) → Q (.ref E) H') : lcI σ vs g tt te Q J H := by
  refine lcI_by w hn fun E hE => ⟨fun i acc H' => Same H H' ∧ acc = (List.range i).filterMap f, ⟨same_new hE, rfl⟩, fun i acc H' _ p => hG H' p.1, ?_, fun acc H' ha ⟨s, e⟩ => k E H' hE s (by rw [ha, e])⟩
  intro i x acc H' H'' A B hi ha ⟨s, e⟩ y kA kB
  have s' := hY i H' x H'' y
  refine turn i x H' H'' A B hi s y (fun v H4 ev s4 => kA v H4 (s4 _ _ (s' _ _ ha)) ⟨same_mut (s.trans (s'.trans s4)) hE, ?_⟩) fun en H3 s3 => kB H3 (s3 _ _ (s' _ _ ha)) ⟨s.trans (s'.trans s3), ?_⟩
  · rw [List.range_succ, List.filterMap_append, ← e]
    simp [ev]
  · rw [List.range_succ, List.filterMap_append, ← e]
    simp [en]
theorem range_fm {α β : Type} (h : α → Option β) : ∀ xs : List α, (List.range xs.length).filterMap (fun i => (xs[i]?).bind h) = xs.filterMap h := by
  intro xs
  induction xs with
  | nil => rfl
  | cons a r ih =>
    rw [List.length_cons, List.range_succ_eq_map, List.filterMap_cons, List.filterMap_map, List.filterMap_cons]
    have e : ((fun i => ((a :: r)[i]?).bind h) ∘ Nat.succ) = fun i => (r[i]?).bind h := by funext i; simp
    rw [e, ih]
    rfl
/-- .. over a list: h tells what an item gives -/
theorem lcI_list {g : TG} {tt : TT} {te : TE} {vs : List Nat} {a : Addr} {xs : List V} (hx : SqL K H a xs) (hn : xs.length ≤ 1000000) (h : V → Option V)
    (turn : ∀ x H' (A : VK) (B : Hp → Prop), x ∈ xs → Same H H' → (∀ y H4, h x = some y → Same H' H4 → A y H4) → (h x = none → ∀ H3, Same H' H3 → B H3) →
      g x (wipe σ vs) H' fun σ2 H2 => wipe σ2 vs = wipe σ vs ∧ tt σ2 H2 fun b H3 => if b = true then te σ2 H3 A else B H3)
    (k : ∀ E H', H E = none → Same H H' → H' E = some (.lst (xs.filterMap h)) → Q (.ref E) H') : lcI σ vs g tt te Q (Itl K a) H := by
  refine lcI_same walk_list hn (fun i => (xs[i]?).bind h) (fun H' s => s.seq hx) (fun i H' x H'' y => by rw [y.1]; exact Same.refl _) (fun i x H' H'' A B hi s y kA kB => ?_) fun E H' e s q => k E H' e s (by rw [q, range_fm])
  obtain ⟨rfl, ex⟩ := y
  exact turn x H'' A B (List.mem_of_getElem? ex) s (fun v H4 ev s4 => kA v H4 (by rw [ex]; exact ev) s4) fun en H3 s3 => kB (by rw [ex]; exact en) H3 s3
/-- .. over range(j) -/
theorem lcI_rng {g : TG} {tt : TT} {te : TE} {vs : List Nat} {n : Nat} (hn : n ≤ 1000000) (f : Nat → Option V)
    (turn : ∀ i H' (A : VK) (B : Hp → Prop), i < n → Same H H' → (∀ y H4, f i = some y → Same H' H4 → A y H4) → (f i = none → ∀ H3, Same H' H3 → B H3) →
      g (.int (i : Int)) (wipe σ vs) H' fun σ2 H2 => wipe σ2 vs = wipe σ vs ∧ tt σ2 H2 fun b H3 => if b = true then te σ2 H3 A else B H3)
    (k : ∀ E H', H E = none → Same H H' → H' E = some (.lst ((List.range n).filterMap f)) → Q (.ref E) H') : lcI σ vs g tt te Q (Itr 0 n) H := by
  refine lcI_same walk_range hn f (fun _ _ => trivial) (fun i H' x H'' y => by rw [y.1]; exact Same.refl _) (fun i x H' H'' A B hi s y kA kB => ?_) k
  obtain ⟨rfl, rfl⟩ := y
  dsimp only
  rw [Int.zero_add]
  exact turn i H'' A B hi s kA kB
theorem g_cont (q : D.ct σ H) : tCont D σ H := q
theorem g_yes {R : Bool → Hp → Prop} (q : R true H) : tYes σ H R := q
/-! ### dicts, methods of lists and texts -/
section
variable {ty td tv to te tx : TE} {t : TA} {tt : TT}
theorem g_dnotin (q : ty σ H fun y H1 => td σ H1 fun x H2 => ∃ a o, x = .ref a ∧ DGet H2 a y o ∧ Q (.bl (!o.isSome)) H2) : tDNotIn ty td σ H Q := q
theorem g_din (q : ty σ H fun y H1 => td σ H1 fun x H2 => ∃ a o, x = .ref a ∧ DGet H2 a y o ∧ Q (.bl o.isSome) H2) : tDIn ty td σ H Q := q
theorem g_dget (q : td σ H fun x H1 => ty σ H1 fun y H2 => ∃ a v, x = .ref a ∧ DGet H2 a y (some v) ∧ Q v H2) : tDGet td ty σ H Q := q
theorem g_dput (q : tv σ H fun v H1 => td σ H1 fun x H2 => ty σ H2 fun y H3 => ∃ a H4, x = .ref a ∧ DPut H3 a y v H4 ∧ D.nx σ H4) : sDPut td ty tv D σ H := q
theorem g_bm {T : String} {r : V → List V → Hp → VK → Prop} (q : to σ H fun x H1 => tyV K T x H1 ∧ t σ H1 fun xs H2 => r x xs H2 Q) : tBM K T r to t σ H Q := q
theorem g_bm0 {T : String} {r : V → List V → Hp → VK → Prop} (q : to σ H fun x H1 => tyV K T x H1 ∧ r x [] H1 Q) : tBM0 K T r to σ H Q := q
theorem g_gtup {n : Nat} {g : TGs} {a : Addr} {xs : List V} {R : L2.St → Hp → Prop} (h : SqT K H a xs) (e : xs.length = n) (q : g xs σ H R) : gTup K n g (.ref a) σ H R := ⟨a, xs, rfl, h, e, q⟩
theorem g_gcons {g : TG} {u : TGs} {v : V} {r : List V} {R : L2.St → Hp → Prop} (q : g v σ H fun σ' H' => u r σ' H' R) : gCons g u (v :: r) σ H R := ⟨v, r, rfl, q⟩
theorem g_gnil {R : L2.St → Hp → Prop} (q : R σ H) : gNil [] σ H R := ⟨rfl, q⟩
theorem g_par {i j : Nat} {ta : TA} (q : ta σ H fun vs H1 => ∃ v w, vs = [v, w] ∧ D.nx ((σ.set i (some v)).set j (some w)) H1) : tPar i j ta D σ H := q
theorem e_two {v w : V} {R : V → V → Prop} (q : R v w) : ∃ x y, [v, w] = [x, y] ∧ R x y := ⟨v, w, rfl, q⟩
theorem g_disp {trs : List (TE × TE)} (q : ∀ p, H p = none → tPairs trs σ (upd H p (.dK [])) fun ps H2 => H2 p = some (.dK []) ∧ ∃ kvs : List (Key × V), ps = kvs.map (fun kv => (kV kv.1, kv.2)) ∧ kvs.length ≤ 15 ∧ Q (.ref p) (upd H2 p (.dK (mergeK [] kvs)))) : tDisp trs σ H Q := q
theorem g_pcons {tk tv : TE} {r : List (TE × TE)} {R : List (V × V) → Hp → Prop} (q : tk σ H fun x H1 => tv σ H1 fun y H2 => tPairs r σ H2 fun ps H3 => R ((x, y) :: ps) H3) : tPairs ((tk, tv) :: r) σ H R := q
theorem g_pnil {R : List (V × V) → Hp → Prop} (q : R [] H) : tPairs [] σ H R := q
theorem e_non {R : Prop} (q : R) : V.non = V.non ∧ R := ⟨rfl, q⟩
theorem g_ext {l b : Addr} {xs zs : List V} (h : H l = some (.lst xs)) (hb : H b = some (.lst zs)) (hl : xs.length + zs.length ≤ 1000000) (q : Q .non (upd H l (.lst (xs ++ zs)))) : rExtend (.ref l) [.ref b] H Q := ⟨l, b, xs, zs, rfl, rfl, h, hb, Nat.le_trans hl (by decide), q⟩
theorem g_m1 {r : V → List V → Hp → VK → Prop} (q : to σ H fun x H1 => (∃ a, x = .str a) ∧ te σ H1 fun y H2 => r x [y] H2 Q) : tM1 r to te σ H Q := q
theorem e_strE {z : Str} {R : Prop} (q : R) : (∃ a, V.str z = .str a) ∧ R := ⟨⟨z, rfl⟩, q⟩
theorem e_join {l : Addr} {z : Str} (ys : List Str) {R : Str → List Str → Prop} (h : SqL K H l (ys.map V.str)) (hz : (ys.map (·.length)).sum + ys.length * z.length ≤ 16777216) (q : R z ys) :
    ∃ a p, ∃ ys : List Str, V.str z = .str a ∧ [V.ref l] = [.ref p] ∧ (SqL K H p (ys.map V.str) ∨ SqT K H p (ys.map V.str)) ∧ (ys.map (·.length)).sum + ys.length * a.length ≤ 16777216 ∧ R a ys := ⟨z, l, ys, rfl, rfl, Or.inl h, hz, q⟩
/-- a comprehension over a tuple -/
theorem lcI_tup {g : TG} {tt : TT} {te : TE} {vs : List Nat} {a : Addr} {xs : List V} (hx : ∀ H', Same H H' → SqT K H' a xs) (hn : xs.length ≤ 1000000) (h : V → Option V)
    (turn : ∀ x H' (A : VK) (B : Hp → Prop), x ∈ xs → Same H H' → (∀ y H4, h x = some y → Same H' H4 → A y H4) → (h x = none → ∀ H3, Same H' H3 → B H3) →
      g x (wipe σ vs) H' fun σ2 H2 => wipe σ2 vs = wipe σ vs ∧ tt σ2 H2 fun b H3 => if b = true then te σ2 H3 A else B H3)
    (k : ∀ E H', H E = none → Same H H' → H' E = some (.lst (xs.filterMap h)) → Q (.ref E) H') : lcI σ vs g tt te Q (Itt K a) H := by
  refine lcI_same walk_tup hn (fun i => (xs[i]?).bind h) (fun H' s => hx H' s) (fun i H' x H'' y => by rw [y.1]; exact Same.refl _) (fun i x H' H'' A B hi s y kA kB => ?_) fun E H' e s q => k E H' e s (by rw [q, range_fm])
  obtain ⟨rfl, ex⟩ := y
  exact turn x H'' A B (List.mem_of_getElem? ex) s (fun v H4 ev s4 => kA v H4 (by rw [ex]; exact ev) s4) fun en H3 s3 => kB (by rw [ex]; exact en) H3 s3
theorem g_chain {r r' : R2} {ta tb tc : TE} (q : ta σ H fun x H1 => tb σ H1 fun y H2 => r x y H2 fun z H3 => ∃ k, z = .bl k ∧ (if k = true then tc σ H3 fun w' H4 => r' y w' H4 Q else Q (.bl false) H3)) : tChain r r' ta tb tc σ H Q := q
theorem e_isi {x : V} {t n : String} {b : Bool} (h : TyX K H x (.type t)) (k : kitB t n = some b) (q : Q (.bl b) H) : rIsi K [x, .ty n] H Q := ⟨x, _, _, _, b, rfl, ClsV.ty n, h, kit_ty k, q⟩
theorem ty_int {i : Int} : TyX K H (.int i) (.type "int") := .base (.int i)
theorem ty_str {s : Str} : TyX K H (.str s) (.type "str") := .base (.str s)
theorem ty_bl {b : Bool} : TyX K H (.bl b) (.type "bool") := .base (.bl b)
theorem ty_non : TyX K H .non (.type "NoneType") := .base .non
theorem ty_tup {a : Addr} {xs : List V} (h : H a = some (.tup xs)) : TyX K H (.ref a) (.type "tuple") := .base (.tup h)
theorem ty_list {a : Addr} {xs : List V} (h : H a = some (.lst xs)) : TyX K H (.ref a) (.type "list") := .base (.lst h)
theorem g_inS {c : Nat} {z : Str} {R : Bool → Hp → Prop} (q : R (decide (c ∈ z.cps.toList)) H) : ∃ (c' : Nat) (z' : Str), V.str ⟨#[c]⟩ = .str ⟨#[c']⟩ ∧ V.str z = .str z' ∧ ∃ k, V.bl (decide (c' ∈ z'.cps.toList)) = .bl k ∧ R k H := ⟨c, z, rfl, rfl, _, rfl, q⟩
theorem g_dnewK (q : ∀ d, H d = none → Q (.ref d) (upd H d (.dK []))) : tDNewK σ H Q := q
theorem e_dinS {d : Addr} {kvs : List (Key × V)} {n : Str} {R : Option V → Prop} (h : H d = some (.dK kvs)) (q : R (valV kvs (Sum.inr n))) : ∃ a o, V.ref d = .ref a ∧ DGet H a (.str n) o ∧ R o := ⟨d, _, rfl, DGet.k (k := Sum.inr n) h, q⟩
theorem e_dgetS {d : Addr} {kvs : List (Key × V)} {n : Str} {v : V} {R : V → Prop} (h : H d = some (.dK kvs)) (e : valV kvs (Sum.inr n) = some v) (q : R v) : ∃ a v, V.ref d = .ref a ∧ DGet H a (.str n) (some v) ∧ R v := ⟨d, v, rfl, by rw [← e]; exact DGet.k (k := Sum.inr n) h, q⟩
theorem e_dputS {d : Addr} {kvs : List (Key × V)} {n : Str} {v : V} {R : Hp → Prop} (h : H d = some (.dK kvs)) (hl : kvs.length ≤ 1000000) (q : R (upd H d (.dK (putK kvs (Sum.inr n) v)))) : ∃ a H4, V.ref d = .ref a ∧ DPut H a (.str n) v H4 ∧ R H4 := ⟨d, _, rfl, DPut.k (k := Sum.inr n) h (Nat.lt_of_le_of_lt hl (by decide)), q⟩
theorem g_appL {l : Addr} {xs : List V} {y : V} (h : H l = some (.lst xs)) (hl : xs.length ≤ 1000000) (q : Q .non (upd H l (.lst (xs ++ [y])))) : rAppend (.ref l) [y] H Q := ⟨l, xs, y, rfl, rfl, h, Nat.lt_of_le_of_lt hl (by decide), q⟩
theorem ty_lst {l : Addr} {xs : List V} {R : Prop} (h : H l = some (.lst xs)) (q : R) : tyV K "list" (.ref l) H ∧ R := ⟨Or.inl ⟨rfl, _, SqL.of h⟩, q⟩
end
end
end U
namespace M
open PySem L2
/-! ### names -/
def sign (c : Nat) : Bool := (decide (48 ≤ c) && decide (c ≤ 57)) || (decide (97 ≤ c) && decide (c ≤ 122))
def isName (s : Str) : Bool := decide (1 ≤ s.length) && decide (s.length ≤ 12) && s.cps.toList.all sign
theorem isName_of {s : Str} (h1 : 1 ≤ s.length) (h2 : s.length ≤ 12) (h3 : ∀ c ∈ s.cps.toList, sign c = true) : isName s = true := by
  unfold isName
  rw [decide_eq_true h1, decide_eq_true h2, List.all_eq_true.mpr h3] <;> rfl
theorem isName_out {s : Str} (h : isName s = true) : 1 ≤ s.length ∧ s.length ≤ 12 ∧ ∀ c ∈ s.cps.toList, sign c = true := by
  unfold isName at h
  rw [Bool.and_eq_true, Bool.and_eq_true] at h
  exact ⟨of_decide_eq_true h.1.1, of_decide_eq_true h.1.2, List.all_eq_true.mp h.2⟩
theorem len_list (s : Str) : s.cps.toList.length = s.length := Array.length_toList
theorem app_list (a b : Str) : (a ++ b).cps.toList = a.cps.toList ++ b.cps.toList := by
  show (a.cps ++ b.cps).toList = _
  rw [Array.toList_append]
theorem len_app (a b : Str) : (a ++ b).length = a.length + b.length := by
  rw [← len_list, app_list, List.length_append, len_list, len_list]
theorem str_ext {a b : Str} (h : a.cps.toList = b.cps.toList) : a = b := by
  cases a; cases b
  congr 1
  exact Array.ext' h
def isNameV (v : V) : Bool := match v with
  | .str s => isName s
  | _ => false
def intIn (a b : Int) (v : V) : Bool := match v with
  | .int i => decide (a ≤ i) && decide (i ≤ b)
  | _ => false
theorem isNameV_out {v : V} (h : isNameV v = true) : ∃ s, v = .str s ∧ isName s = true := by
  cases v <;> first | exact ⟨_, rfl, h⟩ | cases h
theorem intIn_out {a b : Int} {v : V} (h : intIn a b v = true) : ∃ i, v = .int i ∧ a ≤ i ∧ i ≤ b := by
  cases v <;> first | (rename_i i; have h : (decide (a ≤ i) && decide (i ≤ b)) = true := h; rw [Bool.and_eq_true] at h; exact ⟨i, rfl, of_decide_eq_true h.1, of_decide_eq_true h.2⟩) | cases h
theorem all_at {α : Type} {xs : List α} {f : α → Bool} (h : xs.all f = true) {j : Nat} {y : α} (e : xs[j]? = some y) : f y = true := List.all_eq_true.mp h y (List.mem_of_getElem? e)
/-- a dict of True by names -/
def known (ns : List Str) : List (Key × V) := ns.map fun s => (Sum.inr s, V.bl true)
theorem known_val (ns : List Str) (s : Str) : (valV (known ns) (Sum.inr s)).isSome = decide (s ∈ ns) := by
  induction ns with
  | nil => rfl
  | cons a r ih =>
    unfold known
    rw [List.map_cons]
    by_cases h : a = s
    · rw [valV_pos (by rw [h])]
      simp [h]
    · rw [valV_neg (by intro z; exact h (Sum.inr.inj z))]
      have ih' : (valV (r.map fun s => ((Sum.inr s : Key), V.bl true)) (Sum.inr s)).isSome = decide (s ∈ r) := ih
      rw [ih']
      have : s ≠ a := fun z => h z.symm
      simp [this]
theorem known_put {ns : List Str} {s : Str} (h : s ∉ ns) : putK (known ns) (Sum.inr s) (V.bl true) = known (ns ++ [s]) := by
  have h1 : valV (known ns) (Sum.inr s) = none := by
    have h2 := known_val ns s
    rw [decide_eq_false h] at h2
    cases e : valV (known ns) (Sum.inr s : Key) with
    | none => rfl
    | some v => rw [e] at h2; cases h2
  rw [putK_new _ h1]
  unfold known
  rw [List.map_append]
  rfl
/-- 'q' + str(i) -/
def qn (i : Nat) : Str := ("q" : Str) ++ (toString (i : Int) : Str)
theorem qn_all : (List.range 120).all (fun i => isName (qn i) && decide (("q" : Str).length + (toString (i : Int) : Str).length ≤ 12)) = true := by decide +kernel
theorem qn_ok {i : Nat} (h : i < 120) : isName (qn i) = true ∧ ("q" : Str).length + (toString (i : Int) : Str).length ≤ 12 := by
  have z := List.all_eq_true.mp qn_all i (List.mem_range.mpr h)
  rw [Bool.and_eq_true] at z
  exact ⟨z.1, of_decide_eq_true z.2⟩
theorem qn_nodup : ((List.range 120).map qn).Nodup := by decide +kernel
theorem qn_nd {n : Nat} (h : n ≤ 120) : ((List.range n).map qn).Nodup := by
  obtain ⟨k, e⟩ : ∃ k, (120 : Nat) = n + k := ⟨120 - n, by omega⟩
  have z := qn_nodup
  rw [e, List.range_add, List.map_append, List.nodup_append] at z
  exact z.1
theorem pigeon {α : Type} [DecidableEq α] : ∀ {l m : List α}, l.Nodup → (∀ x ∈ l, x ∈ m) → l.length ≤ m.length
  | [], _, _, _ => Nat.zero_le _
  | a :: r, m, nd, h => by
    have ha : a ∈ m := h a List.mem_cons_self
    have hr : ∀ x ∈ r, x ∈ m.erase a := fun x hx => (List.mem_erase_of_ne (fun e => by subst e; exact (List.nodup_cons.mp nd).1 hx)).mpr (h x (List.mem_cons_of_mem _ hx))
    have ih := pigeon (List.nodup_cons.mp nd).2 hr
    rw [List.length_erase_of_mem ha] at ih
    have : 0 < m.length := List.length_pos_of_mem ha
    rw [List.length_cons]
    omega
def notIn (ns : List Str) (v : V) : Option V := match v with
  | .str x => if x ∈ ns then none else some (.str x)
  | _ => none
theorem rest_first {ns : List Str} {n : Nat} (hl : ns.length < n) (hn : n ≤ 120) : ∃ r t, ((List.range n).filterMap fun i => some (V.str (qn i))).filterMap (notIn ns) = .str r :: t ∧ r ∉ ns ∧ isName r = true := by
  have ex : ∃ i, i < n ∧ qn i ∉ ns := by
    refine Classical.byContradiction fun no => ?_
    have : ∀ x ∈ (List.range n).map qn, x ∈ ns := fun x hx => by
      obtain ⟨i, hi, rfl⟩ := List.mem_map.mp hx
      exact Classical.byContradiction fun q => no ⟨i, List.mem_range.mp hi, q⟩
    have := pigeon (qn_nd hn) this
    rw [List.length_map, List.length_range] at this
    omega
  obtain ⟨i, hi, hq⟩ := ex
  have mem : V.str (qn i) ∈ ((List.range n).filterMap fun i => some (V.str (qn i))).filterMap (notIn ns) := by
    rw [List.mem_filterMap]
    exact ⟨V.str (qn i), List.mem_filterMap.mpr ⟨i, List.mem_range.mpr hi, rfl⟩, by show (if qn i ∈ ns then none else some (V.str (qn i))) = _; rw [if_neg hq]⟩
  cases e : ((List.range n).filterMap fun i => some (V.str (qn i))).filterMap (notIn ns) with
  | nil => rw [e] at mem; cases mem
  | cons v t =>
    have hv : v ∈ ((List.range n).filterMap fun i => some (V.str (qn i))).filterMap (notIn ns) := by rw [e]; exact List.mem_cons_self
    obtain ⟨u, hu, hv⟩ := List.mem_filterMap.mp hv
    obtain ⟨j, hj, hu⟩ := List.mem_filterMap.mp hu
    cases hu
    have hv : (if qn j ∈ ns then none else some (V.str (qn j))) = some v := hv
    by_cases c : qn j ∈ ns
    · rw [if_pos c] at hv; cases hv
    · rw [if_neg c] at hv
      cases hv
      exact ⟨qn j, t, rfl, c, (qn_ok (by have := List.mem_range.mp hj; omega)).1⟩
abbrev words : List V := [V.str "row", V.str "none", V.str "line", V.str "kinds", V.str "person", V.str "column", V.str "kind", V.str "0", V.str "abcdefghijkl"]
/-! ### registers as data -/
structure Knd where
  col : Str
  name : Str
  up : Option Str
  loss : Int
def upV : Option Str → V
  | none => .non
  | some s => .str s
def kindV (k : Knd) : List V := [.str k.col, .str k.name, upV k.up, .int k.loss]
/-- the kinds of one column, as they are drawn -/
inductive KOk (c : Str) : List Knd → Prop
  | nil : KOk c []
  | top {n : Str} {l : Int} (h : isName n = true) (hn : n ≠ "none") (h0 : 0 ≤ l) (h1 : l ≤ 1000000) : KOk c [⟨c, n, none, l⟩]
  | more {ks : List Knd} {o : Knd} {n : Str} {l : Int} (k : KOk c ks) (ho : o ∈ ks) (h : isName n = true) (hn : n ≠ "none") (nd : n ∉ ks.map (·.name)) (h0 : 0 ≤ l) (h1 : l ≤ o.loss) : KOk c (ks ++ [⟨c, n, some o.name, l⟩])
theorem KOk.loss {c : Str} {ks : List Knd} (k : KOk c ks) : ∀ o ∈ ks, 0 ≤ o.loss ∧ o.loss ≤ 1000000 := by
  induction k with
  | nil => intro o h; cases h
  | top h hn h0 h1 => intro o h; rw [List.mem_singleton] at h; subst h; exact ⟨h0, h1⟩
  | more k ho h hn nd h0 h1 ih =>
    intro o' h'
    rcases List.mem_append.mp h' with h' | h'
    · exact ih o' h'
    · rw [List.mem_singleton] at h'; subst h'
      have := ih _ ho
      exact ⟨h0, by show _ ≤ _; simp only; omega⟩
/-- tuples at their addresses -/
def TupAt (H : Hp) (v : V) (xs : List V) : Prop := ∃ a, v = .ref a ∧ H a = some (.tup xs)
abbrev TupL (H : Hp) : List V → List (List V) → Prop := Paired (TupAt H)
/-- all tuples stay -/
def TS (H H' : Hp) : Prop := ∀ a xs, H a = some (.tup xs) → H' a = some (.tup xs)
theorem TS.refl (H : Hp) : TS H H := fun _ _ h => h
theorem TS.trans {H H1 H2 : Hp} (a : TS H H1) (b : TS H1 H2) : TS H H2 := fun c o h => b c o (a c o h)
theorem TS.of {H H' : Hp} (s : Same H H') : TS H H' := fun a xs h => s a _ h
theorem TS.new {H : Hp} {p : Addr} {o : HO} (h : H p = none) : TS H (upd H p o) := TS.of (U.same_new h)
theorem TS.lst {H : Hp} {p : Addr} {o : HO} {xs : List V} (h : H p = some (.lst xs)) : TS H (upd H p o) := fun a ys e => by
  rw [upd_ne (ne_of e h (by intro z; cases z))]
  exact e
theorem TS.dK {H : Hp} {p : Addr} {o : HO} {xs : List (Key × V)} (h : H p = some (.dK xs)) : TS H (upd H p o) := fun a ys e => by
  rw [upd_ne (ne_of e h (by intro z; cases z))]
  exact e
theorem TS.ins {H : Hp} {p C dx : Addr} {o : HO} {fs : List (Str × V)} (h : H p = some (.ins C dx fs)) : TS H (upd H p o) := fun a ys e => by
  rw [upd_ne (ne_of e h (by intro z; cases z))]
  exact e
theorem TupAt.mono {H H' : Hp} {v : V} {xs : List V} (t : TS H H') (h : TupAt H v xs) : TupAt H' v xs := let ⟨a, e, h⟩ := h; ⟨a, e, t a xs h⟩
theorem TupL.mono {H H' : Hp} (t : TS H H') : ∀ {vs : List V} {xs : List (List V)}, TupL H vs xs → TupL H' vs xs
  | _, _, .nil => .nil
  | _, _, .cons a r => .cons (a.mono t) (TupL.mono t r)
theorem prd_at {α β : Type} {R : α → β → Prop} : ∀ {xs : List α} {ys : List β} {i : Nat} {x : α}, Paired R xs ys → xs[i]? = some x → ∃ y, ys[i]? = some y ∧ R x y
  | _, _, _, _, .nil, h => by simp at h
  | _, _, 0, _, .cons a _, h => by simp at h; subst h; exact ⟨_, rfl, a⟩
  | _, _, i + 1, x, .cons _ r, h => by
    obtain ⟨y, e, q⟩ := prd_at (i := i) r (by simpa using h)
    exact ⟨y, by simpa using e, q⟩
theorem prd_at2 {α β : Type} {R : α → β → Prop} : ∀ {xs : List α} {ys : List β} {i : Nat} {y : β}, Paired R xs ys → ys[i]? = some y → ∃ x, xs[i]? = some x ∧ R x y
  | _, _, _, _, .nil, h => by simp at h
  | _, _, 0, _, .cons a _, h => by simp at h; subst h; exact ⟨_, rfl, a⟩
  | _, _, i + 1, y, .cons _ r, h => by
    obtain ⟨x, e, q⟩ := prd_at2 (i := i) r (by simpa using h)
    exact ⟨x, by simpa using e, q⟩
theorem prd_len {α β : Type} {R : α → β → Prop} {xs : List α} {ys : List β} (p : Paired R xs ys) : xs.length = ys.length := Paired.length p
/-- names but none -/
def notNone (v : V) : Option V := match v with
  | .str x => if x = "none" then none else some (.str x)
  | _ => none
theorem notNone_map (ns : List Str) : (ns.map V.str).filterMap notNone = (ns.filter fun x : Str => !decide (x = "none")).map V.str := by
  induction ns with
  | nil => rfl
  | cons a r ih =>
    rw [List.map_cons, List.filterMap_cons]
    have e : notNone (.str a) = if a = "none" then none else some (.str a) := rfl
    rw [e]
    by_cases h : a = "none"
    · rw [if_pos h, List.filter_cons, if_neg (by rw [decide_eq_true h]; decide)]
      exact ih
    · rw [if_neg h, List.filter_cons, if_pos (by rw [decide_eq_false h]; rfl), List.map_cons, ← ih]
theorem notNone_len : ∀ {ns : List Str}, ns.Nodup → ns.length ≤ (ns.filter fun x : Str => !decide (x = "none")).length + 1
  | [], _ => Nat.zero_le _
  | a :: r, nd => by
    obtain ⟨h1, h2⟩ := List.nodup_cons.mp nd
    by_cases h : a = "none"
    · rw [List.filter_cons, if_neg (by rw [decide_eq_true h]; decide)]
      have : (r.filter fun x : Str => !decide (x = "none")) = r := List.filter_eq_self.mpr fun x hx => by
        have : x ≠ "none" := fun e => h1 (by rw [h, ← e]; exact hx)
        rw [decide_eq_false this]; rfl
      rw [this]
      exact Nat.le_refl _
    · rw [List.filter_cons, if_pos (by rw [decide_eq_false h]; rfl), List.length_cons, List.length_cons]
      have := notNone_len h2
      omega
theorem cut_take (xs : List V) (m : Nat) : cutV xs none (some (m : Int)) = xs.take m := by
  unfold cutV
  rw [HT.sIx_none, HT.sIx_nat, List.drop_zero, Nat.sub_zero]
  rw [Nat.min_def]
  split
  · rfl
  · rw [List.take_of_length_le (Nat.le_refl _), List.take_of_length_le (by omega)]
end M
namespace G
open PySem PySem.Spec PyProof.Rows L2
/-! ### defs that are called where nothing is being shown: so repr of things may be reckoned -/
/-- what a def promises, called where no guard stands -/
structure FnG (P : Program) (w : World) (K : PySem.W.Frag) (mg : Str → Option Value) (base : Heap) (k : Nat) (f : Addr) (fd : FuncData) (ps : List Str) (sp : Sp) : Prop where
  plen : ∀ us H Q E, sp us H Q E → us.length = ps.length
  go : ∀ (A : Around) (outer : List Env) (s : Shared) (H : Hp) (args : Args) (us : List Value) (vs : List V) (Q : VK) (E : XK), Room k A → A.guards = some [] → Env0 P w K mg base A outer s H →
    BindsTo s fd args (ps.zip us) → Vals vs us → sp vs H Q E → codeAny (model P w) A (.call (.ref f) args) (CR CX0 outer P w H s Q E) s
theorem gd_deeper {A : Around} (env : Env) (h : A.guards = some []) : (A.deeper env).guards = some [] := by
  first | exact h | (simpa [Around.deeper] using h)
section
variable {X : Cx} {k : Nat} {f : Addr} {fd : FuncData} {ps ks : List Str} {sp : Sp} {dvs : List V} {ds : List Value} {E : XK} {x : Str} {p pos : Pos} {e : Expr} {es : List Expr} {kws : List Keyword} {t tk : TA}
theorem run_g {pins : List (Addr × Obj)} {σ : L2.St} {H : Hp} {s : Shared} {Q : VK} {us : List Value} {vs : List V} (F : FnG X.prog X.w X.K X.mg X.base k f fd ps sp) (hr : Room k X.A) (hgd : X.A.guards = some []) (hb : Binds X.K fd ps ds) (hd : Vals dvs ds)
    (I : Inv X pins σ H s) (r : Vals vs us) (h : sp (vs ++ dvs) H Q E) : wpAny (model X.prog X.w) X.A (call (.ref f) us) (EP X pins σ Q) X.xe s := by
  have both := r.append hd
  have n : (us ++ ds).length = ps.length := both.length ▸ F.plen _ _ _ _ h
  have c := F.go X.A X.stack s H ⟨us, []⟩ (us ++ ds) (vs ++ dvs) Q E hr hgd I.env0 (hb s us I.kIn n) both h
  refine wpAny_call (codeAny_mono c fun res s2 z => ?_)
  match res, z with
  | .ok (.ret _), z => exact I.after z
theorem pe_callG (F : FnG X.prog X.w X.K X.mg X.base k f fd ps sp) (hr : Room k X.A) (hgd : X.A.guards = some []) (hg : Gl X x) (hm : X.mg x = some (.ref f)) (hk : PySem.W.keepIn X.K (.ref f) = true) (hb : Binds X.K fd ps ds) (hd : Vals dvs ds)
    (ha : PA X (e :: es) t) (hdb : (x == ("__debug__" : Str)) = false := by decide) (he : starEach (e :: es) X.env = (false, eval e X.env) :: starEach es X.env := by rfl) (hpl : (backTo pos (starEach es X.env)).any (·.1) = false := by rfl) :
    PE X (.Call (.Name x p) (e :: es) [] pos) (tCall sp dvs E0 t) := ⟨fun pins s σ H Q I h =>
  wpAny_Call_Name_kw (ld_glob I hg hm (PySem.W.callWith_K (h₀ := X.base) I.ok.mod.kin hk (thn (ha.run pos pins s σ H _ I h) fun _ _ ⟨_, _, I1, r, q⟩ => ⟨I1.kIn, run_g F hr hgd hb hd I1 r q⟩) he hpl) hdb)⟩
end
section
variable {P : Program} {w : World} {K : PySem.W.Frag} {mg : Str → Option Value} {base : Heap} {k : Nat} {f : Addr} {fd : FuncData} {N ps : List Str} {sp : Sp}
theorem FnG.of (F : FnOk P w K mg base CX0 k f fd ps sp) : FnG P w K mg base k f fd ps sp := ⟨F.len, fun A outer s H args us vs Q E hr _ => F.run A outer s H args us vs Q E hr⟩
/-- a def by its body -/
theorem okG {x qual : Str} {st : Stmt} (F : Fun K x qual st f fd) (S : FnScope N ps (defScope st)) (plen : ∀ us H Q E, sp us H Q E → us.length = ps.length)
    (body : ∀ (cdv : Value) (A : Around) (outer : List Env) (s : Shared) (H : Hp) (vs : List V) (Q : VK) (E : XK), Room k (A.deeper (envOfC qual (defScope st) s.heap.objs.size f cdv)) →
      (A.deeper (envOfC qual (defScope st) s.heap.objs.size f cdv)).guards = some [] → sp vs H Q E →
      ∃ t, PSs (cxOf CX0 P w K mg base N qual (defScope st) f cdv A outer s H E).nox (defBody st) t ∧ t { nx := fun _ H' => Q .non H', rt := Q } (start N vs) H) : FnG P w K mg base (k + 1) f fd ps sp := by
  obtain ⟨oc, od, kV, doc, pm, an, cdv, ct, osl, rfl, lk, hcd⟩ := F.ex
  constructor
  · exact plen
  intro A outer s H args us vs Q E hr hgd e0 hb r hsp
  have old : K.In s.heap := e0.mod.kin.keeps fun b o z => (e0.bs b o z).1
  have nolim : s.heap.NoLimit := e0.mod.nolimit.keeps fun b o z => (e0.bs b o z).1
  have kinds : ∀ y ∈ ps.zip us, (defScope st).names.lookup y.1 = some .local ∨ ((defScope st).names.lookup y.1 = some .cell ∧ ((cellsFrom (s.heap.objs.size + 1) (defScope st).names []).lookup y.1).isSome = true) := by
    rintro ⟨n, v⟩ hy
    rcases S.par n (List.of_mem_zip hy).1 with q | q
    · exact Or.inl q
    · exact Or.inr ⟨q, PySem.W.cellsFrom_some _ _ _ (Or.inl q)⟩
  obtain ⟨t, ht, hq⟩ := body cdv A outer s H vs Q E (hr.deeper _) (gd_deeper _ hgd) hsp
  refine codeAny_call_function hr.depth (old _ _ lk) rfl S.co S.gen rfl (PySem.W.codeRec_of old hcd) (hb _ _ _ _ (wpAny_newFunctionEnv_cells S.kind kinds fun env he s1 x => ?_))
  cases he
  have I : Inv (cxOf CX0 P w K mg base N qual (defScope st) f cdv A outer s H E) [] (start N vs) H s1 := inv_start S hr.hd e0 (plen _ _ _ _ hsp) r x
  refine ⟨nolim.keeps x.toInCall.keep, codeAny_func (wpAny_mono (ht.nox.run [] s1 (start N vs) H _ I hq) ?_ fun _ _ z => z)⟩
  intro fl s2 z
  cases fl with
  | ret u =>
    obtain ⟨v, _, H2, J, rv, q⟩ := z
    exact ⟨v, H2, J.os, J.bare, J.base, J.hok, rv, q⟩
  | next =>
    obtain ⟨_, H2, J, q⟩ := z
    exact ⟨V.non, H2, J.os, J.bare, J.base, J.hok, rfl, q⟩
  | brk => obtain ⟨_, _, _, q⟩ := z; exact q.elim
  | cont => obtain ⟨_, _, _, q⟩ := z; exact q.elim
end
end G
namespace G
open PySem PySem.Spec PyProof.Rows L2
/-! ### the law's end: the def of the law, called where the top has run -/
theorem guards_caller : callerA.guards = some [] := rfl
section
variable {P : Program} {w : World} {K : PySem.W.Frag} {mg mb : Str → Option Value} {k : Nat} {fa a : Addr} {fd : FuncData} {x : Str} {sp : Sp} {s : Shared} {vs : List Value} {ns : List Int}
/-- what is tracked at the law's call: the script, where it is none of the top's own objects -/
def scrH (K : PySem.W.Frag) (a : Addr) (vs : List Value) (ns : List Int) : Hp := fun b => if b = a ∧ K.lookup a = none then some (.frz { cls := .type "list", data := .seq vs.toArray } (.lst (ns.map V.int))) else none
theorem scr_some {b : Addr} {o : HO} (h : scrH K a vs ns b = some o) : b = a ∧ K.lookup a = none ∧ o = .frz { cls := .type "list", data := .seq vs.toArray } (.lst (ns.map V.int)) := by
  unfold scrH at h
  split at h
  · rename_i c
    exact ⟨c.1, c.2, (Option.some.inj h).symm⟩
  · cases h
theorem scr_none {b : Addr} (h : b ≠ a) : scrH K a vs ns b = none := if_neg fun c => h c.1
theorem scr_K {b : Addr} {o : Obj} (h : K.lookup b = some o) : scrH K a vs ns b = none := if_neg fun c => by
  rw [c.1, c.2] at h
  cases h
theorem scr_dict {b : Addr} {o : Obj} {es : Array DictEntry} {ep : Nat} (ha : s.heap.get? a = some { cls := .type "list", data := .seq vs.toArray }) (h : s.heap.get? b = some o) (d : o.data = .dict es ep) : scrH K a vs ns b = none := by
  refine scr_none fun e => ?_
  rw [e, ha] at h
  cases h
  cases d
theorem endG (KX : K.In s.heap) (gm : s.heap.Ns mainGlobals mg) (gb : s.heap.Ns builtinsNs mb) (hbb : ∀ x : Str, x ≠ "__name__" → mb x = bootBuiltins x) (lim : s.heap.NoLimit) (gens : s.gens = #[])
    (ha : s.heap.get? a = some { cls := .type "list", data := .seq vs.toArray }) (hi : IntsAre vs ns) (hl : ns.length ≤ sizeLine) (hr : Room k callerA)
    (F : ∀ base : Heap, K.In base → base.Ns mainGlobals mg → FnG P w K mg base k fa fd [x] sp) (bind : ∀ (s : Shared) (u : Value), BindsTo s fd ⟨[u], []⟩ [(x, u)])
    (hsp : ∀ H : Hp, SqL K H a (ns.map V.int) → sp [.ref a] H (fun v _ => v = .bl true) fun _ _ _ => False) :
    codeAny (model P w) callerA (.call (.ref fa) ⟨[.ref a], []⟩) (fun r s' => r = .ok (.ret (.bool true)) ∧ OldK s.heap s'.heap ∧ s'.os = s.os ∧ AllBare s'.gens) s := by
  have rv := vals_ints hi
  have nl := hi.length
  let H := scrH K a vs ns
  have hok : HOk P w H s.heap := fun b u z => by
    obtain ⟨rfl, _, rfl⟩ := scr_some z
    exact ⟨ha, by rw [List.length_map]; exact hl, vs, _, rv, ha⟩
  have hS : SqL K H a (ns.map V.int) := by
    cases q : K.lookup a with
    | none => exact Or.inl (Or.inr ⟨_, if_pos ⟨rfl, q⟩⟩)
    | some o =>
      have e := KX a o q
      rw [ha] at e
      cases e
      exact Or.inr ⟨_, vs.toArray, _, q, rfl, rfl, rfl, by rw [List.size_toArray, nl]; exact hl, by simpa using rv⟩
  have names : ∀ {b : Addr} {m : Str → Option Value}, s.heap.Ns b m → (hidT s.heap H).Ns b m := by
    rintro b m ⟨o, es, ep, e, d, r⟩
    exact ⟨o, es, ep, hidT_get e (scr_dict ha e d), d, r⟩
  have KB : K.In (hidT s.heap H) := fun b o e => hidT_get (KX b o e) (scr_K e)
  have M : Mod K mg (hidT s.heap H) := by
    obtain ⟨mc, h1, h2⟩ := lim
    exact ⟨KB, names gm, ⟨mb, names gb, hbb⟩, ⟨mc, names h1, h2⟩⟩
  have e0 : Env0 P w K mg (hidT s.heap H) callerA [] s H := by
    refine ⟨rfl, M, fun b o e => of_hidT e, Nat.le_of_eq (hidT_size _ _), trivial, fun b hb => ?_, hok, .of_eq gens⟩
    exact absurd (show b ∈ ([] : List Addr) from hb) (by simp)
  have run := (F _ KB (names gm)).go callerA [] s H ⟨[.ref a], []⟩ [.ref a] [.ref a] _ _ hr guards_caller e0 (bind s (.ref a)) (.cons rfl .nil) (hsp H hS)
  refine codeAny_mono run fun r s2 z => ?_
  match r, z with
  | .ok (.ret u), z =>
    obtain ⟨v, H2, os, bare, un, hok2, rv2, q⟩ := z
    cases (show v = .bl true from q)
    cases (show u = Value.bool true from rv2)
    refine ⟨rfl, OldK.of_keep fun b o e => ?_, os, bare⟩
    cases q : H b with
    | none => exact un.keep b o e q (fun z => absurd (show b ∈ ([] : List Addr) from z) (by simp)) (by simp)
    | some u =>
      obtain ⟨rfl, _, rfl⟩ := scr_some q
      obtain ⟨e2, _⟩ := hok2 b _ (un.frzs b _ _ q)
      rw [ha] at e
      cases e
      exact e2
/-- the goal that the head leaves -/
theorem walkG {l : PySem.W.OpenLaw} {n k : Nat} {q : Program} {loose : List Str} {XP : (Str → Option Value) → Heap → Prop} {YP : World → Heap → Prop} {d : DefRec} {K : Params → PySem.W.Frag} {sp : PySem.W.Frag → Sp} {x : Str}
    (hn : l.most = some n) (hn2 : n ≤ sizeLine) (hdf : d.params.defaults = []) (hr : Room k callerA)
    (hY : ∀ (w : World) (h : Heap), YP w h → (K w.params).In h)
    (F : ∀ (w : World) (mg : Str → Option Value) (fa : Addr) (h : Heap), (K w.params).In h → h.Ns mainGlobals mg → mg d.name = some (.ref fa) →
      ∃ fd : FuncData, (∀ (s : Shared) (u : Value), BindsTo s fd ⟨[u], []⟩ [(x, u)]) ∧
        ∀ base : Heap, (K w.params).In base → base.Ns mainGlobals mg → FnG l.prog w (K w.params) mg base k fa fd [x] (sp (K w.params)))
    (hsp : ∀ (K : PySem.W.Frag) (H : Hp) (a : Addr) (ns : List Int), ns.length ≤ n → SqL K H a (ns.map V.int) → sp K [.ref a] H (fun v _ => v = .bl true) fun _ _ _ => False) :
    PySem.W.WalkO q loose XP YP l.row.toRowW d [] (fun f vs => PySem.call f vs) := by
  refine Att.attach_call hn hdf fun w s₀ s₁ mg mb fa o pm cd doc a vs ns T Y ho hd hcd hmg hobj hints hlen hg => ?_
  obtain ⟨fd, hb, hF⟩ := F w mg fa _ (hY w _ Y) T.T.g hmg
  exact endG (hY w _ Y) T.T.g T.T.b T.T.builtins T.T.nolimit hg hobj hints (Nat.le_trans hlen hn2) hr hF hb fun H => hsp _ H a ns hlen
end
end G
namespace EX
open PySem PySem.Spec PyProof.Rows L2
/-! ### own errors as values: made, their value read, isinstance -/
/-- what the written part says of an own error class, whose __init__ stands at fI -/
structure ErrC (K : PySem.W.Frag) (fI C : Addr) : Prop where
  oex : OexC K C
  ini : PySem.W.findIn K (.ref C) "__init__" = some (some (.ref fI))
  noV : PySem.W.findIn K (.ref C) "value" = some none
  ga : PySem.W.findIn K (.ref C) "__getattribute__" = some (some (.builtin "BaseException.__getattribute__"))
  gg : PySem.W.findIn K (.ref C) "__getattr__" = some none
  hd : PySem.W.hasDictIn K C = true
  hcl : (PySem.W.clsIn K C).isSome = true
  ha : PySem.W.findIn K (.ref C) "__class__" = some (some (.builtin "object.__class__"))
  hm : PySem.W.mroIn K C (.type "object") = some true
/-- at e: an own error of the class at C that keeps v -/
def ErrAt (H : Hp) (e C : Addr) (v : V) : Prop := ∃ d, H e = some (exo e C (some d)) ∧ H d = some (exd d [(("value" : Str), v)])
theorem ErrAt.mono {H H' : Hp} {e C : Addr} {v : V} (s : Same H H') (h : ErrAt H e C v) : ErrAt H' e C v := let ⟨d, a, b⟩ := h; ⟨d, s _ _ a, s _ _ b⟩
def sp_eini (K : PySem.W.Frag) : Sp := fun vs H Q _ => ∃ (a C : Addr) (v : V), vs = [.ref a, v] ∧ OexC K C ∧ PySem.W.findIn K (.ref C) "value" = some none ∧ H a = some (exo a C none) ∧
  ∀ dx, H dx = none → dx ≠ a → Q .non (upd (upd H dx (exd dx [(("value" : Str), v)])) a (exo a C (some dx)))
/-- C(e) -/
def tMkE (C : Addr) (ta : TA) : TE := fun σ H Q => ta σ H fun vs H1 => ∃ v, vs = [v] ∧ ∀ e H2, H1 e = none → Same H1 H2 → ErrAt H2 e C v → Q (.ref e) H2
section
variable {X : Cx} {K : PySem.W.Frag} {fI : Addr}
theorem pe_mkE {x : Str} {C : Addr} {k : Nat} {fd : FuncData} {e : Expr} {ta : TA} {p pos : Pos} (T : ErrC X.K fI C) (tI : PySem.W.typeIn X.K (.ref fI) = some (.type "function"))
    (F1 : FnOk X.prog X.w X.K X.mg X.base CX0 k fI fd ["self", "value"] (sp_eini X.K)) (hr : Room (k + 1) X.A) (hb : Binds X.K fd ["self", "value"] []) (hg : Gl X x) (hm : X.mg x = some (.ref C)) (ha : PA X [e] ta)
    (hdb : (x == ("__debug__" : Str)) = false := by decide) (he : starEach (e :: []) X.env = (false, eval e X.env) :: starEach [] X.env := by rfl) (hpl : (backTo pos (starEach [] X.env)).any (·.1) = false := by rfl) :
    PE X (.Call (.Name x p) [e] [] pos) (tMkE C ta) := by
  constructor
  intro pins s σ H Q I h
  obtain ⟨nm, q, N, bs, bm, sn, sub, ab, col, dd, k0, k1, k2, k3, k5, hC, hbm⟩ := T.oex.cls
  refine wpAny_Call_Name_kw (ld_glob I hg hm (PySem.W.callWith_K (h₀ := X.base) I.ok.mod.kin T.oex.kC (thn (ha.run pos pins s σ H _ I h) fun us s1 ⟨vs, H1, I1, r1, v, ev, kk⟩ => ⟨I1.kIn, ?_⟩) he hpl) hdb)
  subst ev
  obtain ⟨u, rfl, ru⟩ := r1.one
  show wpAny _ _ (call (.ref C) [u]) _ _ _
  obtain ⟨hp, g, dr, tk, os⟩ := s1
  have hn : H1 (hp.objs.size + 1) = none := I1.hok.fresh (Nat.le_succ _)
  have old : ∀ b o, hp.get? b = some o → ((hp.push (PySem.W.kdv_tup [u])).push (PySem.HandSPX.excO C hp.objs.size)).get? b = some o := fun b o z => Heap.get?_push_of_some _ (Heap.get?_push_of_some _ z)
  have there : ((hp.push (PySem.W.kdv_tup [u])).push (PySem.HandSPX.excO C hp.objs.size)).get? (hp.objs.size + 1) = some (PySem.HandSPX.excO C hp.objs.size) := by heap_get
  have I2 : Inv X pins σ (upd H1 (hp.objs.size + 1) (exo (hp.objs.size + 1) C none)) ⟨(hp.push (PySem.W.kdv_tup [u])).push (PySem.HandSPX.excO C hp.objs.size), g, dr, tk, os⟩ :=
    I1.laid (t' := tk) (a := hp.objs.size + 1) (o := exo (hp.objs.size + 1) C none) (h' := (hp.push (PySem.W.kdv_tup [u])).push (PySem.HandSPX.excO C hp.objs.size)) old (Nat.le_succ _) (exo_ok there)
  have sp : sp_eini X.K [.ref (hp.objs.size + 1), v] (upd H1 (hp.objs.size + 1) (exo (hp.objs.size + 1) C none)) (fun v2 H2 => v2 = .non ∧ Q (.ref (hp.objs.size + 1)) H2) fun _ _ _ => False := by
    refine ⟨_, C, v, rfl, T.oex, T.noV, upd_same, fun dx n ne => ⟨rfl, kk _ _ hn (fun b o z => ?_) ⟨dx, upd_same, ?_⟩⟩⟩
    · have b1 : b ≠ hp.objs.size + 1 := ne_of_none z hn
      have b2 : b ≠ dx := ne_of_none z (by rw [upd_ne ne] at n; exact n)
      rw [upd_ne b1, upd_ne b2, upd_ne b1]
      exact z
    · rw [upd_ne ne, upd_same]
  have line : [u].length ≤ sizeLine := by rw [sizeLine_eq]; show 1 ≤ _; omega
  have rr : Vals [V.ref (hp.objs.size + 1), v] [Value.ref (hp.objs.size + 1), u] := .cons rfl (.cons ru .nil)
  refine wpAny_call (PySem.HandSPX.call_own F.excBase_ValueError (fun Y => PySem.HandSPX.refsVE_contains Y bm hbm) (I1.kIn _ _ hC) (PySem.W.looks_findIn I1.kIn T.ini) (fun self => PySem.W.bind_fn I1.kIn self tI) line
    (codeAny_mono (F1.run _ X.stack _ _ ⟨[Value.ref (hp.objs.size + 1), u], []⟩ [Value.ref (hp.objs.size + 1), u] _ _ _ (hr.make C [u] []) (I2.env0.make C [u] []) (hb _ [Value.ref (hp.objs.size + 1), u] I2.kIn rfl) rr sp) fun r s2 z => ?_))
  match r, z with
  | .ok (.ret u2), z =>
    obtain ⟨v2, H2, I3, rv, ev, q3⟩ := I2.after z
    subst ev
    exact ⟨rv, ⟨.ref (hp.objs.size + 1), H2, I3, rfl, q3⟩⟩
/-- e.value -/
def tErrF (K : PySem.W.Frag) (fI : Addr) (te : TE) : TE := fun σ H Q => te σ H fun x H1 => ∃ a C v, x = .ref a ∧ ErrC K fI C ∧ ErrAt H1 a C v ∧ Q v H1
theorem inst_err {pins : List (Addr × Obj)} {σ : L2.St} {H : Hp} {s : Shared} {a C : Addr} {v : V} (I : Inv X pins σ H s) (h : ErrAt H a C v) : ∃ (oe od : Obj) (mA : Str → Option Value), PySem.W.InstAt s.heap a oe C (some od) ∧ (∀ name, PySem.W.lookIn name od = some (mA name)) ∧ RelO (some v) (mA "value") := by
  obtain ⟨d, ea, ed⟩ := h
  obtain ⟨t1, ho⟩ := exo_at I.hok ea
  obtain ⟨mA, hns, rel⟩ := exd_at I.hok ed
  obtain ⟨od, hod, hl⟩ := lookIn_ns hns
  have l : List.lookup ("value" : Str) [(("value" : Str), v)] = some v := by simp [List.lookup]
  exact ⟨_, od, mA, ⟨ho, rfl, rfl, hod⟩, hl, l ▸ rel "value"⟩
theorem pe_errF {e : Expr} {te : TE} {pos : Pos} (hK : X.K = K) (he : PE X e te) (hb : attributeBase e "value" X.env (eval e X.env) = eval e X.env := by rfl) : PE X (.Attribute e "value" pos) (tErrF K fI te) := by
  subst hK
  constructor
  intro pins s σ H Q I h
  refine attr_of hb (thn (he.run pins s σ H _ I h) fun u s1 ⟨x, H1, I1, rx, a, C, v, ex, T, ea, q⟩ => ?_)
  subst ex
  cases (show u = Value.ref a from rx)
  obtain ⟨oe, od, mA, J, hl, rel⟩ := inst_err I1 ea
  obtain ⟨w, hw, rw'⟩ := RelO.some_of rel
  exact HandSPX.exc_get I1.kIn J T.ga T.gg T.oex.exC (PySem.W.findObj_own T.hd T.noV rfl (by rw [hl, hw])) (handed_of rw') ⟨v, H1, I1.tok _, rw', q⟩
/-- isinstance(e, C2) -/
def rIsErr (K : PySem.W.Frag) (fI : Addr) : List V → Hp → VK → Prop := fun xs H Q => ∃ (a C : Addr) (v c : V) (u : Value) (b : Bool), xs = [.ref a, c] ∧ ErrAt H a C v ∧ ErrC K fI C ∧ ClsV c u ∧ PySem.W.kitOne K (.ref C) u = some b ∧ Q (.bl b) H
theorem call_isErr (hK : X.K = K) (hn : PySem.W.specialIn K (.builtin "object.__class__") "__get__" = some (some (.builtin "getset_descriptor.__get__"))) (htk : PySem.W.takesIn K (.builtin "object.__class__") = some true) : CallR X (.builtin "isinstance") (rIsErr K fI) := by
  subst hK
  intro pins s σ H xs us Q I r h
  obtain ⟨a, C, v, c, u, b, rfl, ea, T, k, e, q⟩ := h
  obtain ⟨u1, u2, rfl, r1, r2⟩ := r.two
  cases (show u1 = Value.ref a from r1)
  have e2 := k.eq r2
  subst e2
  obtain ⟨oe, od, mA, J, _, _⟩ := inst_err I ea
  exact PySem.W.kia_one (PySem.W.kitx_exc T.hcl T.ga T.gg T.oex.exC T.ha hn htk T.hm) I.kIn J e (fun z => nomatch z) fun tk => ⟨.bl b, H, I.tok tk, rfl, q⟩
end
/-! ### the reading's steps -/
section
variable {K : PySem.W.Frag} {fI : Addr} {σ : L2.St} {H : Hp} {Q : VK}
theorem g_mkE {C : Addr} {ta : TE} (q : ta σ H fun v H1 => ∀ e H2, H1 e = none → Same H1 H2 → ErrAt H2 e C v → Q (.ref e) H2) : tMkE C (tCons ta tNil) σ H Q :=
  (show ta σ H fun x H1 => ∃ v, [x] = [v] ∧ ∀ e H2, H1 e = none → Same H1 H2 → ErrAt H2 e C v → Q (.ref e) H2 from (show (fun v H1 => ∀ e H2, H1 e = none → Same H1 H2 → ErrAt H2 e C v → Q (.ref e) H2) = (fun x H1 => ∃ v, [x] = [v] ∧ ∀ e H2, H1 e = none → Same H1 H2 → ErrAt H2 e C v → Q (.ref e) H2) from by
    funext x H1
    exact propext ⟨fun z => ⟨x, rfl, z⟩, fun ⟨v, e, z⟩ => by cases e; exact z⟩) ▸ q)
theorem g_errF {te : TE} (q : te σ H fun x H1 => ∃ a C v, x = .ref a ∧ ErrC K fI C ∧ ErrAt H1 a C v ∧ Q v H1) : tErrF K fI te σ H Q := q
theorem e_errF {a C : Addr} {v : V} {R : V → Hp → Prop} (T : ErrC K fI C) (e : ErrAt H a C v) (q : R v H) : ∃ a2 C2 v2, V.ref a = .ref a2 ∧ ErrC K fI C2 ∧ ErrAt H a2 C2 v2 ∧ R v2 H := ⟨a, C, v, rfl, T, e, q⟩
theorem e_isErr {a C D : Addr} {v : V} {b : Bool} (T : ErrC K fI C) (e : ErrAt H a C v) (k : PySem.W.kitOne K (.ref C) (.ref D) = some b) (q : Q (.bl b) H) : rIsErr K fI [.ref a, .ref D] H Q := ⟨a, C, v, _, _, b, rfl, e, T, .own D, k, q⟩
theorem e_isErrT {a C : Addr} {n : String} {v : V} {b : Bool} (T : ErrC K fI C) (e : ErrAt H a C v) (k : PySem.W.kitOne K (.ref C) (.type n) = some b) (q : Q (.bl b) H) : rIsErr K fI [.ref a, .ty n] H Q := ⟨a, C, v, _, _, b, rfl, e, T, .ty n, k, q⟩
end
end EX
namespace EX
open PySem PySem.Spec PyProof.Rows L2
/-! ### the facts of own error classes, by one look at the written part -/
/-- the class object of an own error class, and its bases' chain -/
def excB (K : PySem.W.Frag) (C Cr : Addr) : Bool := match K.lookup C with
  | some ⟨.type "type", _, .cls cd, sl⟩ => (match sl.toList with
    | [_, _, _, _, some (.builtin n), _] => n == "ValueError.__new__" && (!cd.hasDel && (cd.hasDict && (cd.mro == (if C = Cr then [] else [.ref C]) ++ [.ref Cr, .type "ValueError", .type "Exception", .type "BaseException", .type "object"])))
    | _ => false)
  | _ => false
def chain (C Cr : Addr) : List Value := (if C = Cr then [] else [.ref C]) ++ [.ref Cr, .type "ValueError", .type "Exception", .type "BaseException", .type "object"]
theorem chain_head (C Cr : Addr) : ∃ bm, chain C Cr = .ref C :: bm ∧ PySem.HandSPX.refsVE bm = true := by
  unfold chain
  by_cases h : C = Cr
  · subst h
    rw [if_pos rfl]
    exact ⟨_, rfl, by decide +kernel⟩
  · rw [if_neg h]
    exact ⟨_, rfl, by
      show PySem.HandSPX.refsVE [.type "ValueError", .type "Exception", .type "BaseException", .type "object"] = true
      decide +kernel⟩
theorem excB_ok {K : PySem.W.Frag} {C Cr : Addr} (q : excB K C Cr = true) :
    (∃ nm q N bs bm sn sub ab col dd k0 k1 k2 k3 k5, K.lookup C = some (excClassObj nm q C N bs bm true sn sub ab col dd k0 k1 k2 k3 k5 "ValueError.__new__") ∧ PySem.HandSPX.refsVE bm = true) ∧ ∃ cd, PySem.W.clsIn K C = some cd ∧ cd.mro = chain C Cr := by
  unfold excB at q
  split at q
  · rename_i dd cd sl ho
    split at q
    · rename_i k0 k1 k2 k3 n k5 hs
      simp only [Bool.and_eq_true, beq_iff_eq, Bool.not_eq_true'] at q
      obtain ⟨rfl, hdel, hdict, hm⟩ := q
      have hcl : PySem.W.clsIn K C = some cd := by unfold PySem.W.clsIn; rw [ho] <;> rfl
      refine ⟨?_, cd, hcl, hm⟩
      obtain ⟨bm, e, r⟩ := chain_head C Cr
      obtain ⟨nm, bs, mro, ns, qn, hd, sn, sub, ab, col, del⟩ := cd
      dsimp only at hm hdel hdict
      have hm : mro = .ref C :: bm := by rw [hm]; exact e
      subst hm hdel hdict
      have hsl : sl = #[k0, k1, k2, k3, some (.builtin "ValueError.__new__"), k5] := by
        obtain ⟨l⟩ := sl
        simp only at hs
        rw [hs]
      subst hsl
      exact ⟨nm, qn, ns, bs, bm, sn, sub, ab, col, dd, k0, k1, k2, k3, k5, ho, r⟩
    · cases q
  · cases q
def errB (K : PySem.W.Frag) (fI Cr C : Addr) : Bool := excB K C Cr && (
  decide (PySem.W.findIn K (.ref C) "__setattr__" = some (some (.builtin "object.__setattr__"))) && (decide (PySem.W.typeIn K (.ref C) = some (.type "type")) && (PySem.W.keepIn K (.ref C) && (
  decide (PySem.W.findIn K (.ref C) "__init__" = some (some (.ref fI))) && (decide (PySem.W.findIn K (.ref C) "value" = some none) && (
  decide (PySem.W.findIn K (.ref C) "__getattribute__" = some (some (.builtin "BaseException.__getattribute__"))) && (decide (PySem.W.findIn K (.ref C) "__getattr__" = some none) && (PySem.W.hasDictIn K C &&
  decide (PySem.W.findIn K (.ref C) "__class__" = some (some (.builtin "object.__class__")))))))))))
theorem mro_has {K : PySem.W.Frag} {C Cr : Addr} {cd : ClassData} (h : PySem.W.clsIn K C = some cd) (m : cd.mro = chain C Cr) (v : Value) : PySem.W.mroIn K C v = some ((chain C Cr).contains v) := by
  unfold PySem.W.mroIn
  rw [h, Option.bind_some, m]
  obtain ⟨bm, e, _⟩ := chain_head C Cr
  rw [if_neg (by rw [e]; simp)]
theorem chain_has (C Cr : Addr) (v : Value) (h : v ∈ [Value.type "ValueError", .type "Exception", .type "BaseException", .type "object"]) : (chain C Cr).contains v = true := by
  rw [List.contains_iff_mem]
  exact List.mem_append_right _ (List.mem_cons_of_mem _ h)
theorem errB_ok {K : PySem.W.Frag} {fI Cr C : Addr} (q : errB K fI Cr C = true) : ErrC K fI C ∧ (∃ cd, PySem.W.clsIn K C = some cd ∧ cd.mro = chain C Cr) ∧ PySem.W.typeIn K (.ref C) = some (.type "type") := by
  unfold errB at q
  simp only [Bool.and_eq_true, decide_eq_true_eq] at q
  obtain ⟨h1, h2, h3, h4, h5, h6, h7, h8, h9, h10⟩ := q
  obtain ⟨e1, cd, e2, e3⟩ := excB_ok h1
  refine ⟨⟨⟨e1, h2, ?_, h3, h4⟩, h5, h6, h7, h8, h9, by rw [e2]; rfl, h10, ?_⟩, ⟨cd, e2, e3⟩, h3⟩
  · show PySem.W.mroIn K C _ = _
    rw [mro_has e2 e3, chain_has _ _ _ (by simp)]
  · rw [mro_has e2 e3, chain_has _ _ _ (by simp)]
/-- isinstance of an own error, by the chains -/
theorem kit_own {K : PySem.W.Frag} {C D Cr : Addr} (h : ∃ cd, PySem.W.clsIn K C = some cd ∧ cd.mro = chain C Cr) (hD : ∃ cd, PySem.W.clsIn K D = some cd ∧ cd.mro = chain D Cr) (tD : PySem.W.typeIn K (.ref D) = some (.type "type")) :
    PySem.W.kitOne K (.ref C) (.ref D) = some (decide (D = C ∨ D = Cr)) := by
  obtain ⟨cd, e2, e3⟩ := h
  obtain ⟨cd', f2, _⟩ := hD
  unfold PySem.W.kitOne
  by_cases e : C = D
  · subst e
    rw [if_pos (beq_self_eq_true _), decide_eq_true (Or.inl rfl)]
  · rw [if_neg (by intro z; exact e (Value.ref.inj (beq_iff_eq.mp z)))]
    have : PySem.W.kitCls K (.ref C) (.ref D) = PySem.W.subIn K (.ref C) (.ref D) := by
      first
        | (unfold PySem.W.kitCls; simp only [f2, tD]; rfl)
        | (unfold PySem.W.kitCls; simp [f2, tD])
    rw [this]
    show PySem.W.mroIn K C _ = _
    rw [mro_has e2 e3]
    congr 1
    unfold chain
    have e' : ¬ D = C := fun z => e z.symm
    by_cases c : C = Cr
    · subst c
      rw [if_pos rfl]
      simp [e']
    · rw [if_neg c]
      by_cases d : D = Cr
      · subst d; simp
      · simp [e', d]
theorem kit_type {K : PySem.W.Frag} {C Cr : Addr} (h : ∃ cd, PySem.W.clsIn K C = some cd ∧ cd.mro = chain C Cr) : PySem.W.kitOne K (.ref C) (.type "ValueError") = some true := by
  obtain ⟨cd, e2, e3⟩ := h
  have : PySem.W.kitOne K (.ref C) (.type "ValueError") = PySem.W.subIn K (.ref C) (.type "ValueError") := by rfl
  rw [this]
  show PySem.W.mroIn K C _ = _
  rw [mro_has e2 e3, chain_has _ _ _ (by simp)]
theorem getD_mem {α : Type} {xs : List α} {i : Nat} {d : α} (h : i < xs.length) : xs.getD i d ∈ xs := by
  rw [List.getD_eq_getElem?_getD, List.getElem?_eq_getElem h]
  exact List.getElem_mem h
theorem nodup_at {xs : List Nat} (nd : xs.Nodup) {i j : Nat} (hi : i < xs.length) (hj : j < xs.length) (e : xs.getD i 0 = xs.getD j 0) : i = j := by
  rw [List.getD_eq_getElem?_getD, List.getD_eq_getElem?_getD, List.getElem?_eq_getElem hi, List.getElem?_eq_getElem hj] at e
  rcases Nat.lt_trichotomy i j with z | z | z
  · exact absurd e (List.pairwise_iff_getElem.mp nd i j hi hj z)
  · exact z
  · exact absurd e.symm (List.pairwise_iff_getElem.mp nd j i hj hi z)
section
variable {K : PySem.W.Frag} {C D Cr : Addr}
theorem kit_ij {xs : List Addr} {i j : Nat} (h : ∃ cd, PySem.W.clsIn K (xs.getD i 0) = some cd ∧ cd.mro = chain (xs.getD i 0) Cr) (hD : ∃ cd, PySem.W.clsIn K (xs.getD j 0) = some cd ∧ cd.mro = chain (xs.getD j 0) Cr) (tD : PySem.W.typeIn K (.ref (xs.getD j 0)) = some (.type "type"))
    (ne : ¬ xs.getD j 0 = Cr) (nd : xs.Nodup) (hi : i < xs.length) (hj : j < xs.length) : PySem.W.kitOne K (.ref (xs.getD i 0)) (.ref (xs.getD j 0)) = some (decide (i = j)) := by
  rw [kit_own h hD tD]
  congr 1
  by_cases e : i = j
  · subst e
    rw [decide_eq_true rfl, decide_eq_true (Or.inl rfl)]
  · rw [decide_eq_false e, decide_eq_false]
    rintro (z | z)
    · exact e (nodup_at nd hj hi z).symm
    · exact ne z
theorem kit_no (h : ∃ cd, PySem.W.clsIn K Cr = some cd ∧ cd.mro = chain Cr Cr) (hD : ∃ cd, PySem.W.clsIn K D = some cd ∧ cd.mro = chain D Cr) (tD : PySem.W.typeIn K (.ref D) = some (.type "type")) (ne : ¬ D = Cr) : PySem.W.kitOne K (.ref Cr) (.ref D) = some false := by
  rw [kit_own h hD tD, decide_eq_false]
  rintro (z | z) <;> exact ne z
theorem kit_up (h : ∃ cd, PySem.W.clsIn K C = some cd ∧ cd.mro = chain C Cr) (hD : ∃ cd, PySem.W.clsIn K Cr = some cd ∧ cd.mro = chain Cr Cr) (tD : PySem.W.typeIn K (.ref Cr) = some (.type "type")) : PySem.W.kitOne K (.ref C) (.ref Cr) = some true := by
  rw [kit_own h hD tD, decide_eq_true (Or.inr rfl)]
end
end EX
namespace QD
open PySem PySem.Spec PyProof.Rows L2
/-! ### repr, != and count of data; small dicts among them -/
/-- v is the datum d -/
inductive Dq (K : PySem.W.Frag) (H : Hp) : V → PyData → Prop
  | dp {v : V} {d : PyData} (h : Dp K H v d) : Dq K H v d
  | d0 {a : Addr} (h : H a = some (.dK [])) : Dq K H (.ref a) (.dict [])
  | d1 {a : Addr} {x : Str} {i : Int} (h : H a = some (.dK [(Sum.inr x, .int i)])) : Dq K H (.ref a) (.dict [(.str x, .int i)])
theorem seqT {K : PySem.W.Frag} {H H' : Hp} {a : Addr} {xs : List V} (s : Same H H') (h : SqT K H a xs) : SqT K H' a xs := by
  rcases h with (h | ⟨o, h⟩) | h
  · exact Or.inl (Or.inl (s _ _ h))
  · exact Or.inl (Or.inr ⟨o, s _ _ h⟩)
  · exact Or.inr h
mutual
theorem dp_mono {K : PySem.W.Frag} {H H' : Hp} (s : Same H H') : ∀ (d : PyData) (v : V), Dp K H v d → Dp K H' v d
  | .none, _, h => by cases h; exact .non
  | .bool b, _, h => by cases h; exact .bl b
  | .int i, _, h => by cases h; exact .int i
  | .str x, _, h => by cases h; exact .str x
  | .list ds, _, h => by
    cases h with
    | lst hs ha => exact .lst (s.seq hs) (dpa_mono s ds _ ha)
  | .tuple ds, _, h => by
    cases h with
    | tup hs ha => exact .tup (seqT s hs) (dpa_mono s ds _ ha)
  | .dict _, _, h => by cases h
theorem dpa_mono {K : PySem.W.Frag} {H H' : Hp} (s : Same H H') : ∀ (ds : List PyData) (vs : List V), DpAll K H vs ds → DpAll K H' vs ds
  | [], _, h => by cases h; exact .nil
  | d :: ds, _, h => by
    cases h with
    | cons h1 h2 => exact .cons (dp_mono s d _ h1) (dpa_mono s ds _ h2)
end
theorem Dq.mono {K : PySem.W.Frag} {H H' : Hp} {v : V} {d : PyData} (s : Same H H') (h : Dq K H v d) : Dq K H' v d := by
  cases h with
  | dp h => exact .dp (dp_mono s d v h)
  | d0 h => exact .d0 (s _ _ h)
  | d1 h => exact .d1 (s _ _ h)
mutual
theorem dp_noDict {K : PySem.W.Frag} {H : Hp} : ∀ (d : PyData) (v : V), Dp K H v d → d.hasDict = false
  | .none, _, _ => by simp only [PyData.hasDict]
  | .bool _, _, _ => by simp only [PyData.hasDict]
  | .int _, _, _ => by simp only [PyData.hasDict]
  | .str _, _, _ => by simp only [PyData.hasDict]
  | .list ds, _, h => by
    cases h with
    | lst _ ha => simp only [PyData.hasDict]; exact dpa_noDict ds _ ha
  | .tuple ds, _, h => by
    cases h with
    | tup _ ha => simp only [PyData.hasDict]; exact dpa_noDict ds _ ha
  | .dict _, _, h => by cases h
theorem dpa_noDict {K : PySem.W.Frag} {H : Hp} : ∀ (ds : List PyData) (vs : List V), DpAll K H vs ds → PyData.hasDictAll ds = false
  | [], _, _ => by simp only [PyData.hasDictAll]
  | d :: ds, _, h => by
    cases h with
    | cons h1 h2 => simp only [PyData.hasDictAll, dp_noDict d _ h1, dpa_noDict ds _ h2, Bool.or_false]
end
section
variable {X : Cx} {K : PySem.W.Frag}
theorem Dq.reads {pins : List (Addr × Obj)} {σ : L2.St} {H : Hp} {s : Shared} (I : Inv X pins σ H s) {v : V} {d : PyData} {u : Value} (h : Dq X.K H v d) (r : RelV v u) : ∃ as, Reads s.heap u d as ∧ (d.hasDict = true → sysModules ∉ as) := by
  cases h with
  | dp h =>
    obtain ⟨as, q⟩ := Dp.reads I d v u h r
    refine ⟨as, q, fun hd => ?_⟩
    exact absurd hd (by rw [dp_noDict d v h]; exact Bool.false_ne_true)
  | @d0 a h =>
    cases (show u = Value.ref a from r)
    obtain ⟨_, ns, vs, kv, o, es, ep, e1, ex, e2, ko, pr, nd⟩ := (show ObjOk X.prog X.w H s.heap a (.dK []) from I.hok a _ h)
    cases kv
    generalize hl : es.toList = l at pr
    cases pr
    refine ⟨_, .dict e1 ex.1 e2 (as := []) (bs := []) (by rw [hl]; exact .nil) (by rw [hl]; exact .nil), fun _ hm => ?_⟩
    have hm : sysModules ∈ [a] := by simpa using hm
    rw [List.mem_singleton] at hm
    rw [← hm] at ns
    cases ns
  | @d1 a x i h =>
    cases (show u = Value.ref a from r)
    obtain ⟨_, ns, vs, kv, o, es, ep, e1, ex, e2, ko, pr, nd⟩ := (show ObjOk X.prog X.w H s.heap a (.dK [(Sum.inr x, .int i)]) from I.hok a _ h)
    cases kv with
    | @cons _ p _ ps h1 h2 =>
      cases h2
      obtain ⟨k', u'⟩ := p
      obtain ⟨z1, z2⟩ := h1
      have z1 : (Sum.inr x : Key) = k' := z1
      subst z1
      obtain ⟨t, z2⟩ := (show ∃ t, u' = Value.int i t from z2)
      subst z2
      generalize hl : es.toList = l at pr
      cases pr with
      | @cons e kv es2 kvs hk hv p2 =>
        cases p2
        obtain ⟨tx, ek⟩ : ∃ t, e.key = Value.str x t := by
          rcases keyIs_shape (show keyIs (Sum.inr x) e.key = true from hk) with ⟨i2, t2, q, _⟩ | ⟨x2, t2, q, q2⟩
          · cases q
          · cases q; exact ⟨t2, q2⟩
        have ev : e.val = Value.int i t := hv
        refine ⟨_, .dict e1 ex.1 e2 (as := [] ++ []) (bs := [] ++ []) ?_ ?_, fun _ hm => ?_⟩
        · rw [hl]
          show ReadsAll s.heap [e.key] [.str x] _
          rw [ek]
          exact .cons (.str x tx) .nil
        · rw [hl]
          show ReadsAll s.heap [e.val] [.int i] _
          rw [ev]
          exact .cons (.int i t) .nil
        · have hm : sysModules ∈ [a] := by simpa using hm
          rw [List.mem_singleton] at hm
          rw [← hm] at ns
          cases ns
/-- repr(x) -/
def rRep (K : PySem.W.Frag) : List V → Hp → VK → Prop := fun xs H Q => ∃ x d, xs = [x] ∧ Dq K H x d ∧ d.showable = true ∧ d.depth ≤ 50 ∧ d.shown.length ≤ sizeLine ∧ Q (.str d.shown) H
theorem call_rep (hK : X.K = K) (hgd : X.A.guards = some []) (hu : X.A.units + 64 < cLine) : CallR X (.builtin "repr") (rRep K) := by
  subst hK
  intro pins s σ H xs us Q I r h
  obtain ⟨x, d, rfl, hx, hs, hdp, hz, q⟩ := h
  obtain ⟨u, rfl, ru⟩ := r.one
  have rf : ∀ a, x = V.ref a → wpAny (model X.prog X.w) X.A (call (.builtin "repr") [u]) (EP X pins σ Q) X.xe s := by
    intro a ex
    subst ex
    cases (show u = Value.ref a from ru)
    obtain ⟨as, rd, hsm⟩ := hx.reads I (u := Value.ref a) rfl
    exact repr_of_reads' rd hs hsm hgd (by omega) (fun _ _ e => e) (fun h' u tk hk => ⟨.str d.shown, H, I.kept (t' := tk) hk, ⟨u, rfl⟩, q⟩) hz
  cases hx with
  | d0 h => exact rf _ rfl
  | d1 h => exact rf _ rfl
  | dp h =>
    cases h with
    | lst h1 h2 => exact rf _ rfl
    | tup h1 h2 => exact rf _ rfl
    | non => cases (show u = Value.none from ru); simp only [PyData.shown] at q; exact P.repr_of_none ⟨.str "None", H, I.tok _, ⟨_, rfl⟩, q⟩
    | bl b => cases (show u = Value.bool b from ru); simp only [PyData.shown] at q; exact P.repr_of_bool ⟨.str (if b then "True" else "False"), H, I.tok _, ⟨_, rfl⟩, q⟩
    | int i =>
      obtain ⟨t, rfl⟩ := (show ∃ t, u = Value.int i t from ru)
      simp only [PyData.shown] at q
      simp only [PyData.showable] at hs
      exact P.repr_of_int (of_decide_eq_true hs) ⟨.str (toString i), H, I.tok _, ⟨_, rfl⟩, q⟩
    | str z =>
      obtain ⟨t, rfl⟩ := (show ∃ t, u = Value.str z t from ru)
      simp only [PyData.shown] at q hz
      exact P.repr_of_str ⟨.str (reprText z), H, I.tok _, ⟨_, rfl⟩, q⟩ hz
/-- l.count(y) of flat values -/
def rCntF (K : PySem.W.Frag) : V → List V → Hp → VK → Prop := fun x xs H Q => ∃ (p : Addr) (ys : List V) (y : V), x = .ref p ∧ xs = [y] ∧ SqL K H p ys ∧ flatV y = true ∧ ys.all flatV = true ∧ Q (.int ((ys.countP fun z => eqV z y : Nat) : Int)) H
theorem cnt_rel {y : V} : ∀ {ys : List V} {its : List Value}, Vals ys its → ys.all flatV = true → its.countP (eqU y) = ys.countP fun z => eqV z y
  | _, _, .nil, _ => rfl
  | z :: ys, u :: its, .cons r t, f => by
    rw [List.all_cons, Bool.and_eq_true] at f
    rw [List.countP_cons, List.countP_cons, cnt_rel t f.2, eqU_of r f.1]
theorem mt_cntF (hK : X.K = K) : MtR X "list.count" (rCntF K) := by
  subst hK
  intro pins s σ H x xs v us Q I rx rxs h
  obtain ⟨p, ys, y, rfl, rfl, hs, fy, fys, q⟩ := h
  cases rx
  obtain ⟨u, rfl, ru⟩ := rxs.one
  obtain ⟨its, rv, ⟨⟨cls, dd, data, sl⟩, n, ho, hc, hdn, hd⟩, hlen⟩ := I.list hs
  simp only at hc hd
  subst hc hd
  refine call_meets PySem.F.slot_list_count ⟨_, ho, rfl⟩ PySem.F.entry_list_count (PySem.F.args_list_count_2 _ _)
    (SeqAt.list_countAt p its.toArray n dd sl u (eqU y)) ⟨ho, fun u' hu' => mem_eqAt ru fy rv fys u' (by simpa using hu'), ?_⟩
  exact ⟨.int ((ys.countP fun z => eqV z y : Nat) : Int), H, I.tok _, ⟨s.toks, by rw [← cnt_rel (y := y) rv fys]⟩, q⟩
end
end QD
namespace HX
open PySem PySem.Spec PyProof.Rows L2 He
/-! ### the head's facts, with a look of one's own at the written part -/
/-- what the names stand for, and what these objects name: twice over -/
def nmA (g : Addr → Option Obj) (nm : List Str) : List Addr := nm.map fun x => ga (frG g [mainGlobals]) x
def nxt (g : Addr → Option Obj) (as : List Addr) : List Addr := as.flatMap fun a => match g a with
  | some o => (match o.data with
    | .dict es _ => es.toList.flatMap fun e => refV e.val
    | .func fd => refV fd.code
    | .cls cd => [cd.ns]
    | _ => [])
  | none => []
def asX (g : Addr → Option Obj) (nm : List Str) : List Addr :=
  let a1 := nmA g nm
  let a2 := nxt g a1
  let a3 := nxt g a2
  let a4 := nxt g a3
  mainGlobals :: (a1 ++ (a2 ++ (a3 ++ a4)))
def obsX (nm : List Str) (fa : List Fa) (fn : List FnD) (xb : PySem.W.Frag → Bool) (g : Addr → Option Obj) : Al × Bool := (fun K : PySem.W.Frag => (obsE fa fn K, xb K)) (frG g (asX g nm))
def hookX (nm : List Str) (fa : List Fa) (fn : List FnD) (xb : PySem.W.Frag → Bool) : PySem.W.Hook where
  α := Al × Bool
  obs := fun s => obsX nm fa fn xb s.heap.get?
  val := fun _ => (valE fn, true)
  says := fun _ h => ∃ K : PySem.W.Frag, K.In h ∧ SaysE fa fn K ∧ xb K = true
  of := fun _ _ e => ⟨_, frG_in, congrArg Prod.fst e, congrArg Prod.snd e⟩
  keeps := fun _ _ _ ⟨K, hK, c⟩ k => ⟨K, PySem.W.Frag.In.keeps hK k, c⟩
theorem obsX_eq {nm : List Str} {fa : List Fa} {fn : List FnD} {xb : PySem.W.Frag → Bool} {g : Addr → Option Obj} {s : Shared} (h : ∀ a, g a = s.heap.get? a) : obsX nm fa fn xb g = (hookX nm fa fn xb).obs s := by
  have e : g = s.heap.get? := funext h
  rw [e] <;> rfl
/-- the end over such a head -/
theorem walkGE {l : PySem.W.OpenLaw} {n k : Nat} {q : Program} {loose : List Str} {XP : (Str → Option Value) → Heap → Prop} {YP : World → Heap → Prop} {d : DefRec} {sp : PySem.W.Frag → Sp} {x : Str}
    (hn : l.most = some n) (hn2 : n ≤ sizeLine) (hdf : d.params.defaults = []) (hr : Room k callerA)
    (F : ∀ (w : World) (mg : Str → Option Value) (fa : Addr) (h : Heap), YP w h → h.Ns mainGlobals mg → mg d.name = some (.ref fa) →
      ∃ (K : PySem.W.Frag) (fd : FuncData), K.In h ∧ (∀ (s : Shared) (u : Value), BindsTo s fd ⟨[u], []⟩ [(x, u)]) ∧
        ∀ base : Heap, K.In base → base.Ns mainGlobals mg → G.FnG l.prog w K mg base k fa fd [x] (sp K))
    (hsp : ∀ (K : PySem.W.Frag) (H : Hp) (a : Addr) (ns : List Int), ns.length ≤ n → SqL K H a (ns.map V.int) → sp K [.ref a] H (fun v _ => v = .bl true) fun _ _ _ => False) :
    PySem.W.WalkO q loose XP YP l.row.toRowW d [] (fun f vs => PySem.call f vs) := by
  refine Att.attach_call hn hdf fun w s₀ s₁ mg mb fa o pm cd doc a vs ns T Y ho hd hcd hmg hobj hints hlen hg => ?_
  obtain ⟨K, fd, KX, hb, hF⟩ := F w mg fa _ Y T.T.g hmg
  exact G.endG KX T.T.g T.T.b T.T.builtins T.T.nolimit hg hobj hints (Nat.le_trans hlen hn2) hr hF hb fun H => hsp K H a ns hlen
end HX
local macro_rules | `(tactic| walk_at "u1") => `(tactic| first
  | (with_reducible refine U.g_seq ?_) | (with_reducible refine U.g_asg ?_) | (with_reducible refine U.g_name ?_) | (with_reducible refine U.g_op ?_) | ((with_reducible refine' U.g_var ?k1 ?k2); (case k1 => exact rfl)) | (with_reducible refine U.g_c ?_)
  | (with_reducible refine U.g_cons ?_) | (with_reducible refine U.g_nil ?_) | (with_reducible refine U.g_cb ?_) | (with_reducible refine U.g_call ?_) | (with_reducible refine U.g_ret ?_) | (with_reducible refine U.g_drop ?_)
  | (with_reducible refine U.g_ifS ?_) | (with_reducible refine U.g_if ?_) | (with_reducible refine U.g_test ?_) | (with_reducible refine U.g_B ?_) | (with_reducible refine U.g_un ?_) | (with_reducible refine U.g_next ?_)
  | (with_reducible refine U.g_bl ?_) | (with_reducible refine U.g_blP ?_) | (with_reducible refine U.g_addI ?_) | (with_reducible refine U.g_subI ?_) | (with_reducible refine U.g_cmpI ?_) | (with_reducible refine U.g_intI ?_) | (with_reducible refine U.g_intB ?_)
  | (with_reducible refine U.g_absI ?_) | (with_reducible refine U.g_negI ?_) | (with_reducible refine U.g_mmI ?_) | (with_reducible refine U.g_and ?_) | (with_reducible refine U.g_or ?_) | (with_reducible refine U.g_not ?_) | (with_reducible refine U.g_andV ?_) | (with_reducible refine U.g_orV ?_) | (with_reducible refine U.g_notV ?_)
  | (with_reducible refine U.g_lst ?_) | (with_reducible refine U.g_tup ?_) | (with_reducible refine U.g_sub ?_) | (with_reducible refine U.g_lrg ?_) | (with_reducible refine U.g_rg1 ?_) | (with_reducible refine U.g_intE ?_) | (with_reducible refine U.g_sl ?_) | (with_reducible refine U.g_noP ?_) | (with_reducible refine U.g_part ?_) | (with_reducible refine U.g_lc ?_) | (with_reducible refine U.g_for ?_) | (with_reducible refine U.g_iList ?_) | (with_reducible refine U.g_iTup ?_) | (with_reducible refine U.g_iRng1 ?_) | (with_reducible refine U.g_iStr ?_) | (with_reducible refine U.g_iEnum ?_) | (with_reducible refine U.g_iVals ?_)
  | (with_reducible refine U.g_dnotin ?_) | (with_reducible refine U.g_din ?_) | (with_reducible refine U.g_dget ?_) | (with_reducible refine U.g_dput ?_) | (with_reducible refine U.g_bm ?_) | (with_reducible refine U.g_bm0 ?_) | (with_reducible refine U.g_dnewK ?_)
  | (with_reducible refine U.g_gcons ?_) | (with_reducible refine U.g_gnil ?_) | (with_reducible refine U.g_par ?_) | (with_reducible refine U.e_two ?_)
  | (with_reducible refine EX.g_mkE ?_) | (with_reducible refine EX.g_errF ?_)
  | ((with_reducible refine' U.g_gtup ?k1 ?k2 ?k3); (case k1 => exact L2.SqT.of (by walk_at "hp")); (case k2 => exact rfl))
  | ((with_reducible refine' U.ty_lst ?k1 ?k2); (case k1 => walk_at "hp"))
  | (with_reducible refine U.g_strS ?_) | ((with_reducible refine' U.g_strI ?k1 ?k2); (case k1 => first | decide | omega))
  | (with_reducible refine U.g_nT ?_) | (with_reducible refine U.g_nF ?_) | (with_reducible refine U.g_chain ?_) | (with_reducible refine U.g_m1 ?_) | (with_reducible refine U.e_strE ?_) | (with_reducible refine U.g_disp ?_) | (with_reducible refine U.g_pcons ?_) | (with_reducible refine U.g_pnil ?_) | (with_reducible refine U.e_non ?_) | (with_reducible refine U.g_yes ?_) | (with_reducible refine U.g_cont ?_) | (with_reducible refine U.g_T ?_) | (with_reducible refine U.g_F ?_)
  | ((with_reducible refine' U.g_modI ?k1 ?k2); (case k1 => first | assumption | decide | omega))
  | ((with_reducible refine' U.g_divP ?k1 ?k2 ?k3); (case k1 => first | assumption | decide | omega); (case k2 => first | assumption | decide | omega))
  | (with_reducible refine U.g_mulB ?_) | (with_reducible refine U.g_powL (by decide +kernel) ?_) | (with_reducible refine U.g_modL (by decide +kernel) ?_)
  | ((with_reducible refine' U.g_mulL ?k1 ?k2); (case k1 => first | decide | omega))
  | ((with_reducible refine' U.g_mulR ?k1 ?k2); (case k1 => first | decide | omega))
  | ((with_reducible refine' U.g_ix ?k1 ?k2 ?k3); (case k1 => walk_at "sq"); (case k2 => exact rfl))
  | ((with_reducible refine' U.g_setL ?k1 ?k2 ?k3); (case k1 => walk_at "hp"); (case k2 => exact rfl))
  | ((with_reducible refine' U.g_eqS ?k1 ?k2); (case k1 => rfl)))
/-- what stands at an address, behind stores -/
local macro_rules | `(tactic| walk_at "hp") => `(tactic| first
  | assumption
  | ((with_reducible refine' U.get_same ?k1); (case k1 => exact rfl))
  | ((with_reducible refine' U.get_new ?k1 ?k2); (case k1 => assumption); (case k2 => walk_at "hp"))
  | ((with_reducible refine' U.get_ne ?k1 ?k2); (case k1 => first | assumption | (apply Ne.symm; assumption)); (case k2 => walk_at "hp")))
local macro_rules | `(tactic| walk_at "sq") => `(tactic| first
  | assumption | exact Or.inl (by assumption) | exact Or.inr (by assumption)
  | exact Or.inl (L2.SqL.of (by walk_at "hp")) | exact Or.inr (L2.SqT.of (by walk_at "hp")))
local macro_rules | `(tactic| walk_at "st") => `(tactic| dsimp only [L2.cxOf, L2.start, List.map, List.length, List.replicate, HAppend.hAppend, Append.append, List.append, Nat.reduceAdd, Nat.reduceSub])
local macro_rules | `(tactic| walk_at "ds") => `(tactic| try dsimp only [List.set, Int.reduceToNat])
local macro_rules | `(tactic| walk_at "go") => `(tactic| ((try dsimp only); (repeat walk_at "u1"); walk_at "ds"))
local macro_rules | `(tactic| walk_at "c2") => `(tactic| (refine U.g_2 (fun c => ?_) (fun c => ?_) <;> (try simp only [decide_eq_true_eq, decide_eq_false_iff_not, Bool.not_eq_true', Bool.not_eq_false'] at c)))
namespace Toy
open PySem L2 U
/-! ### the text by places -/
def top (i : Nat) : Stmt := PySem.Challenge.pw_alikecrowds_k50_errors_keep_any_value.main.body.getD i (.Pass ⟨0, 0, 0, 0⟩)
abbrev s_CrowdError___init__ : Stmt := (inClass (top 1) 0)
abbrev s__law_pot : Stmt := (top 54)
abbrev s__law_take : Stmt := (top 55)
abbrev s__law_of : Stmt := (top 56)
abbrev s__law_cells : Stmt := (top 57)
abbrev s__law_odd : Stmt := (top 58)
abbrev s__law_made : Stmt := (top 59)
abbrev s__law_made_too : Stmt := (top 60)
abbrev s__law_made_more : Stmt := (top 61)
abbrev s__law_sorts : Stmt := (top 62)
abbrev s__law_sorts_too : Stmt := (top 63)
abbrev s__law_sorts_more : Stmt := (top 64)
abbrev s__law_right : Stmt := (top 65)
abbrev s_law : Stmt := (top 66)
/-! ### what the top has written -/
structure Tx (K : PySem.W.Frag) (mg : Str → Option Value) where
  a_CrowdError___init__ : Addr
  fd_CrowdError___init__ : FuncData
  F_CrowdError___init__ : Fun K "__init__" "CrowdError.__init__" s_CrowdError___init__ a_CrowdError___init__ fd_CrowdError___init__
  a__law_pot : Addr
  fd__law_pot : FuncData
  F__law_pot : Fun K "_law_pot" "_law_pot" s__law_pot a__law_pot fd__law_pot
  m__law_pot : mg "_law_pot" = some (.ref a__law_pot)
  a__law_take : Addr
  fd__law_take : FuncData
  F__law_take : Fun K "_law_take" "_law_take" s__law_take a__law_take fd__law_take
  m__law_take : mg "_law_take" = some (.ref a__law_take)
  a__law_of : Addr
  fd__law_of : FuncData
  F__law_of : Fun K "_law_of" "_law_of" s__law_of a__law_of fd__law_of
  m__law_of : mg "_law_of" = some (.ref a__law_of)
  a__law_cells : Addr
  fd__law_cells : FuncData
  F__law_cells : Fun K "_law_cells" "_law_cells" s__law_cells a__law_cells fd__law_cells
  m__law_cells : mg "_law_cells" = some (.ref a__law_cells)
  a__law_odd : Addr
  fd__law_odd : FuncData
  F__law_odd : Fun K "_law_odd" "_law_odd" s__law_odd a__law_odd fd__law_odd
  m__law_odd : mg "_law_odd" = some (.ref a__law_odd)
  a__law_made : Addr
  fd__law_made : FuncData
  F__law_made : Fun K "_law_made" "_law_made" s__law_made a__law_made fd__law_made
  m__law_made : mg "_law_made" = some (.ref a__law_made)
  a__law_made_too : Addr
  fd__law_made_too : FuncData
  F__law_made_too : Fun K "_law_made_too" "_law_made_too" s__law_made_too a__law_made_too fd__law_made_too
  m__law_made_too : mg "_law_made_too" = some (.ref a__law_made_too)
  a__law_made_more : Addr
  fd__law_made_more : FuncData
  F__law_made_more : Fun K "_law_made_more" "_law_made_more" s__law_made_more a__law_made_more fd__law_made_more
  m__law_made_more : mg "_law_made_more" = some (.ref a__law_made_more)
  a__law_sorts : Addr
  fd__law_sorts : FuncData
  F__law_sorts : Fun K "_law_sorts" "_law_sorts" s__law_sorts a__law_sorts fd__law_sorts
  m__law_sorts : mg "_law_sorts" = some (.ref a__law_sorts)
  a__law_sorts_too : Addr
  fd__law_sorts_too : FuncData
  F__law_sorts_too : Fun K "_law_sorts_too" "_law_sorts_too" s__law_sorts_too a__law_sorts_too fd__law_sorts_too
  m__law_sorts_too : mg "_law_sorts_too" = some (.ref a__law_sorts_too)
  a__law_sorts_more : Addr
  fd__law_sorts_more : FuncData
  F__law_sorts_more : Fun K "_law_sorts_more" "_law_sorts_more" s__law_sorts_more a__law_sorts_more fd__law_sorts_more
  m__law_sorts_more : mg "_law_sorts_more" = some (.ref a__law_sorts_more)
  a__law_right : Addr
  fd__law_right : FuncData
  F__law_right : Fun K "_law_right" "_law_right" s__law_right a__law_right fd__law_right
  m__law_right : mg "_law_right" = some (.ref a__law_right)
  a_law : Addr
  fd_law : FuncData
  F_law : Fun K "law" "law" s_law a_law fd_law
  m_law : mg "law" = some (.ref a_law)
  C_CrowdError : Addr
  m_CrowdError : mg "CrowdError" = some (.ref C_CrowdError)
  e_CrowdError : EX.ErrC K a_CrowdError___init__ C_CrowdError
  C_BadRegister : Addr
  m_BadRegister : mg "BadRegister" = some (.ref C_BadRegister)
  e_BadRegister : EX.ErrC K a_CrowdError___init__ C_BadRegister
  C_BadColumns : Addr
  m_BadColumns : mg "BadColumns" = some (.ref C_BadColumns)
  e_BadColumns : EX.ErrC K a_CrowdError___init__ C_BadColumns
  C_BadKinds : Addr
  m_BadKinds : mg "BadKinds" = some (.ref C_BadKinds)
  e_BadKinds : EX.ErrC K a_CrowdError___init__ C_BadKinds
  C_BadPersons : Addr
  m_BadPersons : mg "BadPersons" = some (.ref C_BadPersons)
  e_BadPersons : EX.ErrC K a_CrowdError___init__ C_BadPersons
  C_NoColumn : Addr
  m_NoColumn : mg "NoColumn" = some (.ref C_NoColumn)
  e_NoColumn : EX.ErrC K a_CrowdError___init__ C_NoColumn
  C_NoPerson : Addr
  m_NoPerson : mg "NoPerson" = some (.ref C_NoPerson)
  e_NoPerson : EX.ErrC K a_CrowdError___init__ C_NoPerson
  C_NoKind : Addr
  m_NoKind : mg "NoKind" = some (.ref C_NoKind)
  e_NoKind : EX.ErrC K a_CrowdError___init__ C_NoKind
  C_BadTable : Addr
  m_BadTable : mg "BadTable" = some (.ref C_BadTable)
  e_BadTable : EX.ErrC K a_CrowdError___init__ C_BadTable
  C_BadRows : Addr
  m_BadRows : mg "BadRows" = some (.ref C_BadRows)
  e_BadRows : EX.ErrC K a_CrowdError___init__ C_BadRows
  C_BadMark : Addr
  m_BadMark : mg "BadMark" = some (.ref C_BadMark)
  e_BadMark : EX.ErrC K a_CrowdError___init__ C_BadMark
  C_BadValue : Addr
  m_BadValue : mg "BadValue" = some (.ref C_BadValue)
  e_BadValue : EX.ErrC K a_CrowdError___init__ C_BadValue
  C_BadValues : Addr
  m_BadValues : mg "BadValues" = some (.ref C_BadValues)
  e_BadValues : EX.ErrC K a_CrowdError___init__ C_BadValues
  C_NoRow : Addr
  m_NoRow : mg "NoRow" = some (.ref C_NoRow)
  e_NoRow : EX.ErrC K a_CrowdError___init__ C_NoRow
  C_BadMarks : Addr
  m_BadMarks : mg "BadMarks" = some (.ref C_BadMarks)
  e_BadMarks : EX.ErrC K a_CrowdError___init__ C_BadMarks
  C_NoWorld : Addr
  m_NoWorld : mg "NoWorld" = some (.ref C_NoWorld)
  e_NoWorld : EX.ErrC K a_CrowdError___init__ C_NoWorld
  C_BadLot : Addr
  m_BadLot : mg "BadLot" = some (.ref C_BadLot)
  e_BadLot : EX.ErrC K a_CrowdError___init__ C_BadLot
  C_BadNumber : Addr
  m_BadNumber : mg "BadNumber" = some (.ref C_BadNumber)
  e_BadNumber : EX.ErrC K a_CrowdError___init__ C_BadNumber
  C_TooMany : Addr
  m_TooMany : mg "TooMany" = some (.ref C_TooMany)
  e_TooMany : EX.ErrC K a_CrowdError___init__ C_TooMany
  C_BadWorld : Addr
  m_BadWorld : mg "BadWorld" = some (.ref C_BadWorld)
  e_BadWorld : EX.ErrC K a_CrowdError___init__ C_BadWorld
  C_BadSecret : Addr
  m_BadSecret : mg "BadSecret" = some (.ref C_BadSecret)
  e_BadSecret : EX.ErrC K a_CrowdError___init__ C_BadSecret
  C_BadSize : Addr
  m_BadSize : mg "BadSize" = some (.ref C_BadSize)
  e_BadSize : EX.ErrC K a_CrowdError___init__ C_BadSize
  C_BadStretch : Addr
  m_BadStretch : mg "BadStretch" = some (.ref C_BadStretch)
  e_BadStretch : EX.ErrC K a_CrowdError___init__ C_BadStretch
  C_BadCrowds : Addr
  m_BadCrowds : mg "BadCrowds" = some (.ref C_BadCrowds)
  e_BadCrowds : EX.ErrC K a_CrowdError___init__ C_BadCrowds
  C_BadShown : Addr
  m_BadShown : mg "BadShown" = some (.ref C_BadShown)
  e_BadShown : EX.ErrC K a_CrowdError___init__ C_BadShown
  C_NoCrowds : Addr
  m_NoCrowds : mg "NoCrowds" = some (.ref C_NoCrowds)
  e_NoCrowds : EX.ErrC K a_CrowdError___init__ C_NoCrowds
  C_BadLoss : Addr
  m_BadLoss : mg "BadLoss" = some (.ref C_BadLoss)
  e_BadLoss : EX.ErrC K a_CrowdError___init__ C_BadLoss
  C_BadColumn : Addr
  m_BadColumn : mg "BadColumn" = some (.ref C_BadColumn)
  e_BadColumn : EX.ErrC K a_CrowdError___init__ C_BadColumn
  C_BadCounts : Addr
  m_BadCounts : mg "BadCounts" = some (.ref C_BadCounts)
  e_BadCounts : EX.ErrC K a_CrowdError___init__ C_BadCounts
  C_BadLifts : Addr
  m_BadLifts : mg "BadLifts" = some (.ref C_BadLifts)
  e_BadLifts : EX.ErrC K a_CrowdError___init__ C_BadLifts
  C_BadCrowd : Addr
  m_BadCrowd : mg "BadCrowd" = some (.ref C_BadCrowd)
  e_BadCrowd : EX.ErrC K a_CrowdError___init__ C_BadCrowd
  C_BadSecrets : Addr
  m_BadSecrets : mg "BadSecrets" = some (.ref C_BadSecrets)
  e_BadSecrets : EX.ErrC K a_CrowdError___init__ C_BadSecrets
  C_BadSequence : Addr
  m_BadSequence : mg "BadSequence" = some (.ref C_BadSequence)
  e_BadSequence : EX.ErrC K a_CrowdError___init__ C_BadSequence
  C_BadTold : Addr
  m_BadTold : mg "BadTold" = some (.ref C_BadTold)
  e_BadTold : EX.ErrC K a_CrowdError___init__ C_BadTold
  C_BadNames : Addr
  m_BadNames : mg "BadNames" = some (.ref C_BadNames)
  e_BadNames : EX.ErrC K a_CrowdError___init__ C_BadNames
  C_OtherRegister : Addr
  m_OtherRegister : mg "OtherRegister" = some (.ref C_OtherRegister)
  e_OtherRegister : EX.ErrC K a_CrowdError___init__ C_OtherRegister
  C_NoJoint : Addr
  m_NoJoint : mg "NoJoint" = some (.ref C_NoJoint)
  e_NoJoint : EX.ErrC K a_CrowdError___init__ C_NoJoint
  C_Full : Addr
  m_Full : mg "Full" = some (.ref C_Full)
  e_Full : EX.ErrC K a_CrowdError___init__ C_Full
  C_BadName : Addr
  m_BadName : mg "BadName" = some (.ref C_BadName)
  e_BadName : EX.ErrC K a_CrowdError___init__ C_BadName
  C_Held : Addr
  m_Held : mg "Held" = some (.ref C_Held)
  e_Held : EX.ErrC K a_CrowdError___init__ C_Held
  C_TooFew : Addr
  m_TooFew : mg "TooFew" = some (.ref C_TooFew)
  e_TooFew : EX.ErrC K a_CrowdError___init__ C_TooFew
  C_Unlike : Addr
  m_Unlike : mg "Unlike" = some (.ref C_Unlike)
  e_Unlike : EX.ErrC K a_CrowdError___init__ C_Unlike
  C_BadDeed : Addr
  m_BadDeed : mg "BadDeed" = some (.ref C_BadDeed)
  e_BadDeed : EX.ErrC K a_CrowdError___init__ C_BadDeed
  C_NoName : Addr
  m_NoName : mg "NoName" = some (.ref C_NoName)
  e_NoName : EX.ErrC K a_CrowdError___init__ C_NoName
  C_NotThat : Addr
  m_NotThat : mg "NotThat" = some (.ref C_NotThat)
  e_NotThat : EX.ErrC K a_CrowdError___init__ C_NotThat
  C_InUse : Addr
  m_InUse : mg "InUse" = some (.ref C_InUse)
  e_InUse : EX.ErrC K a_CrowdError___init__ C_InUse
  C_BadPerson : Addr
  m_BadPerson : mg "BadPerson" = some (.ref C_BadPerson)
  e_BadPerson : EX.ErrC K a_CrowdError___init__ C_BadPerson
  C_NotTold : Addr
  m_NotTold : mg "NotTold" = some (.ref C_NotTold)
  e_NotTold : EX.ErrC K a_CrowdError___init__ C_NotTold
  C_NothingToUndo : Addr
  m_NothingToUndo : mg "NothingToUndo" = some (.ref C_NothingToUndo)
  e_NothingToUndo : EX.ErrC K a_CrowdError___init__ C_NothingToUndo
  C_NothingToRedo : Addr
  m_NothingToRedo : mg "NothingToRedo" = some (.ref C_NothingToRedo)
  e_NothingToRedo : EX.ErrC K a_CrowdError___init__ C_NothingToRedo
  C_NoNote : Addr
  m_NoNote : mg "NoNote" = some (.ref C_NoNote)
  e_NoNote : EX.ErrC K a_CrowdError___init__ C_NoNote
  C_BadDesk : Addr
  m_BadDesk : mg "BadDesk" = some (.ref C_BadDesk)
  e_BadDesk : EX.ErrC K a_CrowdError___init__ C_BadDesk
  kit : ∀ i j, i < 51 → j < 51 → PySem.W.kitOne K (.ref ([C_BadRegister, C_BadColumns, C_BadKinds, C_BadPersons, C_NoColumn, C_NoPerson, C_NoKind, C_BadTable, C_BadRows, C_BadMark, C_BadValue, C_BadValues, C_NoRow, C_BadMarks, C_NoWorld, C_BadLot, C_BadNumber, C_TooMany, C_BadWorld, C_BadSecret, C_BadSize, C_BadStretch, C_BadCrowds, C_BadShown, C_NoCrowds, C_BadLoss, C_BadColumn, C_BadCounts, C_BadLifts, C_BadCrowd, C_BadSecrets, C_BadSequence, C_BadTold, C_BadNames, C_OtherRegister, C_NoJoint, C_Full, C_BadName, C_Held, C_TooFew, C_Unlike, C_BadDeed, C_NoName, C_NotThat, C_InUse, C_BadPerson, C_NotTold, C_NothingToUndo, C_NothingToRedo, C_NoNote, C_BadDesk].getD i 0)) (.ref ([C_BadRegister, C_BadColumns, C_BadKinds, C_BadPersons, C_NoColumn, C_NoPerson, C_NoKind, C_BadTable, C_BadRows, C_BadMark, C_BadValue, C_BadValues, C_NoRow, C_BadMarks, C_NoWorld, C_BadLot, C_BadNumber, C_TooMany, C_BadWorld, C_BadSecret, C_BadSize, C_BadStretch, C_BadCrowds, C_BadShown, C_NoCrowds, C_BadLoss, C_BadColumn, C_BadCounts, C_BadLifts, C_BadCrowd, C_BadSecrets, C_BadSequence, C_BadTold, C_BadNames, C_OtherRegister, C_NoJoint, C_Full, C_BadName, C_Held, C_TooFew, C_Unlike, C_BadDeed, C_NoName, C_NotThat, C_InUse, C_BadPerson, C_NotTold, C_NothingToUndo, C_NothingToRedo, C_NoNote, C_BadDesk].getD j 0)) = some (decide (i = j))
  kb : ∀ j, j < 51 → PySem.W.kitOne K (.ref C_CrowdError) (.ref ([C_BadRegister, C_BadColumns, C_BadKinds, C_BadPersons, C_NoColumn, C_NoPerson, C_NoKind, C_BadTable, C_BadRows, C_BadMark, C_BadValue, C_BadValues, C_NoRow, C_BadMarks, C_NoWorld, C_BadLot, C_BadNumber, C_TooMany, C_BadWorld, C_BadSecret, C_BadSize, C_BadStretch, C_BadCrowds, C_BadShown, C_NoCrowds, C_BadLoss, C_BadColumn, C_BadCounts, C_BadLifts, C_BadCrowd, C_BadSecrets, C_BadSequence, C_BadTold, C_BadNames, C_OtherRegister, C_NoJoint, C_Full, C_BadName, C_Held, C_TooFew, C_Unlike, C_BadDeed, C_NoName, C_NotThat, C_InUse, C_BadPerson, C_NotTold, C_NothingToUndo, C_NothingToRedo, C_NoNote, C_BadDesk].getD j 0)) = some false
  kc : ∀ i, i < 51 → PySem.W.kitOne K (.ref ([C_BadRegister, C_BadColumns, C_BadKinds, C_BadPersons, C_NoColumn, C_NoPerson, C_NoKind, C_BadTable, C_BadRows, C_BadMark, C_BadValue, C_BadValues, C_NoRow, C_BadMarks, C_NoWorld, C_BadLot, C_BadNumber, C_TooMany, C_BadWorld, C_BadSecret, C_BadSize, C_BadStretch, C_BadCrowds, C_BadShown, C_NoCrowds, C_BadLoss, C_BadColumn, C_BadCounts, C_BadLifts, C_BadCrowd, C_BadSecrets, C_BadSequence, C_BadTold, C_BadNames, C_OtherRegister, C_NoJoint, C_Full, C_BadName, C_Held, C_TooFew, C_Unlike, C_BadDeed, C_NoName, C_NotThat, C_InUse, C_BadPerson, C_NotTold, C_NothingToUndo, C_NothingToRedo, C_NoNote, C_BadDesk].getD i 0)) (.ref C_CrowdError) = some true
  kv : ∀ i, i < 51 → PySem.W.kitOne K (.ref ([C_BadRegister, C_BadColumns, C_BadKinds, C_BadPersons, C_NoColumn, C_NoPerson, C_NoKind, C_BadTable, C_BadRows, C_BadMark, C_BadValue, C_BadValues, C_NoRow, C_BadMarks, C_NoWorld, C_BadLot, C_BadNumber, C_TooMany, C_BadWorld, C_BadSecret, C_BadSize, C_BadStretch, C_BadCrowds, C_BadShown, C_NoCrowds, C_BadLoss, C_BadColumn, C_BadCounts, C_BadLifts, C_BadCrowd, C_BadSecrets, C_BadSequence, C_BadTold, C_BadNames, C_OtherRegister, C_NoJoint, C_Full, C_BadName, C_Held, C_TooFew, C_Unlike, C_BadDeed, C_NoName, C_NotThat, C_InUse, C_BadPerson, C_NotTold, C_NothingToUndo, C_NothingToRedo, C_NoNote, C_BadDesk].getD i 0)) (.type "ValueError") = some true
  kbv : PySem.W.kitOne K (.ref C_CrowdError) (.type "ValueError") = some true
  tI : PySem.W.typeIn K (.ref a_CrowdError___init__) = some (.type "function")
  tn_get : PySem.W.specialIn K (.builtin "object.__class__") "__get__" = some (some (.builtin "getset_descriptor.__get__"))
  tn_takes : PySem.W.takesIn K (.builtin "object.__class__") = some true
  n_ValueError : mg "ValueError" = none
  n_abs : mg "abs" = none
  n_all : mg "all" = none
  n_enumerate : mg "enumerate" = none
  n_int : mg "int" = none
  n_isinstance : mg "isinstance" = none
  n_len : mg "len" = none
  n_list : mg "list" = none
  n_max : mg "max" = none
  n_min : mg "min" = none
  n_range : mg "range" = none
  n_repr : mg "repr" = none
  n_sum : mg "sum" = none

section
variable {K : PySem.W.Frag} {mg : Str → Option Value}
theorem b_CrowdError___init__ (T : Tx K mg) : Binds K T.fd_CrowdError___init__ ["self", "value"] [] := T.F_CrowdError___init__.binds fun _ _ _ _ _ _ us hl => match us, hl with | [_, _], _ => rfl
theorem b__law_pot (T : Tx K mg) : Binds K T.fd__law_pot ["script", "place"] [] := T.F__law_pot.binds fun _ _ _ _ _ _ us hl => match us, hl with | [_, _], _ => rfl
theorem b__law_take (T : Tx K mg) : Binds K T.fd__law_take ["pot", "upto"] [] := T.F__law_take.binds fun _ _ _ _ _ _ us hl => match us, hl with | [_, _], _ => rfl
theorem b__law_of (T : Tx K mg) : Binds K T.fd__law_of ["pot", "some"] [] := T.F__law_of.binds fun _ _ _ _ _ _ us hl => match us, hl with | [_, _], _ => rfl
theorem b__law_cells (T : Tx K mg) : Binds K T.fd__law_cells ["script", "most"] [] := T.F__law_cells.binds fun _ _ _ _ _ _ us hl => match us, hl with | [_, _], _ => rfl
theorem b__law_odd (T : Tx K mg) : Binds K T.fd__law_odd ["pot"] [] := T.F__law_odd.binds fun _ _ _ _ _ _ us hl => match us, hl with | [_], _ => rfl
theorem b__law_made (T : Tx K mg) : Binds K T.fd__law_made ["value"] [] := T.F__law_made.binds fun _ _ _ _ _ _ us hl => match us, hl with | [_], _ => rfl
theorem b__law_made_too (T : Tx K mg) : Binds K T.fd__law_made_too ["value"] [] := T.F__law_made_too.binds fun _ _ _ _ _ _ us hl => match us, hl with | [_], _ => rfl
theorem b__law_made_more (T : Tx K mg) : Binds K T.fd__law_made_more ["value"] [] := T.F__law_made_more.binds fun _ _ _ _ _ _ us hl => match us, hl with | [_], _ => rfl
theorem b__law_sorts (T : Tx K mg) : Binds K T.fd__law_sorts ["error"] [] := T.F__law_sorts.binds fun _ _ _ _ _ _ us hl => match us, hl with | [_], _ => rfl
theorem b__law_sorts_too (T : Tx K mg) : Binds K T.fd__law_sorts_too ["error"] [] := T.F__law_sorts_too.binds fun _ _ _ _ _ _ us hl => match us, hl with | [_], _ => rfl
theorem b__law_sorts_more (T : Tx K mg) : Binds K T.fd__law_sorts_more ["error"] [] := T.F__law_sorts_more.binds fun _ _ _ _ _ _ us hl => match us, hl with | [_], _ => rfl
theorem b__law_right (T : Tx K mg) : Binds K T.fd__law_right ["pot"] [] := T.F__law_right.binds fun _ _ _ _ _ _ us hl => match us, hl with | [_], _ => rfl
theorem b_law (T : Tx K mg) : Binds K T.fd_law ["script"] [] := T.F_law.binds fun _ _ _ _ _ _ us hl => match us, hl with | [_], _ => rfl
end
end Toy

namespace Toy
open PySem L2 U
/-! ### the pot: three numbers; n: how many draws it stands for still -/
def PotAt (H : Hp) (p : Addr) (n : Nat) : Prop := ∃ (o s : Int) (k : Nat), H p = some (.lst [.int o, .int s, .int k]) ∧ 0 ≤ o ∧ o < 10 ^ 300 ∧ 0 ≤ s ∧ s < 2 ^ 61 ∧ k + n ≤ 1000000
theorem PotAt.le {H : Hp} {p : Addr} {n m : Nat} (h : PotAt H p n) (l : m ≤ n) : PotAt H p m := by
  obtain ⟨o, s, k, a, b, c, d, e, f⟩ := h
  exact ⟨o, s, k, a, b, c, d, e, by omega⟩
section
variable {P : Program} {w : World} {K : PySem.W.Frag} {mg : Str → Option Value} {base : Heap}
theorem sc__law_take : FnScope ["pot", "upto", "digit", "prime", "blend"] ["pot", "upto"] (defScope s__law_take) := ⟨rfl, rfl, rfl, by decide +kernel, rfl, by decide +kernel, by decide +kernel⟩
def sp_take : Sp := fun vs H Q _ => ∃ (p : Addr) (u : Int) (n : Nat), vs = [.ref p, .int u] ∧ 0 < u ∧ u < 2 ^ 62 ∧ PotAt H p (n + 1) ∧ ∀ (r : Int) (H' : Hp), 0 ≤ r → r < u → PotAt H' p n → SB p H H' → Q (.int r) H'
theorem ok__law_take (T : Tx K mg) : FnOk P w K mg base CX0 1 T.a__law_take T.fd__law_take ["pot", "upto"] sp_take := by
  refine T.F__law_take.ok sc__law_take (fun vs H Q E h => ?_) (fun cdv A outer s H vs Q E hr h => ?_)
  · obtain ⟨p, u, n, rfl, _⟩ := h
    rfl
  · obtain ⟨p, u, n, rfl, u0, u1, ⟨ow, s, k, hp, h1, h2, h3, h4, h5⟩, kk⟩ := h
    have hu := hu_of hr
    have hu64 := hr.units
    refine ⟨_, (pss_cons (ps_if (pt_cmpR op_uGt (pe_ix (ix_u (K := K) rfl) (pv 0) (pe_int) (fun _ _ => rfl)) (pe_int) (nomark _)) (pss_cons (ps_set (i := 2) sc__law_take.nd rfl (Or.inl rfl) (pe_op op_uMod (pe_callTy call_uInt (by rfl) T.n_int (by decide +kernel) (pa_cons (pe_ix (ix_u (K := K) rfl) (pv 0) (pe_int) (fun _ _ => rfl)) pa_nil)) (pv 1)))
        (pss_cons (ps_asg (pe_op op_uDiv (pe_ix (ix_u (K := K) rfl) (pv 0) (pe_int) (fun _ _ => rfl)) (pv 1)) (pg_sub (pv 0) (pe_int) set_list))
        (pss_one (ps_ret (pv 2))))) pss_nil)
        (pss_cons (ps_asg (pe_op (op_uAdd (K := K) rfl) (pe_ix (ix_u (K := K) rfl) (pv 0) (pe_int) (fun _ _ => rfl)) (pe_int)) (pg_sub (pv 0) (pe_int) set_list))
        (pss_cons (ps_set (i := 3) sc__law_take.nd rfl (Or.inl rfl) (pe_ix (ix_u (K := K) rfl) (pe_lst (pa_cons (pe_int) (pa_cons (pe_int) (pa_cons (pe_int) (pa_cons (pe_int) (pa_cons (pe_int) pa_nil)))))) (pe_op op_uMod (pe_callTy call_uInt (by rfl) T.n_int (by decide +kernel) (pa_cons (pe_ix (ix_u (K := K) rfl) (pv 0) (pe_int) (fun _ _ => rfl)) pa_nil)) (pe_int)) (fun _ _ => rfl)))
        (pss_cons (ps_set (i := 4) sc__law_take.nd rfl (Or.inl rfl) (pe_op op_uMod (pe_callTy call_uInt (by rfl) T.n_int (by decide +kernel) (pa_cons (pe_op op_uPow (pe_callTy call_uInt (by rfl) T.n_int (by decide +kernel) (pa_cons (pe_op (op_uAdd (K := K) rfl) (pe_op (op_uAdd (K := K) rfl) (pe_ix (ix_u (K := K) rfl) (pv 0) (pe_int) (fun _ _ => rfl)) (pe_op op_uMul (pe_op op_uMul (pe_int) (pe_ix (ix_u (K := K) rfl) (pv 0) (pe_int) (fun _ _ => rfl))) (pe_ix (ix_u (K := K) rfl) (pv 0) (pe_int) (fun _ _ => rfl)))) (pe_int)) pa_nil)) (pe_int)) pa_nil)) (pv 3)))
        (pss_cons (ps_set (i := 4) sc__law_take.nd rfl (Or.inl rfl) (pe_op op_uMod (pe_callTy call_uInt (by rfl) T.n_int (by decide +kernel) (pa_cons (pe_op op_uMul (pv 4) (pe_op (op_uAdd (K := K) rfl) (pe_op op_uMod (pe_callTy call_uInt (by rfl) T.n_int (by decide +kernel) (pa_cons (pv 4) pa_nil)) (pe_int)) (pe_op op_uMul (pe_int) (pe_ix (ix_u (K := K) rfl) (pv 0) (pe_int) (fun _ _ => rfl))))) pa_nil)) (pe_int)))
        (pss_one (ps_ret (pe_op op_uMod (pe_callTy call_uInt (by rfl) T.n_int (by decide +kernel) (pa_cons (pe_op op_uDiv (pv 4) (pe_int)) pa_nil)) (pv 1))))))))), ?_⟩
    walk_at "st"
    walk_at "go"
    walk_at "c2"
    · walk_at "go"
      refine kk _ _ (Int.emod_nonneg _ (by omega)) (Int.emod_lt_of_pos _ u0) ⟨ow / u, s, k, upd_same, Int.ediv_nonneg h1 (by omega), ?_, h3, h4, by omega⟩ SB.upd
      exact Int.lt_of_le_of_lt (Int.ediv_le_self _ h1) h2
    · walk_at "go"
      refine ⟨by decide, fun a na => ?_⟩
      walk_at "go"
      refine U.g_ix5 (SqL.of (by walk_at "hp")) (by decide) (Int.emod_nonneg _ (by decide)) (Int.emod_lt_of_pos _ (by decide)) fun pr pr0 pr1 => ?_
      walk_at "go"
      refine U.g_powB h3 h4 (by decide) (by decide) (by omega) (by omega) (by decide) (by decide) ?_
      walk_at "go"
      exact kk _ _ (Int.emod_nonneg _ (by omega)) (Int.emod_lt_of_pos _ u0) ⟨ow, s, k + 1, by walk_at "hp", h1, h2, h3, h4, by omega⟩ (SB.upd.new na)
theorem sc__law_of : FnScope ["pot", "some"] ["pot", "some"] (defScope s__law_of) := ⟨rfl, rfl, rfl, by decide +kernel, rfl, by decide +kernel, by decide +kernel⟩
/-- some[take]: any item of a list, a tuple, a text -/
def sp_of (K : PySem.W.Frag) : Sp := fun vs H Q _ => ∃ (p : Addr) (x : V) (n : Nat), vs = [.ref p, x] ∧ PotAt H p (n + 1) ∧
  ((∃ (b : Addr) (ys : List V), x = .ref b ∧ (SqL K H b ys ∨ SqT K H b ys) ∧ 0 < ys.length ∧ ys.length ≤ 1000000 ∧ (∀ H', SB p H H' → SqL K H' b ys ∨ SqT K H' b ys) ∧ ∀ (j : Nat) (y : V) (H' : Hp), ys[j]? = some y → PotAt H' p n → SB p H H' → Q y H') ∨
   (∃ z : Str, x = .str z ∧ 0 < z.length ∧ z.length ≤ 1000000 ∧ ∀ (c : Nat) (H' : Hp), c ∈ z.cps.toList → PotAt H' p n → SB p H H' → Q (.str ⟨#[c]⟩) H'))
theorem ok__law_of (T : Tx K mg) : FnOk P w K mg base CX0 2 T.a__law_of T.fd__law_of ["pot", "some"] (sp_of K) := by
  refine T.F__law_of.ok sc__law_of (fun vs H Q E h => ?_) (fun cdv A outer s H vs Q E hr h => ?_)
  · obtain ⟨p, x, n, rfl, _⟩ := h
    rfl
  · obtain ⟨p, x, n, rfl, hp, kk⟩ := h
    have hu := hu_of hr
    have hu64 := hr.units
    refine ⟨_, (pss_one (ps_ret (pe_ix (ix_u (K := K) rfl) (pv 1) (pe_call (ok__law_take T) (hr.mono (by decide)) rfl T.m__law_take T.F__law_take.kp (b__law_take T) .nil pass0 (pa_cons (pv 0) (pa_cons (pe_callB (call_uLen (K := K) rfl) (by rfl) T.n_len (by decide +kernel) (pa_cons (pv 1) pa_nil)) pa_nil))) (fun _ _ => rfl)))), ?_⟩
    walk_at "st"
    walk_at "go"
    rcases kk with ⟨b, ys, rfl, hb, l0, l1, st, kk⟩ | ⟨z, rfl, l0, l1, kk⟩
    · refine U.g_lenL hb ?_
      walk_at "go"
      refine ⟨p, ys.length, n, rfl, by omega, by omega, hp, fun r H' r0 r1 hp' sb => ?_⟩
      have e : r = ((r.toNat : Nat) : Int) := by omega
      have hj : r.toNat < ys.length := by omega
      refine U.g_ix (st H' sb) (at_of e (List.getElem?_eq_getElem hj)) ?_
      exact kk _ _ _ (List.getElem?_eq_getElem hj) hp' sb
    · refine U.g_lenS (Nat.le_trans l1 (by decide)) ?_
      walk_at "go"
      refine ⟨p, z.length, n, rfl, by omega, by omega, hp, fun r H' r0 r1 hp' sb => ?_⟩
      have hj : r.toNat < z.cps.toList.length := by rw [Array.length_toList]; show r.toNat < z.length; omega
      refine U.g_ixS (Nat.le_trans l1 (by decide)) (c := z.cps.toList[r.toNat]) ?_ ?_
      · exact U.at_nat (show r = ((r.toNat : Nat) : Int) by omega) (List.getElem?_eq_getElem hj)
      · exact kk _ _ (List.getElem_mem hj) hp' sb
theorem sc__law_pot : FnScope ["script", "place", "cell", "own", "small"] ["script", "place"] (defScope s__law_pot) := ⟨rfl, rfl, rfl, by decide +kernel, rfl, by decide +kernel, by decide +kernel⟩
def sp_pot (K : PySem.W.Frag) : Sp := fun vs H Q _ => ∃ (a : Addr) (ns : List Int) (i : Int), vs = [.ref a, .int i] ∧ SqL K H a (ns.map V.int) ∧ 0 ≤ i ∧ i ≤ 100 ∧ ∀ (p : Addr) (H' : Hp), H p = none → Same H H' → PotAt H' p 1000000 → Q (.ref p) H'
theorem ok__law_pot (T : Tx K mg) : FnOk P w K mg base CX0 1 T.a__law_pot T.fd__law_pot ["script", "place"] (sp_pot K) := by
  refine T.F__law_pot.ok sc__law_pot (fun vs H Q E h => ?_) (fun cdv A outer s H vs Q E hr h => ?_)
  · obtain ⟨a, ns, i, rfl, _⟩ := h
    rfl
  · obtain ⟨a, ns, i, rfl, ha, i0, i1, kk⟩ := h
    have hu := hu_of hr
    have hu64 := hr.units
    refine ⟨_, (pss_cons (ps_set (i := 2) sc__law_pot.nd rfl (Or.inl rfl) (pe_ifExp (pt_cmpR op_uLt (pv 1) (pe_callB (call_uLen (K := K) rfl) (by rfl) T.n_len (by decide +kernel) (pa_cons (pv 0) pa_nil)) (nomark _)) (pe_ix (ix_u (K := K) rfl) (pv 0) (pv 1) (fun _ _ => rfl)) (pe_op (op_uAdd (K := K) rfl) (pe_op (op_uAdd (K := K) rfl) (pe_op op_uMod (pe_callB (call_uSum (K := K) rfl rfl) (by rfl) T.n_sum (by decide +kernel) (pa_cons (pe_slice (sl_u (K := K) rfl) (pv 0) po_none (po_some (pe_int))) pa_nil)) (pe_int)) (pe_op op_uMul (pe_int) (pv 1))) (pe_int))))
        (pss_cons (ps_set (i := 3) sc__law_pot.nd rfl (Or.inl rfl) (pe_op op_uMul (pe_op op_uMod (pe_callTy call_uInt (by rfl) T.n_int (by decide +kernel) (pa_cons (pe_callB call_uAbs (by rfl) T.n_abs (by decide +kernel) (pa_cons (pv 2) pa_nil)) pa_nil)) (pe_op op_uPow (pe_op op_uPow (pe_int) (pe_int)) (pe_int))) (pe_callTy call_uInt (by rfl) T.n_int (by decide +kernel) (pa_cons (pe_cmpR op_uGe (pe_callB call_uAbs (by rfl) T.n_abs (by decide +kernel) (pa_cons (pv 2) pa_nil)) (pe_op op_uPow (pe_int) (pe_int)) (nomark _)) pa_nil))))
        (pss_cons (ps_set (i := 4) sc__law_pot.nd rfl (Or.inl rfl) (pe_op op_uMod (pe_callTy call_uInt (by rfl) T.n_int (by decide +kernel) (pa_cons (pv 2) pa_nil)) (pe_int)))
        (pss_one (ps_ret (pe_lst (pa_cons (pv 3) (pa_cons (pe_op op_uMod (pe_callTy call_uInt (by rfl) T.n_int (by decide +kernel) (pa_cons (pe_op (op_uAdd (K := K) rfl) (pe_op (op_uAdd (K := K) rfl) (pe_op op_uMul (pv 4) (pe_int)) (pe_op op_uMul (pe_op op_uMul (pe_int) (pv 1)) (pv 1))) (pe_int)) pa_nil)) (pe_int)) (pa_cons (pe_int) pa_nil))))))))), ?_⟩
    walk_at "st"
    refine U.g_seq (U.g_asg (U.g_cut (fun v H1 => (∃ c : Int, v = .int c) ∧ Same H H1) (fun R kR => ?_) ?_))
    · walk_at "go"
      refine U.g_lenL (Or.inl ha) ?_
      walk_at "go"
      refine U.g_2 (fun c => ?_) (fun c => ?_)
      · walk_at "go"
        rw [List.length_map] at c
        have c := of_decide_eq_true c
        have hj : i.toNat < ns.length := by omega
        refine U.g_ix (Or.inl ha) (U.at_nat (show i = ((i.toNat : Nat) : Int) by omega) (by rw [List.getElem?_map, List.getElem?_eq_getElem hj]; rfl)) ?_
        exact kR _ _ ⟨⟨_, rfl⟩, Same.refl _⟩
      · walk_at "go"
        refine U.g_slL ha fun q nq => ?_
        rw [U.cut1]
        walk_at "go"
        refine U.g_sum (SqL.of upd_same) ?_
        walk_at "go"
        exact kR _ _ ⟨⟨_, rfl⟩, U.same_new nq⟩
    · rintro v H1 ⟨⟨c, rfl⟩, s1⟩
      walk_at "go"
      refine ⟨by show 3 ≤ sizeLine; decide, fun q nq => ?_⟩
      obtain ⟨m0, m1⟩ := U.mulB_bd (b := decide (10 ^ (18 : Int).toNat ≤ (if c < 0 then -c else c))) (Int.emod_nonneg (if c < 0 then -c else c) (show ((10 : Int) ^ (60 : Int).toNat) ^ (5 : Int).toNat ≠ 0 by decide +kernel)) (Int.emod_lt_of_pos (if c < 0 then -c else c) (show (0 : Int) < ((10 : Int) ^ (60 : Int).toNat) ^ (5 : Int).toNat by decide +kernel))
      refine kk q _ (s1.free nq) (fun b o e => U.same_new nq b o (s1 b o e)) ⟨_, _, 0, upd_same, m0, Int.lt_of_lt_of_le m1 (by decide +kernel), Int.emod_nonneg _ (by decide), ?_, by decide⟩
      exact Int.lt_of_lt_of_le (Int.emod_lt_of_pos _ (by decide)) (by decide)
theorem sc__law_cells : FnScope ["script", "most"] ["script", "most"] (defScope s__law_cells) := ⟨rfl, rfl, rfl, by decide +kernel, rfl, by decide +kernel, by decide +kernel⟩
def sp_cells (K : PySem.W.Frag) : Sp := fun vs H Q _ => ∃ (a : Addr) (ns : List Int) (m : Int), vs = [.ref a, .int m] ∧ SqL K H a (ns.map V.int) ∧ ns.length ≤ 63 ∧ 1 ≤ m ∧ m ≤ 100 ∧ ∀ (p : Addr) (c : Nat), H p = none → 1 ≤ c → c ≤ 100 → Q (.ref p) (upd H p (.lst (rgV 0 c)))
theorem ok__law_cells (T : Tx K mg) : FnOk P w K mg base CX0 1 T.a__law_cells T.fd__law_cells ["script", "most"] (sp_cells K) := by
  refine T.F__law_cells.ok sc__law_cells (fun vs H Q E h => ?_) (fun cdv A outer s H vs Q E hr h => ?_)
  · obtain ⟨a, ns, m, rfl, _⟩ := h
    rfl
  · obtain ⟨a, ns, m, rfl, ha, hl, m0, m1, kk⟩ := h
    have hu := hu_of hr
    have hu64 := hr.units
    refine ⟨_, (pss_one (ps_ret (pe_listRg rfl rfl T.n_list (prg_1 rfl T.n_range (pe_callB (call_uMax rfl) (by rfl) T.n_max (by decide +kernel) (pa_cons (pe_int) (pa_cons (pe_callB (call_uMin rfl) (by rfl) T.n_min (by decide +kernel) (pa_cons (pv 1) (pa_cons (pe_callB (call_uLen (K := K) rfl) (by rfl) T.n_len (by decide +kernel) (pa_cons (pv 0) pa_nil)) pa_nil))) pa_nil))))))), ?_⟩
    walk_at "st"
    walk_at "go"
    refine U.g_lenL (Or.inl ha) ?_
    walk_at "go"
    have e : ∃ c : Nat, (if (if ((List.map V.int ns).length : Int) < m then ((List.map V.int ns).length : Int) else m) > 1 then if ((List.map V.int ns).length : Int) < m then ((List.map V.int ns).length : Int) else m else 1) = (c : Int) ∧ 1 ≤ c ∧ c ≤ 100 := by
      rw [List.length_map]
      by_cases h1 : (ns.length : Int) < m
      · rw [if_pos h1]
        by_cases h2 : (ns.length : Int) > 1
        · rw [if_pos h2]; exact ⟨ns.length, rfl, by omega, by omega⟩
        · rw [if_neg h2]; exact ⟨1, rfl, by omega, by omega⟩
      · rw [if_neg h1]
        by_cases h2 : m > 1
        · rw [if_pos h2]; exact ⟨m.toNat, by omega, by omega, by omega⟩
        · rw [if_neg h2]; exact ⟨1, rfl, by omega, by omega⟩
    obtain ⟨c, e, c1, c2⟩ := e
    rw [e]
    exact ⟨RgOk.of_le (by omega) (by omega) (by omega) (by omega), fun q nq => kk q c nq c1 c2⟩
end
end Toy

namespace M5
open PySem L2 QD
/-! ### the values of any kind -/
def oddA : List PyData := [.none, .bool true, .bool false, .int 0, .int (-1), .str "", .str "A", .str "a b", .tuple [], .list [], .dict [], .tuple [.tuple []], .tuple [.none], .list [.int 0], .tuple [.int 0], .tuple [.str "a"], .tuple [.tuple [.int 0, .int 1]]]
def oddB : List PyData := [.tuple [.str "a", .str "b"], .list [.str "a"], .dict [(.str "a", .int 1)], .int (10 ^ 30), .int (-7), .tuple [.tuple [.int 0], .tuple [.int 0]], .tuple [.tuple [.int 0, .int 0], .str "a"], .str "thirteensigns"]
def okD (d : PyData) : Bool := d.showable && decide (d.depth ≤ 50) && decide (d.shown.length ≤ 100000) && (match d with
  | .dict _ => true
  | d => PyData.eqv d d && SeqAt.shaped d)
theorem odd_ok : (oddA ++ oddB).all okD = true := by decide +kernel
def Odd (K : PySem.W.Frag) (H : Hp) (v : V) : Prop := ∃ d, d ∈ oddA ++ oddB ∧ Dq K H v d
theorem Odd.mono {K : PySem.W.Frag} {H H' : Hp} {v : V} (s : Same H H') (h : Odd K H v) : Odd K H' v := let ⟨d, a, b⟩ := h; ⟨d, a, b.mono s⟩
theorem same_del {p : Addr} {H H' : Hp} (s : U.SB p H H') : Same (del H p) (del H' p) := fun b o h => by
  by_cases e : b = p
  · rw [e, del_same] at h; cases h
  · rw [del_ne e] at h ⊢
    exact s b o h e
theorem del_sub {p : Addr} {H : Hp} : Same (del H p) H := fun b o h => by
  by_cases e : b = p
  · rw [e, del_same] at h; cases h
  · rw [del_ne e] at h
    exact h
theorem del_get {p a : Addr} {H : Hp} {o : HO} (n : a ≠ p) (h : H a = some o) : del H p a = some o := by rw [del_ne n]; exact h
theorem sb_free {p a : Addr} {H H' : Hp} (s : U.SB p H H') (n : a ≠ p) (h : H' a = none) : H a = none := by
  cases e : H a with
  | none => rfl
  | some o => rw [s a o e n] at h; cases h
theorem upd_two {H : Hp} {a : Addr} {o u : HO} : upd (upd H a o) a u = upd H a u := by
  funext b
  by_cases e : b = a
  · rw [e, upd_same, upd_same]
  · rw [upd_ne e, upd_ne e, upd_ne e]
theorem e_dis1 {H : Hp} {b : Addr} {x : Str} {i : Int} {Q : VK} (q : Q (.ref b) (upd H b (.dK [(Sum.inr x, .int i)]))) : Q (.ref b) (upd (upd H b (.dK [])) b (.dK (mergeK [] [(Sum.inr x, .int i)]))) := by
  rw [upd_two]
  exact q
/-- data side by side -/
inductive DqL (K : PySem.W.Frag) (H : Hp) : List V → List PyData → Prop
  | nil : DqL K H [] []
  | cons {v : V} {d : PyData} {vs : List V} {ds : List PyData} (h : Dq K H v d) (t : DqL K H vs ds) : DqL K H (v :: vs) (d :: ds)
theorem DqL.at_ {K : PySem.W.Frag} {H : Hp} : ∀ {vs : List V} {ds : List PyData}, DqL K H vs ds → ∀ v ∈ vs, ∃ d, d ∈ ds ∧ Dq K H v d
  | _, _, .nil, _, h => by cases h
  | _, _, .cons a t, v, h => by
    rcases List.mem_cons.mp h with e | h
    · subst e; exact ⟨_, List.mem_cons_self, a⟩
    · obtain ⟨d, m, q⟩ := t.at_ v h
      exact ⟨d, List.mem_cons_of_mem _ m, q⟩
section
variable {K : PySem.W.Frag} {H : Hp} {vs : List V} {ds : List PyData}
theorem c_sc {v : V} {d : PyData} (h : Dp K H v d) (t : DqL K H vs ds) : DqL K H (v :: vs) (d :: ds) := .cons (.dp h) t
theorem c_tup {a : Addr} {xs : List V} {es : List PyData} (e : H a = some (.tup xs)) (h : DpAll K H xs es) (t : DqL K H vs ds) : DqL K H (.ref a :: vs) (.tuple es :: ds) := .cons (.dp (.tup (SqT.of e) h)) t
theorem c_lst {a : Addr} {xs : List V} {es : List PyData} (e : H a = some (.lst xs)) (h : DpAll K H xs es) (t : DqL K H vs ds) : DqL K H (.ref a :: vs) (.list es :: ds) := .cons (.dp (.lst (SqL.of e) h)) t
theorem p_tup {a : Addr} {xs : List V} {es : List PyData} (e : H a = some (.tup xs)) (h : DpAll K H xs es) (t : DpAll K H vs ds) : DpAll K H (.ref a :: vs) (.tuple es :: ds) := .cons (.tup (SqT.of e) h) t
theorem p_int {i : Int} (t : DpAll K H vs ds) : DpAll K H (.int i :: vs) (.int i :: ds) := .cons (.int i) t
theorem p_str {i : Str} (t : DpAll K H vs ds) : DpAll K H (.str i :: vs) (.str i :: ds) := .cons (.str i) t
theorem p_non (t : DpAll K H vs ds) : DpAll K H (.non :: vs) (.none :: ds) := .cons .non t
end
end M5
namespace Toy
open PySem L2 U M5 QD
section
variable {P : Program} {w : World} {K : PySem.W.Frag} {mg : Str → Option Value} {base : Heap}
theorem sc__law_odd : FnScope ["pot", "some"] ["pot"] (defScope s__law_odd) := ⟨rfl, rfl, rfl, by decide +kernel, rfl, by decide +kernel, by decide +kernel⟩
def sp_odd (K : PySem.W.Frag) : Sp := fun vs H Q _ => ∃ (p : Addr) (n : Nat), vs = [.ref p] ∧ PotAt H p (n + 1) ∧ ∀ (v : V) (H' : Hp), Odd K (del H' p) v → PotAt H' p n → SB p H H' → Q v H'
theorem ok__law_odd (T : Tx K mg) : FnOk P w K mg base CX0 3 T.a__law_odd T.fd__law_odd ["pot"] (sp_odd K) := by
  refine T.F__law_odd.ok sc__law_odd (fun vs H Q E h => ?_) (fun cdv A outer s H vs Q E hr h => ?_)
  · obtain ⟨p, n, rfl, _⟩ := h
    rfl
  · obtain ⟨p, n, rfl, hp, kk⟩ := h
    have hu := hu_of hr
    have hu64 := hr.units
    obtain ⟨ow, sd, k, hp0, hp1⟩ := id hp
    refine ⟨_, (pss_cons (ps_set (i := 1) sc__law_odd.nd rfl (Or.inl rfl) (pe_lst (pa_cons (pe_non) (pa_cons (pe_bl) (pa_cons (pe_bl) (pa_cons (pe_int) (pa_cons (pe_un op_uNeg (pe_int)) (pa_cons (pe_str) (pa_cons (pe_str) (pa_cons (pe_str) (pa_cons (pe_tup pa_nil) (pa_cons (pe_lst pa_nil) (pa_cons (pe_dnewK) (pa_cons (pe_tup (pa_cons (pe_tup pa_nil) pa_nil)) (pa_cons (pe_tup (pa_cons (pe_non) pa_nil)) (pa_cons (pe_lst (pa_cons (pe_int) pa_nil)) (pa_cons (pe_tup (pa_cons (pe_int) pa_nil)) (pa_cons (pe_tup (pa_cons (pe_str) pa_nil)) (pa_cons (pe_tup (pa_cons (pe_tup (pa_cons (pe_int) (pa_cons (pe_int) pa_nil))) pa_nil)) pa_nil)))))))))))))))))))
        (pss_cons (ps_expr (pe_bm PySem.F.plainAttrs_list PySem.F.slot_list_extend PySem.F.type_list_extend mt_extend (pv 1) (pa_cons (pe_lst (pa_cons (pe_tup (pa_cons (pe_str) (pa_cons (pe_str) pa_nil))) (pa_cons (pe_lst (pa_cons (pe_str) pa_nil)) (pa_cons (pe_disp (pps_cons (pe_str) (pe_int) pps_nil) (by rfl) (by rfl) (fun z => by cases z) (by decide)) (pa_cons (pe_op op_uPow (pe_int) (pe_int)) (pa_cons (pe_un op_uNeg (pe_int)) (pa_cons (pe_tup (pa_cons (pe_tup (pa_cons (pe_int) pa_nil)) (pa_cons (pe_tup (pa_cons (pe_int) pa_nil)) pa_nil))) (pa_cons (pe_tup (pa_cons (pe_tup (pa_cons (pe_int) (pa_cons (pe_int) pa_nil))) (pa_cons (pe_str) pa_nil))) (pa_cons (pe_str) pa_nil))))))))) pa_nil)))
        (pss_one (ps_ret (pe_call (ok__law_of T) (hr.mono (by decide)) rfl T.m__law_of T.F__law_of.kp (b__law_of T) .nil pass0 (pa_cons (pv 0) (pa_cons (pv 1) pa_nil))))))), ?_⟩
    walk_at "st"
    walk_at "go"
    refine ⟨by first | decide | (simp only [List.length_cons, List.length_nil]; decide), fun a1 n1 => ?_⟩
    have e1 : a1 ≠ p := (ne_of_none (show _ = some (HO.lst [.int ow, .int sd, .int k]) by walk_at "hp") n1).symm
    walk_at "go"
    refine ⟨by first | decide | (simp only [List.length_cons, List.length_nil]; decide), fun a2 n2 => ?_⟩
    have e2 : a2 ≠ p := (ne_of_none (show _ = some (HO.lst [.int ow, .int sd, .int k]) by walk_at "hp") n2).symm
    walk_at "go"
    intro a3 n3
    have e3 : a3 ≠ p := (ne_of_none (show _ = some (HO.lst [.int ow, .int sd, .int k]) by walk_at "hp") n3).symm
    walk_at "go"
    refine ⟨by first | decide | (simp only [List.length_cons, List.length_nil]; decide), fun a4 n4 => ?_⟩
    have e4 : a4 ≠ p := (ne_of_none (show _ = some (HO.lst [.int ow, .int sd, .int k]) by walk_at "hp") n4).symm
    walk_at "go"
    refine ⟨by first | decide | (simp only [List.length_cons, List.length_nil]; decide), fun a5 n5 => ?_⟩
    have e5 : a5 ≠ p := (ne_of_none (show _ = some (HO.lst [.int ow, .int sd, .int k]) by walk_at "hp") n5).symm
    walk_at "go"
    refine ⟨by first | decide | (simp only [List.length_cons, List.length_nil]; decide), fun a6 n6 => ?_⟩
    have e6 : a6 ≠ p := (ne_of_none (show _ = some (HO.lst [.int ow, .int sd, .int k]) by walk_at "hp") n6).symm
    walk_at "go"
    refine ⟨by first | decide | (simp only [List.length_cons, List.length_nil]; decide), fun a7 n7 => ?_⟩
    have e7 : a7 ≠ p := (ne_of_none (show _ = some (HO.lst [.int ow, .int sd, .int k]) by walk_at "hp") n7).symm
    walk_at "go"
    refine ⟨by first | decide | (simp only [List.length_cons, List.length_nil]; decide), fun a8 n8 => ?_⟩
    have e8 : a8 ≠ p := (ne_of_none (show _ = some (HO.lst [.int ow, .int sd, .int k]) by walk_at "hp") n8).symm
    walk_at "go"
    refine ⟨by first | decide | (simp only [List.length_cons, List.length_nil]; decide), fun a9 n9 => ?_⟩
    have e9 : a9 ≠ p := (ne_of_none (show _ = some (HO.lst [.int ow, .int sd, .int k]) by walk_at "hp") n9).symm
    walk_at "go"
    refine ⟨by first | decide | (simp only [List.length_cons, List.length_nil]; decide), fun a10 n10 => ?_⟩
    have e10 : a10 ≠ p := (ne_of_none (show _ = some (HO.lst [.int ow, .int sd, .int k]) by walk_at "hp") n10).symm
    walk_at "go"
    refine ⟨by first | decide | (simp only [List.length_cons, List.length_nil]; decide), fun a11 n11 => ?_⟩
    have e11 : a11 ≠ p := (ne_of_none (show _ = some (HO.lst [.int ow, .int sd, .int k]) by walk_at "hp") n11).symm
    walk_at "go"
    refine ⟨by first | decide | (simp only [List.length_cons, List.length_nil]; decide), fun l nl => ?_⟩
    have el : l ≠ p := (ne_of_none (show _ = some (HO.lst [.int ow, .int sd, .int k]) by walk_at "hp") nl).symm
    have l1 : a1 ≠ l := ne_of_none (show _ = some (HO.tup []) by walk_at "hp") nl
    have l2 : a2 ≠ l := ne_of_none (show _ = some (HO.lst []) by walk_at "hp") nl
    have l3 : a3 ≠ l := ne_of_none (show _ = some (HO.dK []) by walk_at "hp") nl
    have l4 : a4 ≠ l := ne_of_none (show _ = some (HO.tup []) by walk_at "hp") nl
    have l5 : a5 ≠ l := ne_of_none (show _ = some (HO.tup [.ref a4]) by walk_at "hp") nl
    have l6 : a6 ≠ l := ne_of_none (show _ = some (HO.tup [.non]) by walk_at "hp") nl
    have l7 : a7 ≠ l := ne_of_none (show _ = some (HO.lst [.int 0]) by walk_at "hp") nl
    have l8 : a8 ≠ l := ne_of_none (show _ = some (HO.tup [.int 0]) by walk_at "hp") nl
    have l9 : a9 ≠ l := ne_of_none (show _ = some (HO.tup [.str "a"]) by walk_at "hp") nl
    have l10 : a10 ≠ l := ne_of_none (show _ = some (HO.tup [.int 0, .int 1]) by walk_at "hp") nl
    have l11 : a11 ≠ l := ne_of_none (show _ = some (HO.tup [.ref a10]) by walk_at "hp") nl
    walk_at "go"
    refine ⟨by first | decide | (simp only [List.length_cons, List.length_nil]; decide), fun b1 m1 => ?_⟩
    have f1 : b1 ≠ p := (ne_of_none (show _ = some (HO.lst [.int ow, .int sd, .int k]) by walk_at "hp") m1).symm
    have k1 : b1 ≠ l := (ne_of_none (show _ = some (HO.lst [.non, .bl true, .bl false, .int 0, .int (-1), .str "", .str "A", .str "a b", .ref a1, .ref a2, .ref a3, .ref a5, .ref a6, .ref a7, .ref a8, .ref a9, .ref a11]) by walk_at "hp") m1).symm
    walk_at "go"
    refine ⟨by first | decide | (simp only [List.length_cons, List.length_nil]; decide), fun b2 m2 => ?_⟩
    have f2 : b2 ≠ p := (ne_of_none (show _ = some (HO.lst [.int ow, .int sd, .int k]) by walk_at "hp") m2).symm
    have k2 : b2 ≠ l := (ne_of_none (show _ = some (HO.lst [.non, .bl true, .bl false, .int 0, .int (-1), .str "", .str "A", .str "a b", .ref a1, .ref a2, .ref a3, .ref a5, .ref a6, .ref a7, .ref a8, .ref a9, .ref a11]) by walk_at "hp") m2).symm
    walk_at "go"
    intro b3 m3
    have f3 : b3 ≠ p := (ne_of_none (show _ = some (HO.lst [.int ow, .int sd, .int k]) by walk_at "hp") m3).symm
    have k3 : b3 ≠ l := (ne_of_none (show _ = some (HO.lst [.non, .bl true, .bl false, .int 0, .int (-1), .str "", .str "A", .str "a b", .ref a1, .ref a2, .ref a3, .ref a5, .ref a6, .ref a7, .ref a8, .ref a9, .ref a11]) by walk_at "hp") m3).symm
    walk_at "go"
    refine ⟨by walk_at "hp", [(Sum.inr "a", .int 1)], rfl, by decide, ?_⟩
    rw [upd_two, show mergeK [] [((Sum.inr ("a" : Str) : Key), V.int 1)] = [((Sum.inr ("a" : Str) : Key), V.int 1)] from rfl]
    walk_at "go"
    refine ⟨by first | decide | (simp only [List.length_cons, List.length_nil]; decide), fun b4 m4 => ?_⟩
    have f4 : b4 ≠ p := (ne_of_none (show _ = some (HO.lst [.int ow, .int sd, .int k]) by walk_at "hp") m4).symm
    have k4 : b4 ≠ l := (ne_of_none (show _ = some (HO.lst [.non, .bl true, .bl false, .int 0, .int (-1), .str "", .str "A", .str "a b", .ref a1, .ref a2, .ref a3, .ref a5, .ref a6, .ref a7, .ref a8, .ref a9, .ref a11]) by walk_at "hp") m4).symm
    walk_at "go"
    refine ⟨by first | decide | (simp only [List.length_cons, List.length_nil]; decide), fun b5 m5 => ?_⟩
    have f5 : b5 ≠ p := (ne_of_none (show _ = some (HO.lst [.int ow, .int sd, .int k]) by walk_at "hp") m5).symm
    have k5 : b5 ≠ l := (ne_of_none (show _ = some (HO.lst [.non, .bl true, .bl false, .int 0, .int (-1), .str "", .str "A", .str "a b", .ref a1, .ref a2, .ref a3, .ref a5, .ref a6, .ref a7, .ref a8, .ref a9, .ref a11]) by walk_at "hp") m5).symm
    walk_at "go"
    refine ⟨by first | decide | (simp only [List.length_cons, List.length_nil]; decide), fun b6 m6 => ?_⟩
    have f6 : b6 ≠ p := (ne_of_none (show _ = some (HO.lst [.int ow, .int sd, .int k]) by walk_at "hp") m6).symm
    have k6 : b6 ≠ l := (ne_of_none (show _ = some (HO.lst [.non, .bl true, .bl false, .int 0, .int (-1), .str "", .str "A", .str "a b", .ref a1, .ref a2, .ref a3, .ref a5, .ref a6, .ref a7, .ref a8, .ref a9, .ref a11]) by walk_at "hp") m6).symm
    walk_at "go"
    refine ⟨by first | decide | (simp only [List.length_cons, List.length_nil]; decide), fun b7 m7 => ?_⟩
    have f7 : b7 ≠ p := (ne_of_none (show _ = some (HO.lst [.int ow, .int sd, .int k]) by walk_at "hp") m7).symm
    have k7 : b7 ≠ l := (ne_of_none (show _ = some (HO.lst [.non, .bl true, .bl false, .int 0, .int (-1), .str "", .str "A", .str "a b", .ref a1, .ref a2, .ref a3, .ref a5, .ref a6, .ref a7, .ref a8, .ref a9, .ref a11]) by walk_at "hp") m7).symm
    walk_at "go"
    refine ⟨by first | decide | (simp only [List.length_cons, List.length_nil]; decide), fun b8 m8 => ?_⟩
    have f8 : b8 ≠ p := (ne_of_none (show _ = some (HO.lst [.int ow, .int sd, .int k]) by walk_at "hp") m8).symm
    have k8 : b8 ≠ l := (ne_of_none (show _ = some (HO.lst [.non, .bl true, .bl false, .int 0, .int (-1), .str "", .str "A", .str "a b", .ref a1, .ref a2, .ref a3, .ref a5, .ref a6, .ref a7, .ref a8, .ref a9, .ref a11]) by walk_at "hp") m8).symm
    walk_at "go"
    refine ⟨by first | decide | (simp only [List.length_cons, List.length_nil]; decide), fun z nz => ?_⟩
    have ez : z ≠ p := (ne_of_none (show _ = some (HO.lst [.int ow, .int sd, .int k]) by walk_at "hp") nz).symm
    have kz : z ≠ l := (ne_of_none (show _ = some (HO.lst [.non, .bl true, .bl false, .int 0, .int (-1), .str "", .str "A", .str "a b", .ref a1, .ref a2, .ref a3, .ref a5, .ref a6, .ref a7, .ref a8, .ref a9, .ref a11]) by walk_at "hp") nz).symm
    walk_at "go"
    refine g_ext (xs := [.non, .bl true, .bl false, .int 0, .int (-1), .str "", .str "A", .str "a b", .ref a1, .ref a2, .ref a3, .ref a5, .ref a6, .ref a7, .ref a8, .ref a9, .ref a11]) (zs := [.ref b1, .ref b2, .ref b3, .int (10 ^ 30), .int (-7), .ref b6, .ref b8, .str "thirteensigns"]) (by walk_at "hp") (by walk_at "hp") (by simp only [List.length_cons, List.length_nil]; decide) ?_
    generalize hH : upd _ l _ = Hf
    have pf : Hf p = some (.lst [.int ow, .int sd, .int k]) := by rw [← hH]; walk_at "hp"
    have lf : Hf l = some (.lst ([.non, .bl true, .bl false, .int 0, .int (-1), .str "", .str "A", .str "a b", .ref a1, .ref a2, .ref a3, .ref a5, .ref a6, .ref a7, .ref a8, .ref a9, .ref a11] ++ [.ref b1, .ref b2, .ref b3, .int (10 ^ 30), .int (-7), .ref b6, .ref b8, .str "thirteensigns"])) := by rw [← hH]; exact upd_same
    have dA : DqL K (del Hf p) [.non, .bl true, .bl false, .int 0, .int (-1), .str "", .str "A", .str "a b", .ref a1, .ref a2, .ref a3, .ref a5, .ref a6, .ref a7, .ref a8, .ref a9, .ref a11] oddA := by
      rw [← hH]
      exact (c_sc .non (c_sc (.bl true) (c_sc (.bl false) (c_sc (.int 0) (c_sc (.int (-1)) (c_sc (.str "") (c_sc (.str "A") (c_sc (.str "a b") (c_tup (del_get e1 (by walk_at "hp")) .nil (c_lst (del_get e2 (by walk_at "hp")) .nil (.cons (.d0 (del_get e3 (by walk_at "hp"))) (c_tup (del_get e5 (by walk_at "hp")) (p_tup (del_get e4 (by walk_at "hp")) .nil .nil) (c_tup (del_get e6 (by walk_at "hp")) (p_non .nil) (c_lst (del_get e7 (by walk_at "hp")) (p_int .nil) (c_tup (del_get e8 (by walk_at "hp")) (p_int .nil) (c_tup (del_get e9 (by walk_at "hp")) (p_str .nil) (c_tup (del_get e11 (by walk_at "hp")) (p_tup (del_get e10 (by walk_at "hp")) (p_int (p_int .nil)) .nil) .nil)))))))))))))))))
    have dB : DqL K (del Hf p) [.ref b1, .ref b2, .ref b3, .int (10 ^ 30), .int (-7), .ref b6, .ref b8, .str "thirteensigns"] oddB := by
      rw [← hH]
      exact (c_tup (del_get f1 (by walk_at "hp")) (p_str (p_str .nil)) (c_lst (del_get f2 (by walk_at "hp")) (p_str .nil) (.cons (.d1 (del_get f3 (by walk_at "hp"))) (c_sc (.int (10 ^ 30)) (c_sc (.int (-7)) (c_tup (del_get f6 (by walk_at "hp")) (p_tup (del_get f4 (by walk_at "hp")) (p_int .nil) (p_tup (del_get f5 (by walk_at "hp")) (p_int .nil) .nil)) (c_tup (del_get f8 (by walk_at "hp")) (p_tup (del_get f7 (by walk_at "hp")) (p_int (p_int .nil)) (p_str .nil)) (c_sc (.str "thirteensigns") .nil))))))))
    have sb : SB p H Hf := by
      rw [← hH]
      have h0 : H l = none := nb1 (nb1 (nb1 (nb1 (nb1 (nb1 (nb1 (nb1 (nb1 (nb1 (nb1 nl))))))))))
      exact SB.mut (SB.new (SB.new (SB.new (SB.new (SB.new (SB.new (SB.new (SB.new (SB.new (SB.new (SB.new (SB.new (SB.new (SB.new (SB.new (SB.new (SB.new (SB.new (SB.new (SB.new (SB.new (SB.refl p H) n1) n2) n3) n4) n5) n6) n7) n8) n9) n10) n11) nl) m1) m2) m3) m4) m5) m6) m7) m8) nz) h0
    clear hH
    walk_at "go"
    refine ⟨p, .ref l, n, rfl, ⟨ow, sd, k, pf, hp1⟩, Or.inl ⟨l, _, rfl, Or.inl (SqL.of lf), by simp only [List.length_append, List.length_cons, List.length_nil]; decide, by simp only [List.length_append, List.length_cons, List.length_nil]; decide, fun H' s' => Or.inl (SqL.of (s' _ _ lf el)), fun j y H' hy hp' s' => ?_⟩⟩
    refine kk y H' ?_ hp' (sb.trans s')
    have my := List.mem_of_getElem? hy
    have od : Odd K (del Hf p) y := by
      rcases List.mem_append.mp my with m | m
      · obtain ⟨d, md, q⟩ := dA.at_ y m
        exact ⟨d, List.mem_append_left _ md, q⟩
      · obtain ⟨d, md, q⟩ := dB.at_ y m
        exact ⟨d, List.mem_append_right _ md, q⟩
    exact od.mono (same_del s')
end
end Toy

namespace M5
open PySem L2 EX
/-- errors of the classes Cs at es, all with v -/
abbrev Errs (H : Hp) (v : V) : List Addr → List Addr → Prop := Paired fun e C => ErrAt H e C v
theorem Errs.mono {H H' : Hp} {v : V} (s : Same H H') : ∀ {es Cs : List Addr}, Errs H v es Cs → Errs H' v es Cs
  | _, _, .nil => .nil
  | _, _, .cons a t => .cons (a.mono s) (Errs.mono s t)
theorem err_lst {H : Hp} {e C l : Addr} {v : V} {xs : List V} {o : HO} (hl : H l = some (.lst xs)) (h : ErrAt H e C v) : ErrAt (upd H l o) e C v := by
  obtain ⟨d, a, b⟩ := h
  have n1 : e ≠ l := fun z => by
    rw [z, hl] at a
    have a' : some (HO.lst xs) = some (HO.ext _) := a
    cases a'
  have n2 : d ≠ l := fun z => by
    rw [z, hl] at b
    have b' : some (HO.lst xs) = some (HO.ext _) := b
    cases b'
  exact ⟨d, by rw [upd_ne n1]; exact a, by rw [upd_ne n2]; exact b⟩
theorem Errs.lst {H : Hp} {l : Addr} {v : V} {xs : List V} {o : HO} (hl : H l = some (.lst xs)) : ∀ {es Cs : List Addr}, Errs H v es Cs → Errs (upd H l o) v es Cs
  | _, _, .nil => .nil
  | _, _, .cons a t => .cons (err_lst hl a) (Errs.lst hl t)
theorem Errs.app {H : Hp} {v : V} : ∀ {es Cs fs Ds : List Addr}, Errs H v es Cs → Errs H v fs Ds → Errs H v (es ++ fs) (Cs ++ Ds)
  | _, _, _, _, .nil, h => h
  | _, _, _, _, .cons a t, h => .cons a (Errs.app t h)
/-- the list found while errors go into it -/
structure EI (H : Hp) (l : Addr) (v : V) (es Cs : List Addr) (H' : Hp) : Prop where
  new : H l = none
  same : Same H H'
  at_ : H' l = some (.lst (es.map V.ref))
  all : Errs H' v es Cs
theorem EI.first {H H' : Hp} {l : Addr} {v : V} {es Cs : List Addr} (s : Same H H') (n : H' l = none) (e : Errs H' v es Cs) : EI H l v es Cs (upd H' l (.lst (es.map V.ref))) :=
  ⟨s.free n, fun b o h => U.same_new n b o (s b o h), upd_same, e.mono (U.same_new n)⟩
theorem EI.mono {H H' H'' : Hp} {l : Addr} {v : V} {es Cs : List Addr} (I : EI H l v es Cs H') (s : Same H' H'') : EI H l v es Cs H'' := ⟨I.new, I.same.trans s, s _ _ I.at_, I.all.mono s⟩
theorem EI.more {H H' : Hp} {l z : Addr} {v : V} {es Cs zs Ds : List Addr} (I : EI H l v es Cs H') (n : H' z = none) (e : Errs H' v zs Ds) :
    EI H l v (es ++ zs) (Cs ++ Ds) (upd (upd H' z (.lst (zs.map V.ref))) l (.lst (es.map V.ref ++ zs.map V.ref))) := by
  have s := U.same_new (o := .lst (zs.map V.ref)) n
  have J := I.mono s
  refine ⟨I.new, U.same_mut J.same I.new, by rw [upd_same, List.map_append], ?_⟩
  exact (J.all.app (e.mono s)).lst J.at_
end M5
namespace Toy
open PySem L2 U EX M5
section
variable {P : Program} {w : World} {K : PySem.W.Frag} {mg : Str → Option Value} {base : Heap}
theorem sc_CrowdError___init__ : FnScope ["self", "value"] ["self", "value"] (defScope s_CrowdError___init__) := ⟨rfl, rfl, rfl, by decide +kernel, rfl, by decide +kernel, by decide +kernel⟩
theorem ok_CrowdError___init__ (T : Tx K mg) : FnOk P w K mg base CX0 1 T.a_CrowdError___init__ T.fd_CrowdError___init__ ["self", "value"] (sp_eini K) := by
  refine T.F_CrowdError___init__.ok sc_CrowdError___init__ (fun vs H Q E h => ?_) (fun cdv A outer s H vs Q E hr h => ?_)
  · obtain ⟨a, C, v, rfl, _⟩ := h
    rfl
  · obtain ⟨a, C, v, rfl, T1, hno, ha, kk⟩ := h
    refine ⟨_, pss_one (ps_ost (f := "value") (pv 0) (pv 1)), ?_⟩
    walk_at "st"
    exact ⟨v, rfl, .ref a, rfl, a, C, rfl, T1, hno, Or.inl ⟨ha, fun dx n ne => kk dx n ne⟩⟩
theorem g_cat {H : Hp} {Q : VK} {a b : Addr} {xs ys : List V} (ha : H a = some (.lst xs)) (hb : H b = some (.lst ys)) (hl : xs.length + ys.length ≤ 1000000) (q : ∀ p, H p = none → Q (.ref p) (upd H p (.lst (xs ++ ys)))) : uAdd K (.ref a) (.ref b) H Q := by
  exact Or.inl ⟨a, b, xs, ys, rfl, rfl, ha, hb, Nat.le_trans hl (by decide), q⟩
/-- errors of the classes Cs, all with the value -/
def sp_made (Cs : List Addr) : Sp := fun vs H Q _ => ∃ v, vs = [v] ∧ ∀ l es H', H l = none → Same H H' → H' l = some (.lst (es.map V.ref)) → Errs H' v es Cs → Q (.ref l) H'
theorem sc__law_made_too : FnScope ["value", "found"] ["value"] (defScope s__law_made_too) := ⟨rfl, rfl, rfl, by decide +kernel, rfl, by decide +kernel, by decide +kernel⟩
theorem ok__law_made_too (T : Tx K mg) : FnOk P w K mg base CX0 3 T.a__law_made_too T.fd__law_made_too ["value"] (sp_made [T.C_TooMany, T.C_BadWorld, T.C_BadSecret, T.C_BadSize, T.C_BadStretch, T.C_BadCrowds, T.C_BadShown, T.C_NoCrowds, T.C_BadLoss, T.C_BadColumn, T.C_BadCounts, T.C_BadLifts, T.C_BadCrowd, T.C_BadSecrets, T.C_BadSequence, T.C_BadTold, T.C_BadNames]) := by
  refine T.F__law_made_too.ok sc__law_made_too (fun vs H Q E h => ?_) (fun cdv A outer s H vs Q E hr h => ?_)
  · obtain ⟨v, rfl, _⟩ := h
    rfl
  · obtain ⟨v, rfl, kk⟩ := h
    have hu := hu_of hr
    have hu64 := hr.units
    refine ⟨_, (pss_cons (ps_set (i := 1) sc__law_made_too.nd rfl (Or.inl rfl) (pe_lst (pa_cons (EX.pe_mkE T.e_TooMany T.tI (ok_CrowdError___init__ T) (hr.mono (by decide)) (b_CrowdError___init__ T) (by rfl) T.m_TooMany (pa_cons (pv 0) pa_nil)) (pa_cons (EX.pe_mkE T.e_BadWorld T.tI (ok_CrowdError___init__ T) (hr.mono (by decide)) (b_CrowdError___init__ T) (by rfl) T.m_BadWorld (pa_cons (pv 0) pa_nil)) (pa_cons (EX.pe_mkE T.e_BadSecret T.tI (ok_CrowdError___init__ T) (hr.mono (by decide)) (b_CrowdError___init__ T) (by rfl) T.m_BadSecret (pa_cons (pv 0) pa_nil)) (pa_cons (EX.pe_mkE T.e_BadSize T.tI (ok_CrowdError___init__ T) (hr.mono (by decide)) (b_CrowdError___init__ T) (by rfl) T.m_BadSize (pa_cons (pv 0) pa_nil)) (pa_cons (EX.pe_mkE T.e_BadStretch T.tI (ok_CrowdError___init__ T) (hr.mono (by decide)) (b_CrowdError___init__ T) (by rfl) T.m_BadStretch (pa_cons (pv 0) pa_nil)) pa_nil)))))))
        (pss_cons (ps_expr (pe_bm PySem.F.plainAttrs_list PySem.F.slot_list_extend PySem.F.type_list_extend mt_extend (pv 1) (pa_cons (pe_lst (pa_cons (EX.pe_mkE T.e_BadCrowds T.tI (ok_CrowdError___init__ T) (hr.mono (by decide)) (b_CrowdError___init__ T) (by rfl) T.m_BadCrowds (pa_cons (pv 0) pa_nil)) (pa_cons (EX.pe_mkE T.e_BadShown T.tI (ok_CrowdError___init__ T) (hr.mono (by decide)) (b_CrowdError___init__ T) (by rfl) T.m_BadShown (pa_cons (pv 0) pa_nil)) (pa_cons (EX.pe_mkE T.e_NoCrowds T.tI (ok_CrowdError___init__ T) (hr.mono (by decide)) (b_CrowdError___init__ T) (by rfl) T.m_NoCrowds (pa_cons (pv 0) pa_nil)) (pa_cons (EX.pe_mkE T.e_BadLoss T.tI (ok_CrowdError___init__ T) (hr.mono (by decide)) (b_CrowdError___init__ T) (by rfl) T.m_BadLoss (pa_cons (pv 0) pa_nil)) (pa_cons (EX.pe_mkE T.e_BadColumn T.tI (ok_CrowdError___init__ T) (hr.mono (by decide)) (b_CrowdError___init__ T) (by rfl) T.m_BadColumn (pa_cons (pv 0) pa_nil)) pa_nil)))))) pa_nil)))
        (pss_cons (ps_expr (pe_bm PySem.F.plainAttrs_list PySem.F.slot_list_extend PySem.F.type_list_extend mt_extend (pv 1) (pa_cons (pe_lst (pa_cons (EX.pe_mkE T.e_BadCounts T.tI (ok_CrowdError___init__ T) (hr.mono (by decide)) (b_CrowdError___init__ T) (by rfl) T.m_BadCounts (pa_cons (pv 0) pa_nil)) (pa_cons (EX.pe_mkE T.e_BadLifts T.tI (ok_CrowdError___init__ T) (hr.mono (by decide)) (b_CrowdError___init__ T) (by rfl) T.m_BadLifts (pa_cons (pv 0) pa_nil)) (pa_cons (EX.pe_mkE T.e_BadCrowd T.tI (ok_CrowdError___init__ T) (hr.mono (by decide)) (b_CrowdError___init__ T) (by rfl) T.m_BadCrowd (pa_cons (pv 0) pa_nil)) (pa_cons (EX.pe_mkE T.e_BadSecrets T.tI (ok_CrowdError___init__ T) (hr.mono (by decide)) (b_CrowdError___init__ T) (by rfl) T.m_BadSecrets (pa_cons (pv 0) pa_nil)) (pa_cons (EX.pe_mkE T.e_BadSequence T.tI (ok_CrowdError___init__ T) (hr.mono (by decide)) (b_CrowdError___init__ T) (by rfl) T.m_BadSequence (pa_cons (pv 0) pa_nil)) pa_nil)))))) pa_nil)))
        (pss_cons (ps_expr (pe_bm PySem.F.plainAttrs_list PySem.F.slot_list_extend PySem.F.type_list_extend mt_extend (pv 1) (pa_cons (pe_lst (pa_cons (EX.pe_mkE T.e_BadTold T.tI (ok_CrowdError___init__ T) (hr.mono (by decide)) (b_CrowdError___init__ T) (by rfl) T.m_BadTold (pa_cons (pv 0) pa_nil)) (pa_cons (EX.pe_mkE T.e_BadNames T.tI (ok_CrowdError___init__ T) (hr.mono (by decide)) (b_CrowdError___init__ T) (by rfl) T.m_BadNames (pa_cons (pv 0) pa_nil)) pa_nil))) pa_nil)))
        (pss_one (ps_ret (pv 1))))))), ?_⟩
    walk_at "st"
    walk_at "go"
    intro e1 H1 n1 s1 h1
    walk_at "go"
    intro e2 H2 n2 s2 h2
    walk_at "go"
    intro e3 H3 n3 s3 h3
    walk_at "go"
    intro e4 H4 n4 s4 h4
    walk_at "go"
    intro e5 H5 n5 s5 h5
    walk_at "go"
    refine ⟨by simp only [List.length_cons, List.length_nil]; decide, fun l nl => ?_⟩
    have I0 : EI H l v [e1, e2, e3, e4, e5] [T.C_TooMany, T.C_BadWorld, T.C_BadSecret, T.C_BadSize, T.C_BadStretch] (upd H5 l (.lst ([e1, e2, e3, e4, e5].map V.ref))) := EI.first (((((s1).trans s2).trans s3).trans s4).trans s5) nl (.cons ((((h1.mono s2).mono s3).mono s4).mono s5) (.cons (((h2.mono s3).mono s4).mono s5) (.cons ((h3.mono s4).mono s5) (.cons (h4.mono s5) (.cons h5 .nil)))))
    walk_at "go"
    intro e6 H6 n6 s6 h6
    walk_at "go"
    intro e7 H7 n7 s7 h7
    walk_at "go"
    intro e8 H8 n8 s8 h8
    walk_at "go"
    intro e9 H9 n9 s9 h9
    walk_at "go"
    intro e10 H10 n10 s10 h10
    walk_at "go"
    refine ⟨by simp only [List.length_cons, List.length_nil]; decide, fun z1 m1 => ?_⟩
    walk_at "go"
    have J1 := I0.mono (((((s6).trans s7).trans s8).trans s9).trans s10)
    refine g_ext (get_new m1 J1.at_) (upd_same (o := .lst ([e6, e7, e8, e9, e10].map V.ref))) (by simp only [List.length_cons, List.length_nil, List.length_map, List.length_append]; decide) ?_
    have I1 := J1.more m1 (zs := [e6, e7, e8, e9, e10]) (Ds := [T.C_BadCrowds, T.C_BadShown, T.C_NoCrowds, T.C_BadLoss, T.C_BadColumn]) (.cons ((((h6.mono s7).mono s8).mono s9).mono s10) (.cons (((h7.mono s8).mono s9).mono s10) (.cons ((h8.mono s9).mono s10) (.cons (h9.mono s10) (.cons h10 .nil)))))
    walk_at "go"
    intro e11 H11 n11 s11 h11
    walk_at "go"
    intro e12 H12 n12 s12 h12
    walk_at "go"
    intro e13 H13 n13 s13 h13
    walk_at "go"
    intro e14 H14 n14 s14 h14
    walk_at "go"
    intro e15 H15 n15 s15 h15
    walk_at "go"
    refine ⟨by simp only [List.length_cons, List.length_nil]; decide, fun z2 m2 => ?_⟩
    walk_at "go"
    have J2 := I1.mono (((((s11).trans s12).trans s13).trans s14).trans s15)
    refine g_ext (get_new m2 J2.at_) (upd_same (o := .lst ([e11, e12, e13, e14, e15].map V.ref))) (by simp only [List.length_cons, List.length_nil, List.length_map, List.length_append]; decide) ?_
    have I2 := J2.more m2 (zs := [e11, e12, e13, e14, e15]) (Ds := [T.C_BadCounts, T.C_BadLifts, T.C_BadCrowd, T.C_BadSecrets, T.C_BadSequence]) (.cons ((((h11.mono s12).mono s13).mono s14).mono s15) (.cons (((h12.mono s13).mono s14).mono s15) (.cons ((h13.mono s14).mono s15) (.cons (h14.mono s15) (.cons h15 .nil)))))
    walk_at "go"
    intro e16 H16 n16 s16 h16
    walk_at "go"
    intro e17 H17 n17 s17 h17
    walk_at "go"
    refine ⟨by simp only [List.length_cons, List.length_nil]; decide, fun z3 m3 => ?_⟩
    walk_at "go"
    have J3 := I2.mono ((s16).trans s17)
    refine g_ext (get_new m3 J3.at_) (upd_same (o := .lst ([e16, e17].map V.ref))) (by simp only [List.length_cons, List.length_nil, List.length_map, List.length_append]; decide) ?_
    have I3 := J3.more m3 (zs := [e16, e17]) (Ds := [T.C_BadTold, T.C_BadNames]) (.cons (h16.mono s17) (.cons h17 .nil))
    walk_at "go"
    exact kk _ _ _ I3.new I3.same I3.at_ I3.all
theorem sc__law_made_more : FnScope ["value", "found"] ["value"] (defScope s__law_made_more) := ⟨rfl, rfl, rfl, by decide +kernel, rfl, by decide +kernel, by decide +kernel⟩
theorem ok__law_made_more (T : Tx K mg) : FnOk P w K mg base CX0 3 T.a__law_made_more T.fd__law_made_more ["value"] (sp_made [T.C_OtherRegister, T.C_NoJoint, T.C_Full, T.C_BadName, T.C_Held, T.C_TooFew, T.C_Unlike, T.C_BadDeed, T.C_NoName, T.C_NotThat, T.C_InUse, T.C_BadPerson, T.C_NotTold, T.C_NothingToUndo, T.C_NothingToRedo, T.C_NoNote, T.C_BadDesk]) := by
  refine T.F__law_made_more.ok sc__law_made_more (fun vs H Q E h => ?_) (fun cdv A outer s H vs Q E hr h => ?_)
  · obtain ⟨v, rfl, _⟩ := h
    rfl
  · obtain ⟨v, rfl, kk⟩ := h
    have hu := hu_of hr
    have hu64 := hr.units
    refine ⟨_, (pss_cons (ps_set (i := 1) sc__law_made_more.nd rfl (Or.inl rfl) (pe_lst (pa_cons (EX.pe_mkE T.e_OtherRegister T.tI (ok_CrowdError___init__ T) (hr.mono (by decide)) (b_CrowdError___init__ T) (by rfl) T.m_OtherRegister (pa_cons (pv 0) pa_nil)) (pa_cons (EX.pe_mkE T.e_NoJoint T.tI (ok_CrowdError___init__ T) (hr.mono (by decide)) (b_CrowdError___init__ T) (by rfl) T.m_NoJoint (pa_cons (pv 0) pa_nil)) (pa_cons (EX.pe_mkE T.e_Full T.tI (ok_CrowdError___init__ T) (hr.mono (by decide)) (b_CrowdError___init__ T) (by rfl) T.m_Full (pa_cons (pv 0) pa_nil)) (pa_cons (EX.pe_mkE T.e_BadName T.tI (ok_CrowdError___init__ T) (hr.mono (by decide)) (b_CrowdError___init__ T) (by rfl) T.m_BadName (pa_cons (pv 0) pa_nil)) (pa_cons (EX.pe_mkE T.e_Held T.tI (ok_CrowdError___init__ T) (hr.mono (by decide)) (b_CrowdError___init__ T) (by rfl) T.m_Held (pa_cons (pv 0) pa_nil)) (pa_cons (EX.pe_mkE T.e_TooFew T.tI (ok_CrowdError___init__ T) (hr.mono (by decide)) (b_CrowdError___init__ T) (by rfl) T.m_TooFew (pa_cons (pv 0) pa_nil)) pa_nil))))))))
        (pss_cons (ps_expr (pe_bm PySem.F.plainAttrs_list PySem.F.slot_list_extend PySem.F.type_list_extend mt_extend (pv 1) (pa_cons (pe_lst (pa_cons (EX.pe_mkE T.e_Unlike T.tI (ok_CrowdError___init__ T) (hr.mono (by decide)) (b_CrowdError___init__ T) (by rfl) T.m_Unlike (pa_cons (pv 0) pa_nil)) (pa_cons (EX.pe_mkE T.e_BadDeed T.tI (ok_CrowdError___init__ T) (hr.mono (by decide)) (b_CrowdError___init__ T) (by rfl) T.m_BadDeed (pa_cons (pv 0) pa_nil)) (pa_cons (EX.pe_mkE T.e_NoName T.tI (ok_CrowdError___init__ T) (hr.mono (by decide)) (b_CrowdError___init__ T) (by rfl) T.m_NoName (pa_cons (pv 0) pa_nil)) (pa_cons (EX.pe_mkE T.e_NotThat T.tI (ok_CrowdError___init__ T) (hr.mono (by decide)) (b_CrowdError___init__ T) (by rfl) T.m_NotThat (pa_cons (pv 0) pa_nil)) (pa_cons (EX.pe_mkE T.e_InUse T.tI (ok_CrowdError___init__ T) (hr.mono (by decide)) (b_CrowdError___init__ T) (by rfl) T.m_InUse (pa_cons (pv 0) pa_nil)) (pa_cons (EX.pe_mkE T.e_BadPerson T.tI (ok_CrowdError___init__ T) (hr.mono (by decide)) (b_CrowdError___init__ T) (by rfl) T.m_BadPerson (pa_cons (pv 0) pa_nil)) pa_nil))))))) pa_nil)))
        (pss_cons (ps_expr (pe_bm PySem.F.plainAttrs_list PySem.F.slot_list_extend PySem.F.type_list_extend mt_extend (pv 1) (pa_cons (pe_lst (pa_cons (EX.pe_mkE T.e_NotTold T.tI (ok_CrowdError___init__ T) (hr.mono (by decide)) (b_CrowdError___init__ T) (by rfl) T.m_NotTold (pa_cons (pv 0) pa_nil)) (pa_cons (EX.pe_mkE T.e_NothingToUndo T.tI (ok_CrowdError___init__ T) (hr.mono (by decide)) (b_CrowdError___init__ T) (by rfl) T.m_NothingToUndo (pa_cons (pv 0) pa_nil)) (pa_cons (EX.pe_mkE T.e_NothingToRedo T.tI (ok_CrowdError___init__ T) (hr.mono (by decide)) (b_CrowdError___init__ T) (by rfl) T.m_NothingToRedo (pa_cons (pv 0) pa_nil)) (pa_cons (EX.pe_mkE T.e_NoNote T.tI (ok_CrowdError___init__ T) (hr.mono (by decide)) (b_CrowdError___init__ T) (by rfl) T.m_NoNote (pa_cons (pv 0) pa_nil)) (pa_cons (EX.pe_mkE T.e_BadDesk T.tI (ok_CrowdError___init__ T) (hr.mono (by decide)) (b_CrowdError___init__ T) (by rfl) T.m_BadDesk (pa_cons (pv 0) pa_nil)) pa_nil)))))) pa_nil)))
        (pss_one (ps_ret (pv 1)))))), ?_⟩
    walk_at "st"
    walk_at "go"
    intro e1 H1 n1 s1 h1
    walk_at "go"
    intro e2 H2 n2 s2 h2
    walk_at "go"
    intro e3 H3 n3 s3 h3
    walk_at "go"
    intro e4 H4 n4 s4 h4
    walk_at "go"
    intro e5 H5 n5 s5 h5
    walk_at "go"
    intro e6 H6 n6 s6 h6
    walk_at "go"
    refine ⟨by simp only [List.length_cons, List.length_nil]; decide, fun l nl => ?_⟩
    have I0 : EI H l v [e1, e2, e3, e4, e5, e6] [T.C_OtherRegister, T.C_NoJoint, T.C_Full, T.C_BadName, T.C_Held, T.C_TooFew] (upd H6 l (.lst ([e1, e2, e3, e4, e5, e6].map V.ref))) := EI.first ((((((s1).trans s2).trans s3).trans s4).trans s5).trans s6) nl (.cons (((((h1.mono s2).mono s3).mono s4).mono s5).mono s6) (.cons ((((h2.mono s3).mono s4).mono s5).mono s6) (.cons (((h3.mono s4).mono s5).mono s6) (.cons ((h4.mono s5).mono s6) (.cons (h5.mono s6) (.cons h6 .nil))))))
    walk_at "go"
    intro e7 H7 n7 s7 h7
    walk_at "go"
    intro e8 H8 n8 s8 h8
    walk_at "go"
    intro e9 H9 n9 s9 h9
    walk_at "go"
    intro e10 H10 n10 s10 h10
    walk_at "go"
    intro e11 H11 n11 s11 h11
    walk_at "go"
    intro e12 H12 n12 s12 h12
    walk_at "go"
    refine ⟨by simp only [List.length_cons, List.length_nil]; decide, fun z1 m1 => ?_⟩
    walk_at "go"
    have J1 := I0.mono ((((((s7).trans s8).trans s9).trans s10).trans s11).trans s12)
    refine g_ext (get_new m1 J1.at_) (upd_same (o := .lst ([e7, e8, e9, e10, e11, e12].map V.ref))) (by simp only [List.length_cons, List.length_nil, List.length_map, List.length_append]; decide) ?_
    have I1 := J1.more m1 (zs := [e7, e8, e9, e10, e11, e12]) (Ds := [T.C_Unlike, T.C_BadDeed, T.C_NoName, T.C_NotThat, T.C_InUse, T.C_BadPerson]) (.cons (((((h7.mono s8).mono s9).mono s10).mono s11).mono s12) (.cons ((((h8.mono s9).mono s10).mono s11).mono s12) (.cons (((h9.mono s10).mono s11).mono s12) (.cons ((h10.mono s11).mono s12) (.cons (h11.mono s12) (.cons h12 .nil))))))
    walk_at "go"
    intro e13 H13 n13 s13 h13
    walk_at "go"
    intro e14 H14 n14 s14 h14
    walk_at "go"
    intro e15 H15 n15 s15 h15
    walk_at "go"
    intro e16 H16 n16 s16 h16
    walk_at "go"
    intro e17 H17 n17 s17 h17
    walk_at "go"
    refine ⟨by simp only [List.length_cons, List.length_nil]; decide, fun z2 m2 => ?_⟩
    walk_at "go"
    have J2 := I1.mono (((((s13).trans s14).trans s15).trans s16).trans s17)
    refine g_ext (get_new m2 J2.at_) (upd_same (o := .lst ([e13, e14, e15, e16, e17].map V.ref))) (by simp only [List.length_cons, List.length_nil, List.length_map, List.length_append]; decide) ?_
    have I2 := J2.more m2 (zs := [e13, e14, e15, e16, e17]) (Ds := [T.C_NotTold, T.C_NothingToUndo, T.C_NothingToRedo, T.C_NoNote, T.C_BadDesk]) (.cons ((((h13.mono s14).mono s15).mono s16).mono s17) (.cons (((h14.mono s15).mono s16).mono s17) (.cons ((h15.mono s16).mono s17) (.cons (h16.mono s17) (.cons h17 .nil)))))
    walk_at "go"
    exact kk _ _ _ I2.new I2.same I2.at_ I2.all
theorem sc__law_made : FnScope ["value", "found"] ["value"] (defScope s__law_made) := ⟨rfl, rfl, rfl, by decide +kernel, rfl, by decide +kernel, by decide +kernel⟩
theorem ok__law_made (T : Tx K mg) : FnOk P w K mg base CX0 4 T.a__law_made T.fd__law_made ["value"] (sp_made [T.C_BadRegister, T.C_BadColumns, T.C_BadKinds, T.C_BadPersons, T.C_NoColumn, T.C_NoPerson, T.C_NoKind, T.C_BadTable, T.C_BadRows, T.C_BadMark, T.C_BadValue, T.C_BadValues, T.C_NoRow, T.C_BadMarks, T.C_NoWorld, T.C_BadLot, T.C_BadNumber, T.C_TooMany, T.C_BadWorld, T.C_BadSecret, T.C_BadSize, T.C_BadStretch, T.C_BadCrowds, T.C_BadShown, T.C_NoCrowds, T.C_BadLoss, T.C_BadColumn, T.C_BadCounts, T.C_BadLifts, T.C_BadCrowd, T.C_BadSecrets, T.C_BadSequence, T.C_BadTold, T.C_BadNames, T.C_OtherRegister, T.C_NoJoint, T.C_Full, T.C_BadName, T.C_Held, T.C_TooFew, T.C_Unlike, T.C_BadDeed, T.C_NoName, T.C_NotThat, T.C_InUse, T.C_BadPerson, T.C_NotTold, T.C_NothingToUndo, T.C_NothingToRedo, T.C_NoNote, T.C_BadDesk]) := by
  refine T.F__law_made.ok sc__law_made (fun vs H Q E h => ?_) (fun cdv A outer s H vs Q E hr h => ?_)
  · obtain ⟨v, rfl, _⟩ := h
    rfl
  · obtain ⟨v, rfl, kk⟩ := h
    have hu := hu_of hr
    have hu64 := hr.units
    refine ⟨_, (pss_cons (ps_set (i := 1) sc__law_made.nd rfl (Or.inl rfl) (pe_lst (pa_cons (EX.pe_mkE T.e_BadRegister T.tI (ok_CrowdError___init__ T) (hr.mono (by decide)) (b_CrowdError___init__ T) (by rfl) T.m_BadRegister (pa_cons (pv 0) pa_nil)) (pa_cons (EX.pe_mkE T.e_BadColumns T.tI (ok_CrowdError___init__ T) (hr.mono (by decide)) (b_CrowdError___init__ T) (by rfl) T.m_BadColumns (pa_cons (pv 0) pa_nil)) (pa_cons (EX.pe_mkE T.e_BadKinds T.tI (ok_CrowdError___init__ T) (hr.mono (by decide)) (b_CrowdError___init__ T) (by rfl) T.m_BadKinds (pa_cons (pv 0) pa_nil)) (pa_cons (EX.pe_mkE T.e_BadPersons T.tI (ok_CrowdError___init__ T) (hr.mono (by decide)) (b_CrowdError___init__ T) (by rfl) T.m_BadPersons (pa_cons (pv 0) pa_nil)) (pa_cons (EX.pe_mkE T.e_NoColumn T.tI (ok_CrowdError___init__ T) (hr.mono (by decide)) (b_CrowdError___init__ T) (by rfl) T.m_NoColumn (pa_cons (pv 0) pa_nil)) pa_nil)))))))
        (pss_cons (ps_expr (pe_bm PySem.F.plainAttrs_list PySem.F.slot_list_extend PySem.F.type_list_extend mt_extend (pv 1) (pa_cons (pe_lst (pa_cons (EX.pe_mkE T.e_NoPerson T.tI (ok_CrowdError___init__ T) (hr.mono (by decide)) (b_CrowdError___init__ T) (by rfl) T.m_NoPerson (pa_cons (pv 0) pa_nil)) (pa_cons (EX.pe_mkE T.e_NoKind T.tI (ok_CrowdError___init__ T) (hr.mono (by decide)) (b_CrowdError___init__ T) (by rfl) T.m_NoKind (pa_cons (pv 0) pa_nil)) (pa_cons (EX.pe_mkE T.e_BadTable T.tI (ok_CrowdError___init__ T) (hr.mono (by decide)) (b_CrowdError___init__ T) (by rfl) T.m_BadTable (pa_cons (pv 0) pa_nil)) (pa_cons (EX.pe_mkE T.e_BadRows T.tI (ok_CrowdError___init__ T) (hr.mono (by decide)) (b_CrowdError___init__ T) (by rfl) T.m_BadRows (pa_cons (pv 0) pa_nil)) (pa_cons (EX.pe_mkE T.e_BadMark T.tI (ok_CrowdError___init__ T) (hr.mono (by decide)) (b_CrowdError___init__ T) (by rfl) T.m_BadMark (pa_cons (pv 0) pa_nil)) pa_nil)))))) pa_nil)))
        (pss_cons (ps_expr (pe_bm PySem.F.plainAttrs_list PySem.F.slot_list_extend PySem.F.type_list_extend mt_extend (pv 1) (pa_cons (pe_lst (pa_cons (EX.pe_mkE T.e_BadValue T.tI (ok_CrowdError___init__ T) (hr.mono (by decide)) (b_CrowdError___init__ T) (by rfl) T.m_BadValue (pa_cons (pv 0) pa_nil)) (pa_cons (EX.pe_mkE T.e_BadValues T.tI (ok_CrowdError___init__ T) (hr.mono (by decide)) (b_CrowdError___init__ T) (by rfl) T.m_BadValues (pa_cons (pv 0) pa_nil)) (pa_cons (EX.pe_mkE T.e_NoRow T.tI (ok_CrowdError___init__ T) (hr.mono (by decide)) (b_CrowdError___init__ T) (by rfl) T.m_NoRow (pa_cons (pv 0) pa_nil)) (pa_cons (EX.pe_mkE T.e_BadMarks T.tI (ok_CrowdError___init__ T) (hr.mono (by decide)) (b_CrowdError___init__ T) (by rfl) T.m_BadMarks (pa_cons (pv 0) pa_nil)) (pa_cons (EX.pe_mkE T.e_NoWorld T.tI (ok_CrowdError___init__ T) (hr.mono (by decide)) (b_CrowdError___init__ T) (by rfl) T.m_NoWorld (pa_cons (pv 0) pa_nil)) (pa_cons (EX.pe_mkE T.e_BadLot T.tI (ok_CrowdError___init__ T) (hr.mono (by decide)) (b_CrowdError___init__ T) (by rfl) T.m_BadLot (pa_cons (pv 0) pa_nil)) pa_nil))))))) pa_nil)))
        (pss_cons (ps_expr (pe_bm PySem.F.plainAttrs_list PySem.F.slot_list_extend PySem.F.type_list_extend mt_extend (pv 1) (pa_cons (pe_lst (pa_cons (EX.pe_mkE T.e_BadNumber T.tI (ok_CrowdError___init__ T) (hr.mono (by decide)) (b_CrowdError___init__ T) (by rfl) T.m_BadNumber (pa_cons (pv 0) pa_nil)) pa_nil)) pa_nil)))
        (pss_one (ps_ret (pe_op (op_uAdd (K := K) rfl) (pe_op (op_uAdd (K := K) rfl) (pv 1) (pe_call (ok__law_made_too T) (hr.mono (by decide)) rfl T.m__law_made_too T.F__law_made_too.kp (b__law_made_too T) .nil pass0 (pa_cons (pv 0) pa_nil))) (pe_call (ok__law_made_more T) (hr.mono (by decide)) rfl T.m__law_made_more T.F__law_made_more.kp (b__law_made_more T) .nil pass0 (pa_cons (pv 0) pa_nil))))))))), ?_⟩
    walk_at "st"
    walk_at "go"
    intro e1 H1 n1 s1 h1
    walk_at "go"
    intro e2 H2 n2 s2 h2
    walk_at "go"
    intro e3 H3 n3 s3 h3
    walk_at "go"
    intro e4 H4 n4 s4 h4
    walk_at "go"
    intro e5 H5 n5 s5 h5
    walk_at "go"
    refine ⟨by simp only [List.length_cons, List.length_nil]; decide, fun l nl => ?_⟩
    have I0 : EI H l v [e1, e2, e3, e4, e5] [T.C_BadRegister, T.C_BadColumns, T.C_BadKinds, T.C_BadPersons, T.C_NoColumn] (upd H5 l (.lst ([e1, e2, e3, e4, e5].map V.ref))) := EI.first (((((s1).trans s2).trans s3).trans s4).trans s5) nl (.cons ((((h1.mono s2).mono s3).mono s4).mono s5) (.cons (((h2.mono s3).mono s4).mono s5) (.cons ((h3.mono s4).mono s5) (.cons (h4.mono s5) (.cons h5 .nil)))))
    walk_at "go"
    intro e6 H6 n6 s6 h6
    walk_at "go"
    intro e7 H7 n7 s7 h7
    walk_at "go"
    intro e8 H8 n8 s8 h8
    walk_at "go"
    intro e9 H9 n9 s9 h9
    walk_at "go"
    intro e10 H10 n10 s10 h10
    walk_at "go"
    refine ⟨by simp only [List.length_cons, List.length_nil]; decide, fun z1 m1 => ?_⟩
    walk_at "go"
    have J1 := I0.mono (((((s6).trans s7).trans s8).trans s9).trans s10)
    refine g_ext (get_new m1 J1.at_) (upd_same (o := .lst ([e6, e7, e8, e9, e10].map V.ref))) (by simp only [List.length_cons, List.length_nil, List.length_map, List.length_append]; decide) ?_
    have I1 := J1.more m1 (zs := [e6, e7, e8, e9, e10]) (Ds := [T.C_NoPerson, T.C_NoKind, T.C_BadTable, T.C_BadRows, T.C_BadMark]) (.cons ((((h6.mono s7).mono s8).mono s9).mono s10) (.cons (((h7.mono s8).mono s9).mono s10) (.cons ((h8.mono s9).mono s10) (.cons (h9.mono s10) (.cons h10 .nil)))))
    walk_at "go"
    intro e11 H11 n11 s11 h11
    walk_at "go"
    intro e12 H12 n12 s12 h12
    walk_at "go"
    intro e13 H13 n13 s13 h13
    walk_at "go"
    intro e14 H14 n14 s14 h14
    walk_at "go"
    intro e15 H15 n15 s15 h15
    walk_at "go"
    intro e16 H16 n16 s16 h16
    walk_at "go"
    refine ⟨by simp only [List.length_cons, List.length_nil]; decide, fun z2 m2 => ?_⟩
    walk_at "go"
    have J2 := I1.mono ((((((s11).trans s12).trans s13).trans s14).trans s15).trans s16)
    refine g_ext (get_new m2 J2.at_) (upd_same (o := .lst ([e11, e12, e13, e14, e15, e16].map V.ref))) (by simp only [List.length_cons, List.length_nil, List.length_map, List.length_append]; decide) ?_
    have I2 := J2.more m2 (zs := [e11, e12, e13, e14, e15, e16]) (Ds := [T.C_BadValue, T.C_BadValues, T.C_NoRow, T.C_BadMarks, T.C_NoWorld, T.C_BadLot]) (.cons (((((h11.mono s12).mono s13).mono s14).mono s15).mono s16) (.cons ((((h12.mono s13).mono s14).mono s15).mono s16) (.cons (((h13.mono s14).mono s15).mono s16) (.cons ((h14.mono s15).mono s16) (.cons (h15.mono s16) (.cons h16 .nil))))))
    walk_at "go"
    intro e17 H17 n17 s17 h17
    walk_at "go"
    refine ⟨by simp only [List.length_cons, List.length_nil]; decide, fun z3 m3 => ?_⟩
    walk_at "go"
    have J3 := I2.mono (s17)
    refine g_ext (get_new m3 J3.at_) (upd_same (o := .lst ([e17].map V.ref))) (by simp only [List.length_cons, List.length_nil, List.length_map, List.length_append]; decide) ?_
    have I3 := J3.more m3 (zs := [e17]) (Ds := [T.C_BadNumber]) (.cons h17 .nil)
    walk_at "go"
    have I := I3
    refine ⟨v, rfl, fun l2 es2 H2 n2 s2 a2 r2 => ?_⟩
    have J := I.mono s2
    have z2 := r2.length
    refine g_cat J.at_ a2 (by simp only [List.length_append, List.length_map, List.length_cons, List.length_nil] at z2 ⊢; omega) fun q nq => ?_
    walk_at "go"
    refine ⟨v, rfl, fun l3 es3 H3 n3 s3 a3 r3 => ?_⟩
    have z3 := r3.length
    refine g_cat (s3 _ _ upd_same) a3 (by simp only [List.length_append, List.length_map, List.length_cons, List.length_nil] at z2 z3 ⊢; omega) fun q2 nq2 => ?_
    have sq := U.same_new (o := .lst (List.map V.ref ([e1, e2, e3, e4, e5] ++ [e6, e7, e8, e9, e10] ++ [e11, e12, e13, e14, e15, e16] ++ [e17]) ++ List.map V.ref es2)) nq
    have sAll := (J.same.trans sq).trans s3
    refine kk _ _ _ (sAll.free nq2) (fun b o h => U.same_new nq2 b o (sAll b o h)) (by rw [upd_same, ← List.map_append, ← List.map_append]) ?_
    exact (((J.all.mono (sq.trans s3)).app (r2.mono (sq.trans s3))).app r3).mono (U.same_new nq2)
end
end Toy

namespace M5
open PySem L2 EX
/-- the list found while bools go into it -/
structure BI (H : Hp) (l : Addr) (bs : List V) (H' : Hp) : Prop where
  new : H l = none
  same : Same H H'
  at_ : H' l = some (.lst bs)
theorem BI.first {H : Hp} {l : Addr} {bs : List V} (n : H l = none) : BI H l bs (upd H l (.lst bs)) := ⟨n, U.same_new n, upd_same⟩
theorem BI.more {H H' : Hp} {l z : Addr} {bs zs : List V} (I : BI H l bs H') (n : H' z = none) : BI H l (bs ++ zs) (upd (upd H' z (.lst zs)) l (.lst (bs ++ zs))) :=
  ⟨I.new, U.same_mut (I.same.trans (U.same_new n)) I.new, upd_same⟩
/-- f from n on, so many -/
def bls (f : Nat → Bool) (n m : Nat) : List V := (List.range m).map fun i => V.bl (f (n + i))
end M5
namespace Toy
open PySem L2 U EX M5
section
theorem u_clsE {X : Cx} {x : Str} {C : Addr} {pos : Pos} (hg : Gl X x) (h : X.mg x = some (.ref C)) (hd : (x == ("__debug__" : Str)) = false := by decide) : PE X (.Name x pos) (tC (.ref C)) := pe_glob hg h rfl hd
variable {P : Program} {w : World} {K : PySem.W.Frag} {mg : Str → Option Value} {base : Heap}
/-- the error classes, in the law's order -/
def errL (T : Tx K mg) : List Addr := [T.C_BadRegister, T.C_BadColumns, T.C_BadKinds, T.C_BadPersons, T.C_NoColumn, T.C_NoPerson, T.C_NoKind, T.C_BadTable, T.C_BadRows, T.C_BadMark, T.C_BadValue, T.C_BadValues, T.C_NoRow, T.C_BadMarks, T.C_NoWorld, T.C_BadLot, T.C_BadNumber, T.C_TooMany, T.C_BadWorld, T.C_BadSecret, T.C_BadSize, T.C_BadStretch, T.C_BadCrowds, T.C_BadShown, T.C_NoCrowds, T.C_BadLoss, T.C_BadColumn, T.C_BadCounts, T.C_BadLifts, T.C_BadCrowd, T.C_BadSecrets, T.C_BadSequence, T.C_BadTold, T.C_BadNames, T.C_OtherRegister, T.C_NoJoint, T.C_Full, T.C_BadName, T.C_Held, T.C_TooFew, T.C_Unlike, T.C_BadDeed, T.C_NoName, T.C_NotThat, T.C_InUse, T.C_BadPerson, T.C_NotTold, T.C_NothingToUndo, T.C_NothingToRedo, T.C_NoNote, T.C_BadDesk]
/-- which of the error classes the class C is: f tells it for the classes from n on -/
def sp_sorts (T : Tx K mg) (n m : Nat) : Sp := fun vs H Q _ => ∃ (a C : Addr) (v : V) (f : Nat → Bool), vs = [.ref a] ∧ ErrC K T.a_CrowdError___init__ C ∧ ErrAt H a C v ∧
  (∀ j, j < 51 → PySem.W.kitOne K (.ref C) (.ref ((errL T).getD j 0)) = some (f j)) ∧ ∀ l H', H l = none → Same H H' → H' l = some (.lst (bls f n m)) → Q (.ref l) H'
theorem sc__law_sorts_too : FnScope ["error", "found"] ["error"] (defScope s__law_sorts_too) := ⟨rfl, rfl, rfl, by decide +kernel, rfl, by decide +kernel, by decide +kernel⟩
theorem ok__law_sorts_too (T : Tx K mg) : FnOk P w K mg base CX0 1 T.a__law_sorts_too T.fd__law_sorts_too ["error"] (sp_sorts T 17 17) := by
  refine T.F__law_sorts_too.ok sc__law_sorts_too (fun vs H Q E h => ?_) (fun cdv A outer s H vs Q E hr h => ?_)
  · obtain ⟨a, C, v, f, rfl, _⟩ := h
    rfl
  · obtain ⟨a, C, v, f, rfl, he, ha, kk, qq⟩ := h
    have ha0 := ha
    have hu := hu_of hr
    have hu64 := hr.units
    refine ⟨_, (pss_cons (ps_set (i := 1) sc__law_sorts_too.nd rfl (Or.inl rfl) (pe_lst (pa_cons (pe_callB (call_isErr (K := K) (fI := T.a_CrowdError___init__) rfl T.tn_get T.tn_takes) (by rfl) T.n_isinstance (by decide +kernel) (pa_cons (pv 0) (pa_cons (u_clsE (by rfl) T.m_TooMany) pa_nil))) (pa_cons (pe_callB (call_isErr (K := K) (fI := T.a_CrowdError___init__) rfl T.tn_get T.tn_takes) (by rfl) T.n_isinstance (by decide +kernel) (pa_cons (pv 0) (pa_cons (u_clsE (by rfl) T.m_BadWorld) pa_nil))) (pa_cons (pe_callB (call_isErr (K := K) (fI := T.a_CrowdError___init__) rfl T.tn_get T.tn_takes) (by rfl) T.n_isinstance (by decide +kernel) (pa_cons (pv 0) (pa_cons (u_clsE (by rfl) T.m_BadSecret) pa_nil))) pa_nil)))))
        (pss_cons (ps_expr (pe_bm PySem.F.plainAttrs_list PySem.F.slot_list_extend PySem.F.type_list_extend mt_extend (pv 1) (pa_cons (pe_lst (pa_cons (pe_callB (call_isErr (K := K) (fI := T.a_CrowdError___init__) rfl T.tn_get T.tn_takes) (by rfl) T.n_isinstance (by decide +kernel) (pa_cons (pv 0) (pa_cons (u_clsE (by rfl) T.m_BadSize) pa_nil))) (pa_cons (pe_callB (call_isErr (K := K) (fI := T.a_CrowdError___init__) rfl T.tn_get T.tn_takes) (by rfl) T.n_isinstance (by decide +kernel) (pa_cons (pv 0) (pa_cons (u_clsE (by rfl) T.m_BadStretch) pa_nil))) (pa_cons (pe_callB (call_isErr (K := K) (fI := T.a_CrowdError___init__) rfl T.tn_get T.tn_takes) (by rfl) T.n_isinstance (by decide +kernel) (pa_cons (pv 0) (pa_cons (u_clsE (by rfl) T.m_BadCrowds) pa_nil))) pa_nil)))) pa_nil)))
        (pss_cons (ps_expr (pe_bm PySem.F.plainAttrs_list PySem.F.slot_list_extend PySem.F.type_list_extend mt_extend (pv 1) (pa_cons (pe_lst (pa_cons (pe_callB (call_isErr (K := K) (fI := T.a_CrowdError___init__) rfl T.tn_get T.tn_takes) (by rfl) T.n_isinstance (by decide +kernel) (pa_cons (pv 0) (pa_cons (u_clsE (by rfl) T.m_BadShown) pa_nil))) (pa_cons (pe_callB (call_isErr (K := K) (fI := T.a_CrowdError___init__) rfl T.tn_get T.tn_takes) (by rfl) T.n_isinstance (by decide +kernel) (pa_cons (pv 0) (pa_cons (u_clsE (by rfl) T.m_NoCrowds) pa_nil))) (pa_cons (pe_callB (call_isErr (K := K) (fI := T.a_CrowdError___init__) rfl T.tn_get T.tn_takes) (by rfl) T.n_isinstance (by decide +kernel) (pa_cons (pv 0) (pa_cons (u_clsE (by rfl) T.m_BadLoss) pa_nil))) pa_nil)))) pa_nil)))
        (pss_cons (ps_expr (pe_bm PySem.F.plainAttrs_list PySem.F.slot_list_extend PySem.F.type_list_extend mt_extend (pv 1) (pa_cons (pe_lst (pa_cons (pe_callB (call_isErr (K := K) (fI := T.a_CrowdError___init__) rfl T.tn_get T.tn_takes) (by rfl) T.n_isinstance (by decide +kernel) (pa_cons (pv 0) (pa_cons (u_clsE (by rfl) T.m_BadColumn) pa_nil))) (pa_cons (pe_callB (call_isErr (K := K) (fI := T.a_CrowdError___init__) rfl T.tn_get T.tn_takes) (by rfl) T.n_isinstance (by decide +kernel) (pa_cons (pv 0) (pa_cons (u_clsE (by rfl) T.m_BadCounts) pa_nil))) (pa_cons (pe_callB (call_isErr (K := K) (fI := T.a_CrowdError___init__) rfl T.tn_get T.tn_takes) (by rfl) T.n_isinstance (by decide +kernel) (pa_cons (pv 0) (pa_cons (u_clsE (by rfl) T.m_BadLifts) pa_nil))) pa_nil)))) pa_nil)))
        (pss_cons (ps_expr (pe_bm PySem.F.plainAttrs_list PySem.F.slot_list_extend PySem.F.type_list_extend mt_extend (pv 1) (pa_cons (pe_lst (pa_cons (pe_callB (call_isErr (K := K) (fI := T.a_CrowdError___init__) rfl T.tn_get T.tn_takes) (by rfl) T.n_isinstance (by decide +kernel) (pa_cons (pv 0) (pa_cons (u_clsE (by rfl) T.m_BadCrowd) pa_nil))) (pa_cons (pe_callB (call_isErr (K := K) (fI := T.a_CrowdError___init__) rfl T.tn_get T.tn_takes) (by rfl) T.n_isinstance (by decide +kernel) (pa_cons (pv 0) (pa_cons (u_clsE (by rfl) T.m_BadSecrets) pa_nil))) (pa_cons (pe_callB (call_isErr (K := K) (fI := T.a_CrowdError___init__) rfl T.tn_get T.tn_takes) (by rfl) T.n_isinstance (by decide +kernel) (pa_cons (pv 0) (pa_cons (u_clsE (by rfl) T.m_BadSequence) pa_nil))) pa_nil)))) pa_nil)))
        (pss_cons (ps_expr (pe_bm PySem.F.plainAttrs_list PySem.F.slot_list_extend PySem.F.type_list_extend mt_extend (pv 1) (pa_cons (pe_lst (pa_cons (pe_callB (call_isErr (K := K) (fI := T.a_CrowdError___init__) rfl T.tn_get T.tn_takes) (by rfl) T.n_isinstance (by decide +kernel) (pa_cons (pv 0) (pa_cons (u_clsE (by rfl) T.m_BadTold) pa_nil))) (pa_cons (pe_callB (call_isErr (K := K) (fI := T.a_CrowdError___init__) rfl T.tn_get T.tn_takes) (by rfl) T.n_isinstance (by decide +kernel) (pa_cons (pv 0) (pa_cons (u_clsE (by rfl) T.m_BadNames) pa_nil))) pa_nil))) pa_nil)))
        (pss_one (ps_ret (pv 1))))))))), ?_⟩
    walk_at "st"
    walk_at "go"
    refine e_isErr he ha (kk 17 (by decide)) ?_
    walk_at "go"
    refine e_isErr he ha (kk 18 (by decide)) ?_
    walk_at "go"
    refine e_isErr he ha (kk 19 (by decide)) ?_
    walk_at "go"
    refine ⟨by simp only [List.length_cons, List.length_nil]; decide, fun l nl => ?_⟩
    have I0 : BI H l [.bl (f 17), .bl (f 18), .bl (f 19)] (upd H l (.lst [.bl (f 17), .bl (f 18), .bl (f 19)])) := BI.first nl
    have ha := ha.mono I0.same
    walk_at "go"
    refine e_isErr he ha (kk 20 (by decide)) ?_
    walk_at "go"
    refine e_isErr he ha (kk 21 (by decide)) ?_
    walk_at "go"
    refine e_isErr he ha (kk 22 (by decide)) ?_
    walk_at "go"
    refine ⟨by simp only [List.length_cons, List.length_nil]; decide, fun z1 m1 => ?_⟩
    walk_at "go"
    refine g_ext (get_new m1 I0.at_) (upd_same (o := .lst [.bl (f 20), .bl (f 21), .bl (f 22)])) (by simp only [List.length_cons, List.length_nil, List.length_append]; decide) ?_
    have I1 := I0.more m1 (zs := [.bl (f 20), .bl (f 21), .bl (f 22)])
    have ha := ha0.mono I1.same
    walk_at "go"
    refine e_isErr he ha (kk 23 (by decide)) ?_
    walk_at "go"
    refine e_isErr he ha (kk 24 (by decide)) ?_
    walk_at "go"
    refine e_isErr he ha (kk 25 (by decide)) ?_
    walk_at "go"
    refine ⟨by simp only [List.length_cons, List.length_nil]; decide, fun z2 m2 => ?_⟩
    walk_at "go"
    refine g_ext (get_new m2 I1.at_) (upd_same (o := .lst [.bl (f 23), .bl (f 24), .bl (f 25)])) (by simp only [List.length_cons, List.length_nil, List.length_append]; decide) ?_
    have I2 := I1.more m2 (zs := [.bl (f 23), .bl (f 24), .bl (f 25)])
    have ha := ha0.mono I2.same
    walk_at "go"
    refine e_isErr he ha (kk 26 (by decide)) ?_
    walk_at "go"
    refine e_isErr he ha (kk 27 (by decide)) ?_
    walk_at "go"
    refine e_isErr he ha (kk 28 (by decide)) ?_
    walk_at "go"
    refine ⟨by simp only [List.length_cons, List.length_nil]; decide, fun z3 m3 => ?_⟩
    walk_at "go"
    refine g_ext (get_new m3 I2.at_) (upd_same (o := .lst [.bl (f 26), .bl (f 27), .bl (f 28)])) (by simp only [List.length_cons, List.length_nil, List.length_append]; decide) ?_
    have I3 := I2.more m3 (zs := [.bl (f 26), .bl (f 27), .bl (f 28)])
    have ha := ha0.mono I3.same
    walk_at "go"
    refine e_isErr he ha (kk 29 (by decide)) ?_
    walk_at "go"
    refine e_isErr he ha (kk 30 (by decide)) ?_
    walk_at "go"
    refine e_isErr he ha (kk 31 (by decide)) ?_
    walk_at "go"
    refine ⟨by simp only [List.length_cons, List.length_nil]; decide, fun z4 m4 => ?_⟩
    walk_at "go"
    refine g_ext (get_new m4 I3.at_) (upd_same (o := .lst [.bl (f 29), .bl (f 30), .bl (f 31)])) (by simp only [List.length_cons, List.length_nil, List.length_append]; decide) ?_
    have I4 := I3.more m4 (zs := [.bl (f 29), .bl (f 30), .bl (f 31)])
    have ha := ha0.mono I4.same
    walk_at "go"
    refine e_isErr he ha (kk 32 (by decide)) ?_
    walk_at "go"
    refine e_isErr he ha (kk 33 (by decide)) ?_
    walk_at "go"
    refine ⟨by simp only [List.length_cons, List.length_nil]; decide, fun z5 m5 => ?_⟩
    walk_at "go"
    refine g_ext (get_new m5 I4.at_) (upd_same (o := .lst [.bl (f 32), .bl (f 33)])) (by simp only [List.length_cons, List.length_nil, List.length_append]; decide) ?_
    have I5 := I4.more m5 (zs := [.bl (f 32), .bl (f 33)])
    have ha := ha0.mono I5.same
    walk_at "go"
    exact qq _ _ I5.new I5.same I5.at_
theorem sc__law_sorts_more : FnScope ["error", "found"] ["error"] (defScope s__law_sorts_more) := ⟨rfl, rfl, rfl, by decide +kernel, rfl, by decide +kernel, by decide +kernel⟩
theorem ok__law_sorts_more (T : Tx K mg) : FnOk P w K mg base CX0 1 T.a__law_sorts_more T.fd__law_sorts_more ["error"] (sp_sorts T 34 17) := by
  refine T.F__law_sorts_more.ok sc__law_sorts_more (fun vs H Q E h => ?_) (fun cdv A outer s H vs Q E hr h => ?_)
  · obtain ⟨a, C, v, f, rfl, _⟩ := h
    rfl
  · obtain ⟨a, C, v, f, rfl, he, ha, kk, qq⟩ := h
    have ha0 := ha
    have hu := hu_of hr
    have hu64 := hr.units
    refine ⟨_, (pss_cons (ps_set (i := 1) sc__law_sorts_more.nd rfl (Or.inl rfl) (pe_lst (pa_cons (pe_callB (call_isErr (K := K) (fI := T.a_CrowdError___init__) rfl T.tn_get T.tn_takes) (by rfl) T.n_isinstance (by decide +kernel) (pa_cons (pv 0) (pa_cons (u_clsE (by rfl) T.m_OtherRegister) pa_nil))) (pa_cons (pe_callB (call_isErr (K := K) (fI := T.a_CrowdError___init__) rfl T.tn_get T.tn_takes) (by rfl) T.n_isinstance (by decide +kernel) (pa_cons (pv 0) (pa_cons (u_clsE (by rfl) T.m_NoJoint) pa_nil))) (pa_cons (pe_callB (call_isErr (K := K) (fI := T.a_CrowdError___init__) rfl T.tn_get T.tn_takes) (by rfl) T.n_isinstance (by decide +kernel) (pa_cons (pv 0) (pa_cons (u_clsE (by rfl) T.m_Full) pa_nil))) pa_nil)))))
        (pss_cons (ps_expr (pe_bm PySem.F.plainAttrs_list PySem.F.slot_list_extend PySem.F.type_list_extend mt_extend (pv 1) (pa_cons (pe_lst (pa_cons (pe_callB (call_isErr (K := K) (fI := T.a_CrowdError___init__) rfl T.tn_get T.tn_takes) (by rfl) T.n_isinstance (by decide +kernel) (pa_cons (pv 0) (pa_cons (u_clsE (by rfl) T.m_BadName) pa_nil))) (pa_cons (pe_callB (call_isErr (K := K) (fI := T.a_CrowdError___init__) rfl T.tn_get T.tn_takes) (by rfl) T.n_isinstance (by decide +kernel) (pa_cons (pv 0) (pa_cons (u_clsE (by rfl) T.m_Held) pa_nil))) (pa_cons (pe_callB (call_isErr (K := K) (fI := T.a_CrowdError___init__) rfl T.tn_get T.tn_takes) (by rfl) T.n_isinstance (by decide +kernel) (pa_cons (pv 0) (pa_cons (u_clsE (by rfl) T.m_TooFew) pa_nil))) pa_nil)))) pa_nil)))
        (pss_cons (ps_expr (pe_bm PySem.F.plainAttrs_list PySem.F.slot_list_extend PySem.F.type_list_extend mt_extend (pv 1) (pa_cons (pe_lst (pa_cons (pe_callB (call_isErr (K := K) (fI := T.a_CrowdError___init__) rfl T.tn_get T.tn_takes) (by rfl) T.n_isinstance (by decide +kernel) (pa_cons (pv 0) (pa_cons (u_clsE (by rfl) T.m_Unlike) pa_nil))) (pa_cons (pe_callB (call_isErr (K := K) (fI := T.a_CrowdError___init__) rfl T.tn_get T.tn_takes) (by rfl) T.n_isinstance (by decide +kernel) (pa_cons (pv 0) (pa_cons (u_clsE (by rfl) T.m_BadDeed) pa_nil))) (pa_cons (pe_callB (call_isErr (K := K) (fI := T.a_CrowdError___init__) rfl T.tn_get T.tn_takes) (by rfl) T.n_isinstance (by decide +kernel) (pa_cons (pv 0) (pa_cons (u_clsE (by rfl) T.m_NoName) pa_nil))) pa_nil)))) pa_nil)))
        (pss_cons (ps_expr (pe_bm PySem.F.plainAttrs_list PySem.F.slot_list_extend PySem.F.type_list_extend mt_extend (pv 1) (pa_cons (pe_lst (pa_cons (pe_callB (call_isErr (K := K) (fI := T.a_CrowdError___init__) rfl T.tn_get T.tn_takes) (by rfl) T.n_isinstance (by decide +kernel) (pa_cons (pv 0) (pa_cons (u_clsE (by rfl) T.m_NotThat) pa_nil))) (pa_cons (pe_callB (call_isErr (K := K) (fI := T.a_CrowdError___init__) rfl T.tn_get T.tn_takes) (by rfl) T.n_isinstance (by decide +kernel) (pa_cons (pv 0) (pa_cons (u_clsE (by rfl) T.m_InUse) pa_nil))) (pa_cons (pe_callB (call_isErr (K := K) (fI := T.a_CrowdError___init__) rfl T.tn_get T.tn_takes) (by rfl) T.n_isinstance (by decide +kernel) (pa_cons (pv 0) (pa_cons (u_clsE (by rfl) T.m_BadPerson) pa_nil))) pa_nil)))) pa_nil)))
        (pss_cons (ps_expr (pe_bm PySem.F.plainAttrs_list PySem.F.slot_list_extend PySem.F.type_list_extend mt_extend (pv 1) (pa_cons (pe_lst (pa_cons (pe_callB (call_isErr (K := K) (fI := T.a_CrowdError___init__) rfl T.tn_get T.tn_takes) (by rfl) T.n_isinstance (by decide +kernel) (pa_cons (pv 0) (pa_cons (u_clsE (by rfl) T.m_NotTold) pa_nil))) (pa_cons (pe_callB (call_isErr (K := K) (fI := T.a_CrowdError___init__) rfl T.tn_get T.tn_takes) (by rfl) T.n_isinstance (by decide +kernel) (pa_cons (pv 0) (pa_cons (u_clsE (by rfl) T.m_NothingToUndo) pa_nil))) (pa_cons (pe_callB (call_isErr (K := K) (fI := T.a_CrowdError___init__) rfl T.tn_get T.tn_takes) (by rfl) T.n_isinstance (by decide +kernel) (pa_cons (pv 0) (pa_cons (u_clsE (by rfl) T.m_NothingToRedo) pa_nil))) pa_nil)))) pa_nil)))
        (pss_cons (ps_expr (pe_bm PySem.F.plainAttrs_list PySem.F.slot_list_extend PySem.F.type_list_extend mt_extend (pv 1) (pa_cons (pe_lst (pa_cons (pe_callB (call_isErr (K := K) (fI := T.a_CrowdError___init__) rfl T.tn_get T.tn_takes) (by rfl) T.n_isinstance (by decide +kernel) (pa_cons (pv 0) (pa_cons (u_clsE (by rfl) T.m_NoNote) pa_nil))) (pa_cons (pe_callB (call_isErr (K := K) (fI := T.a_CrowdError___init__) rfl T.tn_get T.tn_takes) (by rfl) T.n_isinstance (by decide +kernel) (pa_cons (pv 0) (pa_cons (u_clsE (by rfl) T.m_BadDesk) pa_nil))) pa_nil))) pa_nil)))
        (pss_one (ps_ret (pv 1))))))))), ?_⟩
    walk_at "st"
    walk_at "go"
    refine e_isErr he ha (kk 34 (by decide)) ?_
    walk_at "go"
    refine e_isErr he ha (kk 35 (by decide)) ?_
    walk_at "go"
    refine e_isErr he ha (kk 36 (by decide)) ?_
    walk_at "go"
    refine ⟨by simp only [List.length_cons, List.length_nil]; decide, fun l nl => ?_⟩
    have I0 : BI H l [.bl (f 34), .bl (f 35), .bl (f 36)] (upd H l (.lst [.bl (f 34), .bl (f 35), .bl (f 36)])) := BI.first nl
    have ha := ha.mono I0.same
    walk_at "go"
    refine e_isErr he ha (kk 37 (by decide)) ?_
    walk_at "go"
    refine e_isErr he ha (kk 38 (by decide)) ?_
    walk_at "go"
    refine e_isErr he ha (kk 39 (by decide)) ?_
    walk_at "go"
    refine ⟨by simp only [List.length_cons, List.length_nil]; decide, fun z1 m1 => ?_⟩
    walk_at "go"
    refine g_ext (get_new m1 I0.at_) (upd_same (o := .lst [.bl (f 37), .bl (f 38), .bl (f 39)])) (by simp only [List.length_cons, List.length_nil, List.length_append]; decide) ?_
    have I1 := I0.more m1 (zs := [.bl (f 37), .bl (f 38), .bl (f 39)])
    have ha := ha0.mono I1.same
    walk_at "go"
    refine e_isErr he ha (kk 40 (by decide)) ?_
    walk_at "go"
    refine e_isErr he ha (kk 41 (by decide)) ?_
    walk_at "go"
    refine e_isErr he ha (kk 42 (by decide)) ?_
    walk_at "go"
    refine ⟨by simp only [List.length_cons, List.length_nil]; decide, fun z2 m2 => ?_⟩
    walk_at "go"
    refine g_ext (get_new m2 I1.at_) (upd_same (o := .lst [.bl (f 40), .bl (f 41), .bl (f 42)])) (by simp only [List.length_cons, List.length_nil, List.length_append]; decide) ?_
    have I2 := I1.more m2 (zs := [.bl (f 40), .bl (f 41), .bl (f 42)])
    have ha := ha0.mono I2.same
    walk_at "go"
    refine e_isErr he ha (kk 43 (by decide)) ?_
    walk_at "go"
    refine e_isErr he ha (kk 44 (by decide)) ?_
    walk_at "go"
    refine e_isErr he ha (kk 45 (by decide)) ?_
    walk_at "go"
    refine ⟨by simp only [List.length_cons, List.length_nil]; decide, fun z3 m3 => ?_⟩
    walk_at "go"
    refine g_ext (get_new m3 I2.at_) (upd_same (o := .lst [.bl (f 43), .bl (f 44), .bl (f 45)])) (by simp only [List.length_cons, List.length_nil, List.length_append]; decide) ?_
    have I3 := I2.more m3 (zs := [.bl (f 43), .bl (f 44), .bl (f 45)])
    have ha := ha0.mono I3.same
    walk_at "go"
    refine e_isErr he ha (kk 46 (by decide)) ?_
    walk_at "go"
    refine e_isErr he ha (kk 47 (by decide)) ?_
    walk_at "go"
    refine e_isErr he ha (kk 48 (by decide)) ?_
    walk_at "go"
    refine ⟨by simp only [List.length_cons, List.length_nil]; decide, fun z4 m4 => ?_⟩
    walk_at "go"
    refine g_ext (get_new m4 I3.at_) (upd_same (o := .lst [.bl (f 46), .bl (f 47), .bl (f 48)])) (by simp only [List.length_cons, List.length_nil, List.length_append]; decide) ?_
    have I4 := I3.more m4 (zs := [.bl (f 46), .bl (f 47), .bl (f 48)])
    have ha := ha0.mono I4.same
    walk_at "go"
    refine e_isErr he ha (kk 49 (by decide)) ?_
    walk_at "go"
    refine e_isErr he ha (kk 50 (by decide)) ?_
    walk_at "go"
    refine ⟨by simp only [List.length_cons, List.length_nil]; decide, fun z5 m5 => ?_⟩
    walk_at "go"
    refine g_ext (get_new m5 I4.at_) (upd_same (o := .lst [.bl (f 49), .bl (f 50)])) (by simp only [List.length_cons, List.length_nil, List.length_append]; decide) ?_
    have I5 := I4.more m5 (zs := [.bl (f 49), .bl (f 50)])
    have ha := ha0.mono I5.same
    walk_at "go"
    exact qq _ _ I5.new I5.same I5.at_
theorem sc__law_sorts : FnScope ["error", "found"] ["error"] (defScope s__law_sorts) := ⟨rfl, rfl, rfl, by decide +kernel, rfl, by decide +kernel, by decide +kernel⟩
theorem ok__law_sorts (T : Tx K mg) : FnOk P w K mg base CX0 2 T.a__law_sorts T.fd__law_sorts ["error"] (sp_sorts T 0 51) := by
  refine T.F__law_sorts.ok sc__law_sorts (fun vs H Q E h => ?_) (fun cdv A outer s H vs Q E hr h => ?_)
  · obtain ⟨a, C, v, f, rfl, _⟩ := h
    rfl
  · obtain ⟨a, C, v, f, rfl, he, ha, kk, qq⟩ := h
    have ha0 := ha
    have hu := hu_of hr
    have hu64 := hr.units
    refine ⟨_, (pss_cons (ps_set (i := 1) sc__law_sorts.nd rfl (Or.inl rfl) (pe_lst (pa_cons (pe_callB (call_isErr (K := K) (fI := T.a_CrowdError___init__) rfl T.tn_get T.tn_takes) (by rfl) T.n_isinstance (by decide +kernel) (pa_cons (pv 0) (pa_cons (u_clsE (by rfl) T.m_BadRegister) pa_nil))) (pa_cons (pe_callB (call_isErr (K := K) (fI := T.a_CrowdError___init__) rfl T.tn_get T.tn_takes) (by rfl) T.n_isinstance (by decide +kernel) (pa_cons (pv 0) (pa_cons (u_clsE (by rfl) T.m_BadColumns) pa_nil))) (pa_cons (pe_callB (call_isErr (K := K) (fI := T.a_CrowdError___init__) rfl T.tn_get T.tn_takes) (by rfl) T.n_isinstance (by decide +kernel) (pa_cons (pv 0) (pa_cons (u_clsE (by rfl) T.m_BadKinds) pa_nil))) pa_nil)))))
        (pss_cons (ps_expr (pe_bm PySem.F.plainAttrs_list PySem.F.slot_list_extend PySem.F.type_list_extend mt_extend (pv 1) (pa_cons (pe_lst (pa_cons (pe_callB (call_isErr (K := K) (fI := T.a_CrowdError___init__) rfl T.tn_get T.tn_takes) (by rfl) T.n_isinstance (by decide +kernel) (pa_cons (pv 0) (pa_cons (u_clsE (by rfl) T.m_BadPersons) pa_nil))) (pa_cons (pe_callB (call_isErr (K := K) (fI := T.a_CrowdError___init__) rfl T.tn_get T.tn_takes) (by rfl) T.n_isinstance (by decide +kernel) (pa_cons (pv 0) (pa_cons (u_clsE (by rfl) T.m_NoColumn) pa_nil))) (pa_cons (pe_callB (call_isErr (K := K) (fI := T.a_CrowdError___init__) rfl T.tn_get T.tn_takes) (by rfl) T.n_isinstance (by decide +kernel) (pa_cons (pv 0) (pa_cons (u_clsE (by rfl) T.m_NoPerson) pa_nil))) pa_nil)))) pa_nil)))
        (pss_cons (ps_expr (pe_bm PySem.F.plainAttrs_list PySem.F.slot_list_extend PySem.F.type_list_extend mt_extend (pv 1) (pa_cons (pe_lst (pa_cons (pe_callB (call_isErr (K := K) (fI := T.a_CrowdError___init__) rfl T.tn_get T.tn_takes) (by rfl) T.n_isinstance (by decide +kernel) (pa_cons (pv 0) (pa_cons (u_clsE (by rfl) T.m_NoKind) pa_nil))) (pa_cons (pe_callB (call_isErr (K := K) (fI := T.a_CrowdError___init__) rfl T.tn_get T.tn_takes) (by rfl) T.n_isinstance (by decide +kernel) (pa_cons (pv 0) (pa_cons (u_clsE (by rfl) T.m_BadTable) pa_nil))) (pa_cons (pe_callB (call_isErr (K := K) (fI := T.a_CrowdError___init__) rfl T.tn_get T.tn_takes) (by rfl) T.n_isinstance (by decide +kernel) (pa_cons (pv 0) (pa_cons (u_clsE (by rfl) T.m_BadRows) pa_nil))) pa_nil)))) pa_nil)))
        (pss_cons (ps_expr (pe_bm PySem.F.plainAttrs_list PySem.F.slot_list_extend PySem.F.type_list_extend mt_extend (pv 1) (pa_cons (pe_lst (pa_cons (pe_callB (call_isErr (K := K) (fI := T.a_CrowdError___init__) rfl T.tn_get T.tn_takes) (by rfl) T.n_isinstance (by decide +kernel) (pa_cons (pv 0) (pa_cons (u_clsE (by rfl) T.m_BadMark) pa_nil))) (pa_cons (pe_callB (call_isErr (K := K) (fI := T.a_CrowdError___init__) rfl T.tn_get T.tn_takes) (by rfl) T.n_isinstance (by decide +kernel) (pa_cons (pv 0) (pa_cons (u_clsE (by rfl) T.m_BadValue) pa_nil))) (pa_cons (pe_callB (call_isErr (K := K) (fI := T.a_CrowdError___init__) rfl T.tn_get T.tn_takes) (by rfl) T.n_isinstance (by decide +kernel) (pa_cons (pv 0) (pa_cons (u_clsE (by rfl) T.m_BadValues) pa_nil))) pa_nil)))) pa_nil)))
        (pss_cons (ps_expr (pe_bm PySem.F.plainAttrs_list PySem.F.slot_list_extend PySem.F.type_list_extend mt_extend (pv 1) (pa_cons (pe_lst (pa_cons (pe_callB (call_isErr (K := K) (fI := T.a_CrowdError___init__) rfl T.tn_get T.tn_takes) (by rfl) T.n_isinstance (by decide +kernel) (pa_cons (pv 0) (pa_cons (u_clsE (by rfl) T.m_NoRow) pa_nil))) (pa_cons (pe_callB (call_isErr (K := K) (fI := T.a_CrowdError___init__) rfl T.tn_get T.tn_takes) (by rfl) T.n_isinstance (by decide +kernel) (pa_cons (pv 0) (pa_cons (u_clsE (by rfl) T.m_BadMarks) pa_nil))) (pa_cons (pe_callB (call_isErr (K := K) (fI := T.a_CrowdError___init__) rfl T.tn_get T.tn_takes) (by rfl) T.n_isinstance (by decide +kernel) (pa_cons (pv 0) (pa_cons (u_clsE (by rfl) T.m_NoWorld) pa_nil))) pa_nil)))) pa_nil)))
        (pss_cons (ps_expr (pe_bm PySem.F.plainAttrs_list PySem.F.slot_list_extend PySem.F.type_list_extend mt_extend (pv 1) (pa_cons (pe_lst (pa_cons (pe_callB (call_isErr (K := K) (fI := T.a_CrowdError___init__) rfl T.tn_get T.tn_takes) (by rfl) T.n_isinstance (by decide +kernel) (pa_cons (pv 0) (pa_cons (u_clsE (by rfl) T.m_BadLot) pa_nil))) (pa_cons (pe_callB (call_isErr (K := K) (fI := T.a_CrowdError___init__) rfl T.tn_get T.tn_takes) (by rfl) T.n_isinstance (by decide +kernel) (pa_cons (pv 0) (pa_cons (u_clsE (by rfl) T.m_BadNumber) pa_nil))) pa_nil))) pa_nil)))
        (pss_one (ps_ret (pe_op (op_uAdd (K := K) rfl) (pe_op (op_uAdd (K := K) rfl) (pv 1) (pe_call (ok__law_sorts_too T) (hr.mono (by decide)) rfl T.m__law_sorts_too T.F__law_sorts_too.kp (b__law_sorts_too T) .nil pass0 (pa_cons (pv 0) pa_nil))) (pe_call (ok__law_sorts_more T) (hr.mono (by decide)) rfl T.m__law_sorts_more T.F__law_sorts_more.kp (b__law_sorts_more T) .nil pass0 (pa_cons (pv 0) pa_nil))))))))))), ?_⟩
    walk_at "st"
    walk_at "go"
    refine e_isErr he ha (kk 0 (by decide)) ?_
    walk_at "go"
    refine e_isErr he ha (kk 1 (by decide)) ?_
    walk_at "go"
    refine e_isErr he ha (kk 2 (by decide)) ?_
    walk_at "go"
    refine ⟨by simp only [List.length_cons, List.length_nil]; decide, fun l nl => ?_⟩
    have I0 : BI H l [.bl (f 0), .bl (f 1), .bl (f 2)] (upd H l (.lst [.bl (f 0), .bl (f 1), .bl (f 2)])) := BI.first nl
    have ha := ha.mono I0.same
    walk_at "go"
    refine e_isErr he ha (kk 3 (by decide)) ?_
    walk_at "go"
    refine e_isErr he ha (kk 4 (by decide)) ?_
    walk_at "go"
    refine e_isErr he ha (kk 5 (by decide)) ?_
    walk_at "go"
    refine ⟨by simp only [List.length_cons, List.length_nil]; decide, fun z1 m1 => ?_⟩
    walk_at "go"
    refine g_ext (get_new m1 I0.at_) (upd_same (o := .lst [.bl (f 3), .bl (f 4), .bl (f 5)])) (by simp only [List.length_cons, List.length_nil, List.length_append]; decide) ?_
    have I1 := I0.more m1 (zs := [.bl (f 3), .bl (f 4), .bl (f 5)])
    have ha := ha0.mono I1.same
    walk_at "go"
    refine e_isErr he ha (kk 6 (by decide)) ?_
    walk_at "go"
    refine e_isErr he ha (kk 7 (by decide)) ?_
    walk_at "go"
    refine e_isErr he ha (kk 8 (by decide)) ?_
    walk_at "go"
    refine ⟨by simp only [List.length_cons, List.length_nil]; decide, fun z2 m2 => ?_⟩
    walk_at "go"
    refine g_ext (get_new m2 I1.at_) (upd_same (o := .lst [.bl (f 6), .bl (f 7), .bl (f 8)])) (by simp only [List.length_cons, List.length_nil, List.length_append]; decide) ?_
    have I2 := I1.more m2 (zs := [.bl (f 6), .bl (f 7), .bl (f 8)])
    have ha := ha0.mono I2.same
    walk_at "go"
    refine e_isErr he ha (kk 9 (by decide)) ?_
    walk_at "go"
    refine e_isErr he ha (kk 10 (by decide)) ?_
    walk_at "go"
    refine e_isErr he ha (kk 11 (by decide)) ?_
    walk_at "go"
    refine ⟨by simp only [List.length_cons, List.length_nil]; decide, fun z3 m3 => ?_⟩
    walk_at "go"
    refine g_ext (get_new m3 I2.at_) (upd_same (o := .lst [.bl (f 9), .bl (f 10), .bl (f 11)])) (by simp only [List.length_cons, List.length_nil, List.length_append]; decide) ?_
    have I3 := I2.more m3 (zs := [.bl (f 9), .bl (f 10), .bl (f 11)])
    have ha := ha0.mono I3.same
    walk_at "go"
    refine e_isErr he ha (kk 12 (by decide)) ?_
    walk_at "go"
    refine e_isErr he ha (kk 13 (by decide)) ?_
    walk_at "go"
    refine e_isErr he ha (kk 14 (by decide)) ?_
    walk_at "go"
    refine ⟨by simp only [List.length_cons, List.length_nil]; decide, fun z4 m4 => ?_⟩
    walk_at "go"
    refine g_ext (get_new m4 I3.at_) (upd_same (o := .lst [.bl (f 12), .bl (f 13), .bl (f 14)])) (by simp only [List.length_cons, List.length_nil, List.length_append]; decide) ?_
    have I4 := I3.more m4 (zs := [.bl (f 12), .bl (f 13), .bl (f 14)])
    have ha := ha0.mono I4.same
    walk_at "go"
    refine e_isErr he ha (kk 15 (by decide)) ?_
    walk_at "go"
    refine e_isErr he ha (kk 16 (by decide)) ?_
    walk_at "go"
    refine ⟨by simp only [List.length_cons, List.length_nil]; decide, fun z5 m5 => ?_⟩
    walk_at "go"
    refine g_ext (get_new m5 I4.at_) (upd_same (o := .lst [.bl (f 15), .bl (f 16)])) (by simp only [List.length_cons, List.length_nil, List.length_append]; decide) ?_
    have I5 := I4.more m5 (zs := [.bl (f 15), .bl (f 16)])
    have ha := ha0.mono I5.same
    walk_at "go"
    have hA := ha
    refine ⟨a, C, v, f, rfl, he, ha, kk, fun l2 H2 n2 s2 a2 => ?_⟩
    refine g_cat (s2 _ _ I5.at_) a2 (by simp only [bls, List.length_append, List.length_map, List.length_range, List.length_cons, List.length_nil]; decide) fun q nq => ?_
    walk_at "go"
    have s3 := (I5.same.trans s2).trans (U.same_new (o := .lst (([.bl (f 0), .bl (f 1), .bl (f 2)] ++ [.bl (f 3), .bl (f 4), .bl (f 5)] ++ [.bl (f 6), .bl (f 7), .bl (f 8)] ++ [.bl (f 9), .bl (f 10), .bl (f 11)] ++ [.bl (f 12), .bl (f 13), .bl (f 14)] ++ [.bl (f 15), .bl (f 16)]) ++ bls f 17 17)) nq)
    refine ⟨a, C, v, f, rfl, he, ha0.mono s3, kk, fun l3 H3 n3 t3 a3 => ?_⟩
    refine g_cat (t3 _ _ upd_same) a3 (by simp only [bls, List.length_append, List.length_map, List.length_range, List.length_cons, List.length_nil]; decide) fun q2 nq2 => ?_
    have sAll := s3.trans t3
    exact qq _ _ (sAll.free nq2) (fun b o h => U.same_new nq2 b o (sAll b o h)) upd_same
end
end Toy

namespace M5
open PySem L2 EX QD
theorem bls_at (f : Nat → Bool) {n m j : Nat} (h : j < m) : (bls f n m)[j]? = some (.bl (f (n + j))) := by
  unfold bls
  rw [List.getElem?_map, List.getElem?_range h]
  rfl
theorem bls_flat (f : Nat → Bool) (n m : Nat) : (bls f n m).all flatV = true := by
  unfold bls
  rw [List.all_eq_true]
  intro v hv
  obtain ⟨i, _, rfl⟩ := List.mem_map.mp hv
  rfl
theorem bls_len (f : Nat → Bool) (n m : Nat) : (bls f n m).length = m := by
  unfold bls
  rw [List.length_map, List.length_range]
theorem one_cnt : (List.range 51).all (fun i => (bls (fun j => decide (i = j)) 0 51).countP (fun z => eqV z (.bl true)) == 1) = true := by decide +kernel
theorem no_true : inV (.bl true) (bls (fun _ => false) 0 51) = false := by decide +kernel
theorem cmp_of {K : PySem.W.Frag} {H : Hp} {v : V} {d : PyData} (h : Dp K H v d) (c : okD d = true) : PyData.eqv d d = true ∧ SeqAt.shaped d = true := by
  have c := (Bool.and_eq_true_iff.mp c).2
  cases h <;> exact Bool.and_eq_true_iff.mp c
theorem ok_of {d : PyData} (m : d ∈ oddA ++ oddB) : okD d = true := List.all_eq_true.mp odd_ok d m
theorem ne_self {K : PySem.W.Frag} {H : Hp} {v : V} {d : PyData} {R : VK} (m : d ∈ oddA ++ oddB) (h : Dq K H v d) (q : R (.bl false) H) : U.uEq K true v v H R ∨ rNeDA v v H R := by
  cases h with
  | dp h =>
    obtain ⟨c1, c2⟩ := cmp_of h (ok_of m)
    refine Or.inl (Or.inr ⟨d, d, h, h, c2, c2, ?_⟩)
    rw [if_pos rfl, c1]
    exact q
  | d0 h => exact Or.inr ⟨_, _, _, _, rfl, rfl, h, h, rfl, (fun p hp => by cases hp), q⟩
  | d1 h => exact Or.inr ⟨_, _, _, _, rfl, rfl, h, h, rfl, (fun p hp => by rw [List.mem_singleton] at hp; subst hp; exact ⟨valV_pos rfl, rfl⟩), q⟩
theorem e_rep {K : PySem.W.Frag} {H : Hp} {v : V} {d : PyData} {R : VK} (m : d ∈ oddA ++ oddB) (h : Dq K H v d) (q : R (.str d.shown) H) : rRep K [v] H R := by
  have c := (Bool.and_eq_true_iff.mp (ok_of m)).1
  have c3 := (Bool.and_eq_true_iff.mp c).2
  have c := (Bool.and_eq_true_iff.mp c).1
  have c2 := (Bool.and_eq_true_iff.mp c).2
  have c1 := (Bool.and_eq_true_iff.mp c).1
  exact ⟨v, d, rfl, h, c1, of_decide_eq_true c2, Nat.le_trans (of_decide_eq_true c3) (by decide), q⟩
theorem ite_no {b : Bool} {A B : Prop} (h : b = false) (q : B) : if b = true then A else B := by rw [h, if_neg Bool.false_ne_true]; exact q
theorem ne_refl (x : V) : (if (true : Bool) = true then !decide (x = x) else decide (x = x)) = false := by rw [if_pos rfl, decide_eq_true rfl]; rfl
end M5
namespace Toy
open PySem L2 U EX M M5 QD G
section
variable {P : Program} {w : World} {K : PySem.W.Frag} {mg : Str → Option Value} {base : Heap}
theorem errC_all (T : Tx K mg) : ∀ j, j < 51 → ErrC K T.a_CrowdError___init__ ((errL T).getD j 0)
  | 0, _ => T.e_BadRegister
  | 1, _ => T.e_BadColumns
  | 2, _ => T.e_BadKinds
  | 3, _ => T.e_BadPersons
  | 4, _ => T.e_NoColumn
  | 5, _ => T.e_NoPerson
  | 6, _ => T.e_NoKind
  | 7, _ => T.e_BadTable
  | 8, _ => T.e_BadRows
  | 9, _ => T.e_BadMark
  | 10, _ => T.e_BadValue
  | 11, _ => T.e_BadValues
  | 12, _ => T.e_NoRow
  | 13, _ => T.e_BadMarks
  | 14, _ => T.e_NoWorld
  | 15, _ => T.e_BadLot
  | 16, _ => T.e_BadNumber
  | 17, _ => T.e_TooMany
  | 18, _ => T.e_BadWorld
  | 19, _ => T.e_BadSecret
  | 20, _ => T.e_BadSize
  | 21, _ => T.e_BadStretch
  | 22, _ => T.e_BadCrowds
  | 23, _ => T.e_BadShown
  | 24, _ => T.e_NoCrowds
  | 25, _ => T.e_BadLoss
  | 26, _ => T.e_BadColumn
  | 27, _ => T.e_BadCounts
  | 28, _ => T.e_BadLifts
  | 29, _ => T.e_BadCrowd
  | 30, _ => T.e_BadSecrets
  | 31, _ => T.e_BadSequence
  | 32, _ => T.e_BadTold
  | 33, _ => T.e_BadNames
  | 34, _ => T.e_OtherRegister
  | 35, _ => T.e_NoJoint
  | 36, _ => T.e_Full
  | 37, _ => T.e_BadName
  | 38, _ => T.e_Held
  | 39, _ => T.e_TooFew
  | 40, _ => T.e_Unlike
  | 41, _ => T.e_BadDeed
  | 42, _ => T.e_NoName
  | 43, _ => T.e_NotThat
  | 44, _ => T.e_InUse
  | 45, _ => T.e_BadPerson
  | 46, _ => T.e_NotTold
  | 47, _ => T.e_NothingToUndo
  | 48, _ => T.e_NothingToRedo
  | 49, _ => T.e_NoNote
  | 50, _ => T.e_BadDesk
  | n + 51, h => absurd h (by omega)
theorem sc__law_right : FnScope ["pot", "lap", "value", "errors", "base", "at", "error"] ["pot"] (defScope s__law_right) := ⟨rfl, rfl, rfl, by decide +kernel, rfl, by decide +kernel, by decide +kernel⟩
def sp_right : Sp := fun vs H Q _ => ∃ (p : Addr), vs = [.ref p] ∧ PotAt H p 3 ∧ ∀ H', SB p H H' → Q (.bl true) H'
theorem ok__law_right (T : Tx K mg) : FnG P w K mg base 5 T.a__law_right T.fd__law_right ["pot"] sp_right := by
  refine okG T.F__law_right sc__law_right (fun vs H Q E h => ?_) (fun cdv A outer s H vs Q E hr hgd h => ?_)
  · obtain ⟨p, rfl, _⟩ := h
    rfl
  · obtain ⟨p, rfl, hp, kk⟩ := h
    have hu := hu_of hr
    have hu64 := hr.units
    refine ⟨_, (pss_cons (ps_for PassesOwn.never rfl (pi_range1 (by rfl) T.n_range (pa_cons (pe_int) pa_nil)) (pg_name (i := 1) sc__law_right.nd rfl (Or.inl rfl)) (pss_cons (ps_set (i := 2) sc__law_right.nd rfl (Or.inl rfl) (pe_call (ok__law_odd T) (hr.mono (by decide)) rfl T.m__law_odd T.F__law_odd.kp (b__law_odd T) .nil pass0 (pa_cons (pv 0) pa_nil)))
        (pss_cons (ps_par rfl sc__law_right.nd (i := 3) (j := 4) rfl rfl (by decide) rfl rfl (pa_cons (pe_call (ok__law_made T) (hr.mono (by decide)) rfl T.m__law_made T.F__law_made.kp (b__law_made T) .nil pass0 (pa_cons (pv 2) pa_nil)) (pa_cons (EX.pe_mkE T.e_CrowdError T.tI (ok_CrowdError___init__ T) (hr.mono (by decide)) (b_CrowdError___init__ T) (by rfl) T.m_CrowdError (pa_cons (pv 2) pa_nil)) pa_nil)) (by rfl))
        (pss_cons (ps_for PassesOwn.never rfl (pi_enum (by rfl) T.n_enumerate (pa_cons (pv 3) pa_nil)) (u_gtup (K := K) (n := 2) rfl rfl (pgs_cons (pg_name (i := 5) sc__law_right.nd rfl (Or.inl rfl)) (pgs_cons (pg_name (i := 6) sc__law_right.nd rfl (Or.inl rfl)) pgs_nil))) (pss_cons (ps_if (PW.pt (pw_or (pt_cmpR (OpR.or (op_uNe (K := K) rfl hu64) (op_ne_dictA hr.units0)) (EX.pe_errF (fI := T.a_CrowdError___init__) rfl (pv 6)) (pv 2) (nomark _)) (pw_or (pt_cmpR (op_uNe (K := K) rfl hu64) (pe_callB (QD.call_rep (K := K) rfl hgd hu64) (by rfl) T.n_repr (by decide +kernel) (pa_cons (EX.pe_errF (fI := T.a_CrowdError___init__) rfl (pv 6)) pa_nil)) (pe_callB (QD.call_rep (K := K) rfl hgd hu64) (by rfl) T.n_repr (by decide +kernel) (pa_cons (pv 2) pa_nil)) (nomark _)) (pw_or1 (pt_cmpR (op_uNe (K := K) rfl hu64) (pe_bm PySem.F.plainAttrs_list PySem.F.slot_list_index PySem.F.type_list_index mt_index (pe_call (ok__law_sorts T) (hr.mono (by decide)) rfl T.m__law_sorts T.F__law_sorts.kp (b__law_sorts T) .nil pass0 (pa_cons (pv 6) pa_nil)) (pa_cons (pe_bl) pa_nil)) (pv 5) (nomark _)))))) (pss_one (ps_ret (pe_bl))) pss_nil)
        (pss_cons (ps_if (PW.pt (pw_or (pt_cmpR (op_uNe (K := K) rfl hu64) (pe_bm PySem.F.plainAttrs_list PySem.F.slot_list_count PySem.F.type_list_count (QD.mt_cntF (K := K) rfl) (pe_call (ok__law_sorts T) (hr.mono (by decide)) rfl T.m__law_sorts T.F__law_sorts.kp (b__law_sorts T) .nil pass0 (pa_cons (pv 6) pa_nil)) (pa_cons (pe_bl) pa_nil)) (pe_int) (nomark _)) (pw_or1 (pt_not (pt_val (pe_callB (call_isErr (K := K) (fI := T.a_CrowdError___init__) rfl T.tn_get T.tn_takes) (by rfl) T.n_isinstance (by decide +kernel) (pa_cons (pv 6) (pa_cons (u_clsE (by rfl) T.m_CrowdError) pa_nil)))))))) (pss_one (ps_ret (pe_bl))) pss_nil)
        (pss_one (ps_if (pt_not (pt_val (pe_callB (call_isErr (K := K) (fI := T.a_CrowdError___init__) rfl T.tn_get T.tn_takes) (by rfl) T.n_isinstance (by decide +kernel) (pa_cons (pv 6) (pa_cons (u_ty (n := "ValueError") (by rfl) T.n_ValueError (by decide +kernel)) pa_nil))))) (pss_one (ps_ret (pe_bl))) pss_nil)))))
        (pss_one (ps_if (PW.pt (pw_or (pt_cmpR (op_uNe (K := K) rfl hu64) (pe_callB (QD.call_rep (K := K) rfl hgd hu64) (by rfl) T.n_repr (by decide +kernel) (pa_cons (EX.pe_errF (fI := T.a_CrowdError___init__) rfl (pv 4)) pa_nil)) (pe_callB (QD.call_rep (K := K) rfl hgd hu64) (by rfl) T.n_repr (by decide +kernel) (pa_cons (pv 2) pa_nil)) (nomark _)) (pw_or (pt_cmpR (op_uIn (K := K) rfl) (pe_bl) (pe_call (ok__law_sorts T) (hr.mono (by decide)) rfl T.m__law_sorts T.F__law_sorts.kp (b__law_sorts T) .nil pass0 (pa_cons (pv 4) pa_nil)) rfl) (pw_or1 (pt_not (pt_val (pe_callB (call_isErr (K := K) (fI := T.a_CrowdError___init__) rfl T.tn_get T.tn_takes) (by rfl) T.n_isinstance (by decide +kernel) (pa_cons (pv 4) (pa_cons (u_ty (n := "ValueError") (by rfl) T.n_ValueError (by decide +kernel)) pa_nil))))))))) (pss_one (ps_ret (pe_bl))) pss_nil))))))
        (pss_one (ps_ret (pe_bl)))), ?_⟩
    walk_at "st"
    walk_at "go"
    refine e_rng (by omega) (by omega) ?_
    refine forI_by walk_range (fun i σ' H' => ∃ (v1 v2 v3 v4 v5 v6 : Option V), σ' = [some (.ref p), v1, v2, v3, v4, v5, v6] ∧ PotAt H' p (3 - i) ∧ SB p H H') ?h0 (fun _ _ _ _ _ => trivial) ?hs ?hd
    case h0 => exact ⟨none, none, none, none, none, none, rfl, hp, SB.refl p H⟩
    case hd =>
      rintro σ' H' ⟨v1, v2, v3, v4, v5, v6, rfl, hp', sb⟩
      walk_at "go"
      exact kk _ sb
    case hs =>
      rintro i x σ' H' _ hi ⟨v1, v2, v3, v4, v5, v6, rfl, hp', sb⟩ ⟨rfl, rfl⟩
      have hi : i < 3 := by omega
      walk_at "go"
      refine ⟨p, 3 - (i + 1), rfl, hp'.le (by omega), fun v H1 od hp1 s1 => ?_⟩
      walk_at "go"
      refine ⟨v, rfl, fun L es H2 nL s2 aL es2 => ?_⟩
      walk_at "go"
      intro eb H3 nb s3 hb
      walk_at "go"
      have same3 := (s2.trans s3)
      have od3 : Odd K (del H3 p) v := od.mono (same_del (SB.of same3))
      obtain ⟨d, md, dq⟩ := od3
      have dq : Dq K H3 v d := dq.mono del_sub
      have aL3 := s3 _ _ aL
      have es3 := es2.mono s3
      have elen := prd_len es3
      have elen : es.length = 51 := elen
      refine e_enum (SqL.of aL3) ?_
      refine forI_by walk_enum (fun j σ' H' => ∃ v5 v6 : Option V, σ' = [some (.ref p), some (.int (0 + (i : Int))), some v, some (.ref L), some (.ref eb), v5, v6] ∧ Same H3 H') ?g0 (fun j σ' H' _ ⟨v5, v6, e, s⟩ => SqL.of (s _ _ aL3)) ?gs ?gd
      case g0 => exact ⟨_, _, rfl, Same.refl _⟩
      case gs =>
        rintro j x σ' H4 H5 hj ⟨v5, v6, rfl, s4⟩ ⟨t, x1, x2, rfl, nt, rfl, e1, e2⟩
        cases e1
        rw [List.length_map, elen] at hj
        have e2 : (es.map V.ref)[j]? = some x2 := e2
        rw [List.getElem?_map] at e2
        obtain ⟨e, ee, ex⟩ := Option.map_eq_some_iff.mp e2
        subst ex
        obtain ⟨C, eC, hE⟩ := prd_at es3 ee
        have eC : (errL T)[j]? = some C := eC
        have hC := errC_all T j hj
        have gC : (errL T).getD j 0 = C := by rw [List.getD_eq_getElem?_getD, eC]; rfl
        have kit : ∀ j', j' < 51 → PySem.W.kitOne K (.ref C) (.ref ((errL T).getD j' 0)) = some (decide (j = j')) := fun j' h' => gC ▸ T.kit j j' hj h'
        have kcr : PySem.W.kitOne K (.ref C) (.ref T.C_CrowdError) = some true := gC ▸ T.kc j hj
        have kve : PySem.W.kitOne K (.ref C) (.type "ValueError") = some true := gC ▸ T.kv j hj
        rw [gC] at hC
        have s5 := s4.trans (U.same_new (o := .tup [.int (j : Nat), .ref e]) nt)
        walk_at "go"
        refine ⟨e, C, v, rfl, hC, hE.mono s5, ?_⟩
        walk_at "go"
        refine ne_self md (dq.mono s5) ?_
        walk_at "go"
        refine ⟨e, C, v, rfl, hC, hE.mono s5, ?_⟩
        walk_at "go"
        refine e_rep md (dq.mono s5) ?_
        walk_at "go"
        refine e_rep md (dq.mono s5) ?_
        walk_at "go"
        refine ite_no (ne_refl _) ?_
        walk_at "go"
        refine ⟨e, C, v, _, rfl, hC, hE.mono s5, kit, fun l H6 nl s6 a6 => ?_⟩
        have s6 := s5.trans s6
        walk_at "go"
        refine ⟨l, _, .bl true, j, .bl true, rfl, rfl, SqL.of a6, rfl, bls_flat _ _ _, by rw [bls_at _ hj, Nat.zero_add, decide_eq_true rfl], rfl, fun m z hm hz => ?_, ?_⟩
        · rw [bls_at _ (by omega), Nat.zero_add] at hz
          cases hz
          rw [decide_eq_false (by omega)]
          rfl
        walk_at "go"
        refine ite_no (ne_refl _) ?_
        walk_at "go"
        refine ⟨e, C, v, _, rfl, hC, hE.mono s6, kit, fun l7 H7 n7 s7 a7 => ?_⟩
        have s7 := s6.trans s7
        walk_at "go"
        refine ⟨l7, _, .bl true, rfl, rfl, SqL.of a7, rfl, bls_flat _ _ _, ?_⟩
        have c1 : ((bls (fun j' => decide (j = j')) 0 51).countP fun z => eqV z (.bl true)) = 1 := by
          have z := List.all_eq_true.mp one_cnt j (List.mem_range.mpr hj)
          exact beq_iff_eq.mp z
        rw [c1]
        walk_at "go"
        refine ite_no (by decide) ?_
        walk_at "go"
        refine e_isErr hC (hE.mono s7) kcr ?_
        walk_at "go"
        refine e_isErrT hC (hE.mono s7) kve ?_
        walk_at "go"
        exact ⟨_, _, rfl, s7⟩
      case gd =>
        rintro σ' H4 ⟨v5, v6, rfl, s4⟩
        walk_at "go"
        have he := T.e_CrowdError
        refine ⟨eb, T.C_CrowdError, v, rfl, he, hb.mono s4, ?_⟩
        walk_at "go"
        refine e_rep md (dq.mono s4) ?_
        walk_at "go"
        refine e_rep md (dq.mono s4) ?_
        walk_at "go"
        refine ite_no (ne_refl _) ?_
        walk_at "go"
        refine ⟨eb, T.C_CrowdError, v, fun _ => false, rfl, he, hb.mono s4, T.kb, fun l H5 nl s5 a5 => ?_⟩
        have s5 := s4.trans s5
        refine ⟨l, _, rfl, Or.inl (SqL.of a5), rfl, bls_flat _ _ _, ?_⟩
        rw [no_true]
        walk_at "go"
        refine ite_no rfl ?_
        walk_at "go"
        refine e_isErrT he (hb.mono s5) T.kbv ?_
        walk_at "go"
        have sAll := same3.trans s5
        obtain ⟨ow, sd, k, g1, g2⟩ := hp1
        exact ⟨_, _, _, _, _, _, rfl, ⟨ow, sd, k, sAll _ _ g1, g2⟩, sb.trans (s1.trans (SB.of sAll))⟩
theorem sc_law : FnScope ["script", "place"] ["script"] (defScope s_law) := ⟨rfl, rfl, rfl, by decide +kernel, rfl, by decide +kernel, by decide +kernel⟩
def sp_law (K : PySem.W.Frag) : Sp := fun vs H Q _ => ∃ (a : Addr) (ns : List Int), vs = [.ref a] ∧ SqL K H a (ns.map V.int) ∧ ns.length ≤ 63 ∧ ∀ H', Q (.bl true) H'
theorem ok_law (T : Tx K mg) : FnG P w K mg base 6 T.a_law T.fd_law ["script"] (sp_law K) := by
  refine okG T.F_law sc_law (fun vs H Q E h => ?_) (fun cdv A outer s H vs Q E hr hgd h => ?_)
  · obtain ⟨a, ns, rfl, _⟩ := h
    rfl
  · obtain ⟨a, ns, rfl, ha, hl, kk⟩ := h
    have hu := hu_of hr
    have hu64 := hr.units
    refine ⟨_, (pss_one (ps_ret (pe_callB (call_uAll (K := K) rfl rfl) (by rfl) T.n_all (by decide +kernel) (pa_cons (pe_lc rfl sc_law.nd (u_list (K := K) rfl (pe_call (ok__law_cells T) (hr.mono (by decide)) rfl T.m__law_cells T.F__law_cells.kp (b__law_cells T) .nil pass0 (pa_cons (pv 0) (pa_cons (pe_int) pa_nil)))) (blkOk_by (own := [("place", 1)]) (N := ["script", "place"]) (sc := defScope s_law) (by decide +kernel)) (fun _ _ _ _ _ => (pg_name (i := 1) sc_law.nd rfl (Or.inl rfl))) (fun _ _ _ _ _ => pts_nil) (fun _ _ _ _ _ => (G.pe_callG (ok__law_right T) (hr.mono (by decide)) hgd rfl T.m__law_right T.F__law_right.kp (b__law_right T) .nil (pa_cons (pe_call (ok__law_pot T) (hr.mono (by decide)) rfl T.m__law_pot T.F__law_pot.kp (b__law_pot T) .nil pass0 (pa_cons (pv 0) (pa_cons (pv 1) pa_nil))) pa_nil)))) pa_nil)))), ?_⟩
    walk_at "st"
    walk_at "go"
    refine ⟨a, ns, 3, rfl, ha, hl, by decide, by decide, fun q c nq c1 c2 => ?_⟩
    refine e_list (SqL.of upd_same) ?_
    have sq := U.same_new (o := .lst (rgV 0 c)) nq
    have rl : (rgV 0 c).length = c := by simp [rgV]
    refine lcI_list (SqL.of upd_same) (by rw [rl]; omega) (fun _ => some (V.bl true)) (fun x H' A B hx s' kA kB => ?_) fun L H2 nL s2 hL => ?_
    · obtain ⟨i, i0, i1, rfl⟩ : ∃ i : Int, 0 ≤ i ∧ i ≤ 100 ∧ x = .int i := by
        simp only [rgV, List.mem_map, List.mem_range] at hx
        obtain ⟨j, hj, rfl⟩ := hx
        exact ⟨_, by omega, by omega, rfl⟩
      walk_at "go"
      refine ⟨rfl, ?_⟩
      walk_at "go"
      refine ⟨a, ns, i, rfl, s'.seq (sq.seq ha), i0, i1, fun p H3 np s3 pot => ?_⟩
      walk_at "go"
      refine ⟨p, rfl, pot.le (by decide), fun H4 s4 => ?_⟩
      exact kA _ _ rfl fun b o e => s4 b o (s3 b o e) (ne_of_none e np)
    · have e : (rgV 0 c).filterMap (fun _ => some (V.bl true)) = ((rgV 0 c).map fun _ => true).map V.bl := by
        rw [List.map_map]
        exact congrFun List.filterMap_eq_map _
      rw [e] at hL
      refine g_allB (SqL.of hL) ?_
      rw [show (((rgV 0 c).map fun _ => true).all id) = true from by simp]
      exact kk _
end
end Toy

namespace Toy
open PySem PySem.Spec L2 U EX M5 QD G
section

def d_CrowdError___init__ : He.FnD := ⟨("CrowdError", some "__init__"), "__init__", "CrowdError.__init__", defArgs s_CrowdError___init__, defBody s_CrowdError___init__, defScope s_CrowdError___init__⟩
def d__law_pot : He.FnD := ⟨("_law_pot", none), "_law_pot", "_law_pot", defArgs s__law_pot, defBody s__law_pot, defScope s__law_pot⟩
def d__law_take : He.FnD := ⟨("_law_take", none), "_law_take", "_law_take", defArgs s__law_take, defBody s__law_take, defScope s__law_take⟩
def d__law_of : He.FnD := ⟨("_law_of", none), "_law_of", "_law_of", defArgs s__law_of, defBody s__law_of, defScope s__law_of⟩
def d__law_cells : He.FnD := ⟨("_law_cells", none), "_law_cells", "_law_cells", defArgs s__law_cells, defBody s__law_cells, defScope s__law_cells⟩
def d__law_odd : He.FnD := ⟨("_law_odd", none), "_law_odd", "_law_odd", defArgs s__law_odd, defBody s__law_odd, defScope s__law_odd⟩
def d__law_made : He.FnD := ⟨("_law_made", none), "_law_made", "_law_made", defArgs s__law_made, defBody s__law_made, defScope s__law_made⟩
def d__law_made_too : He.FnD := ⟨("_law_made_too", none), "_law_made_too", "_law_made_too", defArgs s__law_made_too, defBody s__law_made_too, defScope s__law_made_too⟩
def d__law_made_more : He.FnD := ⟨("_law_made_more", none), "_law_made_more", "_law_made_more", defArgs s__law_made_more, defBody s__law_made_more, defScope s__law_made_more⟩
def d__law_sorts : He.FnD := ⟨("_law_sorts", none), "_law_sorts", "_law_sorts", defArgs s__law_sorts, defBody s__law_sorts, defScope s__law_sorts⟩
def d__law_sorts_too : He.FnD := ⟨("_law_sorts_too", none), "_law_sorts_too", "_law_sorts_too", defArgs s__law_sorts_too, defBody s__law_sorts_too, defScope s__law_sorts_too⟩
def d__law_sorts_more : He.FnD := ⟨("_law_sorts_more", none), "_law_sorts_more", "_law_sorts_more", defArgs s__law_sorts_more, defBody s__law_sorts_more, defScope s__law_sorts_more⟩
def d__law_right : He.FnD := ⟨("_law_right", none), "_law_right", "_law_right", defArgs s__law_right, defBody s__law_right, defScope s__law_right⟩
def d_law : He.FnD := ⟨("law", none), "law", "law", defArgs s_law, defBody s_law, defScope s_law⟩
def eNs : List Str := (["BadRegister", "BadColumns", "BadKinds", "BadPersons", "NoColumn", "NoPerson", "NoKind", "BadTable", "BadRows", "BadMark", "BadValue", "BadValues", "NoRow", "BadMarks", "NoWorld", "BadLot", "BadNumber", "TooMany", "BadWorld", "BadSecret", "BadSize", "BadStretch", "BadCrowds", "BadShown", "NoCrowds", "BadLoss", "BadColumn", "BadCounts", "BadLifts", "BadCrowd"] : List Str) ++ (["BadSecrets", "BadSequence", "BadTold", "BadNames", "OtherRegister", "NoJoint", "Full", "BadName", "Held", "TooFew", "Unlike", "BadDeed", "NoName", "NotThat", "InUse", "BadPerson", "NotTold", "NothingToUndo", "NothingToRedo", "NoNote", "BadDesk"] : List Str)
def eAs (K : PySem.W.Frag) : List Addr := eNs.map fun x => He.ga K x
def fnL : List He.FnD := [d_CrowdError___init__, d__law_pot, d__law_take, d__law_of, d__law_cells, d__law_odd, d__law_made, d__law_made_too, d__law_made_more, d__law_sorts, d__law_sorts_too, d__law_sorts_more, d__law_right, d_law]
def faL : List He.Fa := [.glo "_law_pot", .glo "_law_take", .glo "_law_of", .glo "_law_cells", .glo "_law_odd", .glo "_law_made", .glo "_law_made_too", .glo "_law_made_more", .glo "_law_sorts", .glo "_law_sorts_too", .glo "_law_sorts_more", .glo "_law_right", .glo "law", .free "ValueError", .free "abs", .free "all", .free "enumerate", .free "int", .free "isinstance", .free "len", .free "list", .free "max", .free "min", .free "range", .free "repr", .free "sum", .glo "CrowdError", .glo "BadRegister", .glo "BadColumns", .glo "BadKinds", .glo "BadPersons", .glo "NoColumn", .glo "NoPerson", .glo "NoKind", .glo "BadTable", .glo "BadRows", .glo "BadMark", .glo "BadValue", .glo "BadValues", .glo "NoRow", .glo "BadMarks", .glo "NoWorld", .glo "BadLot", .glo "BadNumber", .glo "TooMany", .glo "BadWorld", .glo "BadSecret", .glo "BadSize", .glo "BadStretch", .glo "BadCrowds", .glo "BadShown", .glo "NoCrowds", .glo "BadLoss", .glo "BadColumn", .glo "BadCounts", .glo "BadLifts", .glo "BadCrowd", .glo "BadSecrets", .glo "BadSequence", .glo "BadTold", .glo "BadNames", .glo "OtherRegister", .glo "NoJoint", .glo "Full", .glo "BadName", .glo "Held", .glo "TooFew", .glo "Unlike", .glo "BadDeed", .glo "NoName", .glo "NotThat", .glo "InUse", .glo "BadPerson", .glo "NotTold", .glo "NothingToUndo", .glo "NothingToRedo", .glo "NoNote", .glo "BadDesk"]
def nmL : List Str := (["CrowdError", "BadRegister", "BadColumns", "BadKinds", "BadPersons", "NoColumn", "NoPerson", "NoKind", "BadTable", "BadRows", "BadMark", "BadValue", "BadValues", "NoRow", "BadMarks", "NoWorld", "BadLot", "BadNumber", "TooMany", "BadWorld", "BadSecret", "BadSize", "BadStretch", "BadCrowds", "BadShown", "NoCrowds", "BadLoss", "BadColumn", "BadCounts", "BadLifts"] : List Str) ++ (["BadCrowd", "BadSecrets", "BadSequence", "BadTold", "BadNames", "OtherRegister", "NoJoint", "Full", "BadName", "Held", "TooFew", "Unlike", "BadDeed", "NoName", "NotThat", "InUse", "BadPerson", "NotTold", "NothingToUndo", "NothingToRedo", "NoNote", "BadDesk", "_law_pot", "_law_take", "_law_of", "_law_cells", "_law_odd", "_law_made", "_law_made_too", "_law_made_more"] : List Str) ++ (["_law_sorts", "_law_sorts_too", "_law_sorts_more", "_law_right", "law"] : List Str)
def xB (K : PySem.W.Frag) : Bool := (fnL.all fun d => PySem.W.keepIn K (.ref (He.fAd K d.at_))) && (((He.ga K "CrowdError" :: eAs K).all fun C => EX.errB K (He.ma K (He.ga K "CrowdError") "__init__") (He.ga K "CrowdError") C) && (decide (He.ga K "CrowdError" :: eAs K).Nodup && (decide (PySem.W.typeIn K (.ref (He.ma K (He.ga K "CrowdError") "__init__")) = some (.type "function")) && (He.eqO (PySem.W.specialIn K (.builtin "object.__class__") "__get__") (some (some (.builtin "getset_descriptor.__get__"))) && (decide (PySem.W.takesIn K (.builtin "object.__class__") = some true))))))
theorem mk_TxX {K : PySem.W.Frag} {mg : Str → Option Value} {h : Heap} (X : K.In h) (G : h.Ns mainGlobals mg) (c : He.SaysE faL fnL K) (x : xB K = true) : Nonempty (Tx K mg) := by
  obtain ⟨x1, x⟩ := He.ba x
  have kk : ∀ (i : Nat) {d : He.FnD}, fnL[i]? = some d → PySem.W.keepIn K (.ref (He.fAd K d.at_)) = true := fun i d h => List.all_eq_true.mp x1 d (List.mem_of_getElem? h)
  obtain ⟨oc0, od0, sl0, kV0, dc0, pm0, an0, cd0, ct0, l0, c0⟩ := c.def_ 0 (d := d_CrowdError___init__) rfl
  obtain ⟨oc1, od1, sl1, kV1, dc1, pm1, an1, cd1, ct1, l1, c1⟩ := c.def_ 1 (d := d__law_pot) rfl
  obtain ⟨oc2, od2, sl2, kV2, dc2, pm2, an2, cd2, ct2, l2, c2⟩ := c.def_ 2 (d := d__law_take) rfl
  obtain ⟨oc3, od3, sl3, kV3, dc3, pm3, an3, cd3, ct3, l3, c3⟩ := c.def_ 3 (d := d__law_of) rfl
  obtain ⟨oc4, od4, sl4, kV4, dc4, pm4, an4, cd4, ct4, l4, c4⟩ := c.def_ 4 (d := d__law_cells) rfl
  obtain ⟨oc5, od5, sl5, kV5, dc5, pm5, an5, cd5, ct5, l5, c5⟩ := c.def_ 5 (d := d__law_odd) rfl
  obtain ⟨oc6, od6, sl6, kV6, dc6, pm6, an6, cd6, ct6, l6, c6⟩ := c.def_ 6 (d := d__law_made) rfl
  obtain ⟨oc7, od7, sl7, kV7, dc7, pm7, an7, cd7, ct7, l7, c7⟩ := c.def_ 7 (d := d__law_made_too) rfl
  obtain ⟨oc8, od8, sl8, kV8, dc8, pm8, an8, cd8, ct8, l8, c8⟩ := c.def_ 8 (d := d__law_made_more) rfl
  obtain ⟨oc9, od9, sl9, kV9, dc9, pm9, an9, cd9, ct9, l9, c9⟩ := c.def_ 9 (d := d__law_sorts) rfl
  obtain ⟨oc10, od10, sl10, kV10, dc10, pm10, an10, cd10, ct10, l10, c10⟩ := c.def_ 10 (d := d__law_sorts_too) rfl
  obtain ⟨oc11, od11, sl11, kV11, dc11, pm11, an11, cd11, ct11, l11, c11⟩ := c.def_ 11 (d := d__law_sorts_more) rfl
  obtain ⟨oc12, od12, sl12, kV12, dc12, pm12, an12, cd12, ct12, l12, c12⟩ := c.def_ 12 (d := d__law_right) rfl
  obtain ⟨oc13, od13, sl13, kV13, dc13, pm13, an13, cd13, ct13, l13, c13⟩ := c.def_ 13 (d := d_law) rfl
  obtain ⟨x2, x⟩ := He.ba x
  obtain ⟨x3, x⟩ := He.ba x
  obtain ⟨x4, x⟩ := He.ba x
  obtain ⟨x5, x6⟩ := He.ba x
  have nd := of_decide_eq_true x3
  have eE : ∀ C ∈ He.ga K "CrowdError" :: eAs K, _ := fun C m => EX.errB_ok (List.all_eq_true.mp x2 C m)
  have eL : ∀ i, i < 51 → (eAs K).getD i 0 ∈ He.ga K "CrowdError" :: eAs K := fun i h => List.mem_cons_of_mem _ (EX.getD_mem (show i < (eAs K).length from h))
  have ne : ∀ i, i < 51 → ¬ (eAs K).getD i 0 = He.ga K "CrowdError" := fun i h z => (List.nodup_cons.mp nd).1 (z ▸ EX.getD_mem (show i < (eAs K).length from h))
  exact ⟨{
    a_CrowdError___init__ := He.fAd K ("CrowdError", some "__init__"), fd_CrowdError___init__ := _, F_CrowdError___init__ := fun_mk (st := s_CrowdError___init__) l0 c0 (kk 0 (d := d_CrowdError___init__) rfl),
    a__law_pot := He.fAd K ("_law_pot", none), fd__law_pot := _, F__law_pot := fun_mk (st := s__law_pot) l1 c1 (kk 1 (d := d__law_pot) rfl),
    m__law_pot := He.glo_ok X G (c.fact 0 (f := .glo "_law_pot") rfl),
    a__law_take := He.fAd K ("_law_take", none), fd__law_take := _, F__law_take := fun_mk (st := s__law_take) l2 c2 (kk 2 (d := d__law_take) rfl),
    m__law_take := He.glo_ok X G (c.fact 1 (f := .glo "_law_take") rfl),
    a__law_of := He.fAd K ("_law_of", none), fd__law_of := _, F__law_of := fun_mk (st := s__law_of) l3 c3 (kk 3 (d := d__law_of) rfl),
    m__law_of := He.glo_ok X G (c.fact 2 (f := .glo "_law_of") rfl),
    a__law_cells := He.fAd K ("_law_cells", none), fd__law_cells := _, F__law_cells := fun_mk (st := s__law_cells) l4 c4 (kk 4 (d := d__law_cells) rfl),
    m__law_cells := He.glo_ok X G (c.fact 3 (f := .glo "_law_cells") rfl),
    a__law_odd := He.fAd K ("_law_odd", none), fd__law_odd := _, F__law_odd := fun_mk (st := s__law_odd) l5 c5 (kk 5 (d := d__law_odd) rfl),
    m__law_odd := He.glo_ok X G (c.fact 4 (f := .glo "_law_odd") rfl),
    a__law_made := He.fAd K ("_law_made", none), fd__law_made := _, F__law_made := fun_mk (st := s__law_made) l6 c6 (kk 6 (d := d__law_made) rfl),
    m__law_made := He.glo_ok X G (c.fact 5 (f := .glo "_law_made") rfl),
    a__law_made_too := He.fAd K ("_law_made_too", none), fd__law_made_too := _, F__law_made_too := fun_mk (st := s__law_made_too) l7 c7 (kk 7 (d := d__law_made_too) rfl),
    m__law_made_too := He.glo_ok X G (c.fact 6 (f := .glo "_law_made_too") rfl),
    a__law_made_more := He.fAd K ("_law_made_more", none), fd__law_made_more := _, F__law_made_more := fun_mk (st := s__law_made_more) l8 c8 (kk 8 (d := d__law_made_more) rfl),
    m__law_made_more := He.glo_ok X G (c.fact 7 (f := .glo "_law_made_more") rfl),
    a__law_sorts := He.fAd K ("_law_sorts", none), fd__law_sorts := _, F__law_sorts := fun_mk (st := s__law_sorts) l9 c9 (kk 9 (d := d__law_sorts) rfl),
    m__law_sorts := He.glo_ok X G (c.fact 8 (f := .glo "_law_sorts") rfl),
    a__law_sorts_too := He.fAd K ("_law_sorts_too", none), fd__law_sorts_too := _, F__law_sorts_too := fun_mk (st := s__law_sorts_too) l10 c10 (kk 10 (d := d__law_sorts_too) rfl),
    m__law_sorts_too := He.glo_ok X G (c.fact 9 (f := .glo "_law_sorts_too") rfl),
    a__law_sorts_more := He.fAd K ("_law_sorts_more", none), fd__law_sorts_more := _, F__law_sorts_more := fun_mk (st := s__law_sorts_more) l11 c11 (kk 11 (d := d__law_sorts_more) rfl),
    m__law_sorts_more := He.glo_ok X G (c.fact 10 (f := .glo "_law_sorts_more") rfl),
    a__law_right := He.fAd K ("_law_right", none), fd__law_right := _, F__law_right := fun_mk (st := s__law_right) l12 c12 (kk 12 (d := d__law_right) rfl),
    m__law_right := He.glo_ok X G (c.fact 11 (f := .glo "_law_right") rfl),
    a_law := He.fAd K ("law", none), fd_law := _, F_law := fun_mk (st := s_law) l13 c13 (kk 13 (d := d_law) rfl),
    m_law := He.glo_ok X G (c.fact 12 (f := .glo "law") rfl),
    n_ValueError := He.free_ok X G (c.fact 13 (f := .free "ValueError") rfl),
    n_abs := He.free_ok X G (c.fact 14 (f := .free "abs") rfl),
    n_all := He.free_ok X G (c.fact 15 (f := .free "all") rfl),
    n_enumerate := He.free_ok X G (c.fact 16 (f := .free "enumerate") rfl),
    n_int := He.free_ok X G (c.fact 17 (f := .free "int") rfl),
    n_isinstance := He.free_ok X G (c.fact 18 (f := .free "isinstance") rfl),
    n_len := He.free_ok X G (c.fact 19 (f := .free "len") rfl),
    n_list := He.free_ok X G (c.fact 20 (f := .free "list") rfl),
    n_max := He.free_ok X G (c.fact 21 (f := .free "max") rfl),
    n_min := He.free_ok X G (c.fact 22 (f := .free "min") rfl),
    n_range := He.free_ok X G (c.fact 23 (f := .free "range") rfl),
    n_repr := He.free_ok X G (c.fact 24 (f := .free "repr") rfl),
    n_sum := He.free_ok X G (c.fact 25 (f := .free "sum") rfl),
    C_CrowdError := He.ga K "CrowdError", m_CrowdError := He.glo_ok X G (c.fact 26 (f := .glo "CrowdError") rfl), e_CrowdError := (eE _ List.mem_cons_self).1,
    C_BadRegister := He.ga K "BadRegister", m_BadRegister := He.glo_ok X G (c.fact 27 (f := .glo "BadRegister") rfl), e_BadRegister := (eE _ (eL 0 (by decide))).1,
    C_BadColumns := He.ga K "BadColumns", m_BadColumns := He.glo_ok X G (c.fact 28 (f := .glo "BadColumns") rfl), e_BadColumns := (eE _ (eL 1 (by decide))).1,
    C_BadKinds := He.ga K "BadKinds", m_BadKinds := He.glo_ok X G (c.fact 29 (f := .glo "BadKinds") rfl), e_BadKinds := (eE _ (eL 2 (by decide))).1,
    C_BadPersons := He.ga K "BadPersons", m_BadPersons := He.glo_ok X G (c.fact 30 (f := .glo "BadPersons") rfl), e_BadPersons := (eE _ (eL 3 (by decide))).1,
    C_NoColumn := He.ga K "NoColumn", m_NoColumn := He.glo_ok X G (c.fact 31 (f := .glo "NoColumn") rfl), e_NoColumn := (eE _ (eL 4 (by decide))).1,
    C_NoPerson := He.ga K "NoPerson", m_NoPerson := He.glo_ok X G (c.fact 32 (f := .glo "NoPerson") rfl), e_NoPerson := (eE _ (eL 5 (by decide))).1,
    C_NoKind := He.ga K "NoKind", m_NoKind := He.glo_ok X G (c.fact 33 (f := .glo "NoKind") rfl), e_NoKind := (eE _ (eL 6 (by decide))).1,
    C_BadTable := He.ga K "BadTable", m_BadTable := He.glo_ok X G (c.fact 34 (f := .glo "BadTable") rfl), e_BadTable := (eE _ (eL 7 (by decide))).1,
    C_BadRows := He.ga K "BadRows", m_BadRows := He.glo_ok X G (c.fact 35 (f := .glo "BadRows") rfl), e_BadRows := (eE _ (eL 8 (by decide))).1,
    C_BadMark := He.ga K "BadMark", m_BadMark := He.glo_ok X G (c.fact 36 (f := .glo "BadMark") rfl), e_BadMark := (eE _ (eL 9 (by decide))).1,
    C_BadValue := He.ga K "BadValue", m_BadValue := He.glo_ok X G (c.fact 37 (f := .glo "BadValue") rfl), e_BadValue := (eE _ (eL 10 (by decide))).1,
    C_BadValues := He.ga K "BadValues", m_BadValues := He.glo_ok X G (c.fact 38 (f := .glo "BadValues") rfl), e_BadValues := (eE _ (eL 11 (by decide))).1,
    C_NoRow := He.ga K "NoRow", m_NoRow := He.glo_ok X G (c.fact 39 (f := .glo "NoRow") rfl), e_NoRow := (eE _ (eL 12 (by decide))).1,
    C_BadMarks := He.ga K "BadMarks", m_BadMarks := He.glo_ok X G (c.fact 40 (f := .glo "BadMarks") rfl), e_BadMarks := (eE _ (eL 13 (by decide))).1,
    C_NoWorld := He.ga K "NoWorld", m_NoWorld := He.glo_ok X G (c.fact 41 (f := .glo "NoWorld") rfl), e_NoWorld := (eE _ (eL 14 (by decide))).1,
    C_BadLot := He.ga K "BadLot", m_BadLot := He.glo_ok X G (c.fact 42 (f := .glo "BadLot") rfl), e_BadLot := (eE _ (eL 15 (by decide))).1,
    C_BadNumber := He.ga K "BadNumber", m_BadNumber := He.glo_ok X G (c.fact 43 (f := .glo "BadNumber") rfl), e_BadNumber := (eE _ (eL 16 (by decide))).1,
    C_TooMany := He.ga K "TooMany", m_TooMany := He.glo_ok X G (c.fact 44 (f := .glo "TooMany") rfl), e_TooMany := (eE _ (eL 17 (by decide))).1,
    C_BadWorld := He.ga K "BadWorld", m_BadWorld := He.glo_ok X G (c.fact 45 (f := .glo "BadWorld") rfl), e_BadWorld := (eE _ (eL 18 (by decide))).1,
    C_BadSecret := He.ga K "BadSecret", m_BadSecret := He.glo_ok X G (c.fact 46 (f := .glo "BadSecret") rfl), e_BadSecret := (eE _ (eL 19 (by decide))).1,
    C_BadSize := He.ga K "BadSize", m_BadSize := He.glo_ok X G (c.fact 47 (f := .glo "BadSize") rfl), e_BadSize := (eE _ (eL 20 (by decide))).1,
    C_BadStretch := He.ga K "BadStretch", m_BadStretch := He.glo_ok X G (c.fact 48 (f := .glo "BadStretch") rfl), e_BadStretch := (eE _ (eL 21 (by decide))).1,
    C_BadCrowds := He.ga K "BadCrowds", m_BadCrowds := He.glo_ok X G (c.fact 49 (f := .glo "BadCrowds") rfl), e_BadCrowds := (eE _ (eL 22 (by decide))).1,
    C_BadShown := He.ga K "BadShown", m_BadShown := He.glo_ok X G (c.fact 50 (f := .glo "BadShown") rfl), e_BadShown := (eE _ (eL 23 (by decide))).1,
    C_NoCrowds := He.ga K "NoCrowds", m_NoCrowds := He.glo_ok X G (c.fact 51 (f := .glo "NoCrowds") rfl), e_NoCrowds := (eE _ (eL 24 (by decide))).1,
    C_BadLoss := He.ga K "BadLoss", m_BadLoss := He.glo_ok X G (c.fact 52 (f := .glo "BadLoss") rfl), e_BadLoss := (eE _ (eL 25 (by decide))).1,
    C_BadColumn := He.ga K "BadColumn", m_BadColumn := He.glo_ok X G (c.fact 53 (f := .glo "BadColumn") rfl), e_BadColumn := (eE _ (eL 26 (by decide))).1,
    C_BadCounts := He.ga K "BadCounts", m_BadCounts := He.glo_ok X G (c.fact 54 (f := .glo "BadCounts") rfl), e_BadCounts := (eE _ (eL 27 (by decide))).1,
    C_BadLifts := He.ga K "BadLifts", m_BadLifts := He.glo_ok X G (c.fact 55 (f := .glo "BadLifts") rfl), e_BadLifts := (eE _ (eL 28 (by decide))).1,
    C_BadCrowd := He.ga K "BadCrowd", m_BadCrowd := He.glo_ok X G (c.fact 56 (f := .glo "BadCrowd") rfl), e_BadCrowd := (eE _ (eL 29 (by decide))).1,
    C_BadSecrets := He.ga K "BadSecrets", m_BadSecrets := He.glo_ok X G (c.fact 57 (f := .glo "BadSecrets") rfl), e_BadSecrets := (eE _ (eL 30 (by decide))).1,
    C_BadSequence := He.ga K "BadSequence", m_BadSequence := He.glo_ok X G (c.fact 58 (f := .glo "BadSequence") rfl), e_BadSequence := (eE _ (eL 31 (by decide))).1,
    C_BadTold := He.ga K "BadTold", m_BadTold := He.glo_ok X G (c.fact 59 (f := .glo "BadTold") rfl), e_BadTold := (eE _ (eL 32 (by decide))).1,
    C_BadNames := He.ga K "BadNames", m_BadNames := He.glo_ok X G (c.fact 60 (f := .glo "BadNames") rfl), e_BadNames := (eE _ (eL 33 (by decide))).1,
    C_OtherRegister := He.ga K "OtherRegister", m_OtherRegister := He.glo_ok X G (c.fact 61 (f := .glo "OtherRegister") rfl), e_OtherRegister := (eE _ (eL 34 (by decide))).1,
    C_NoJoint := He.ga K "NoJoint", m_NoJoint := He.glo_ok X G (c.fact 62 (f := .glo "NoJoint") rfl), e_NoJoint := (eE _ (eL 35 (by decide))).1,
    C_Full := He.ga K "Full", m_Full := He.glo_ok X G (c.fact 63 (f := .glo "Full") rfl), e_Full := (eE _ (eL 36 (by decide))).1,
    C_BadName := He.ga K "BadName", m_BadName := He.glo_ok X G (c.fact 64 (f := .glo "BadName") rfl), e_BadName := (eE _ (eL 37 (by decide))).1,
    C_Held := He.ga K "Held", m_Held := He.glo_ok X G (c.fact 65 (f := .glo "Held") rfl), e_Held := (eE _ (eL 38 (by decide))).1,
    C_TooFew := He.ga K "TooFew", m_TooFew := He.glo_ok X G (c.fact 66 (f := .glo "TooFew") rfl), e_TooFew := (eE _ (eL 39 (by decide))).1,
    C_Unlike := He.ga K "Unlike", m_Unlike := He.glo_ok X G (c.fact 67 (f := .glo "Unlike") rfl), e_Unlike := (eE _ (eL 40 (by decide))).1,
    C_BadDeed := He.ga K "BadDeed", m_BadDeed := He.glo_ok X G (c.fact 68 (f := .glo "BadDeed") rfl), e_BadDeed := (eE _ (eL 41 (by decide))).1,
    C_NoName := He.ga K "NoName", m_NoName := He.glo_ok X G (c.fact 69 (f := .glo "NoName") rfl), e_NoName := (eE _ (eL 42 (by decide))).1,
    C_NotThat := He.ga K "NotThat", m_NotThat := He.glo_ok X G (c.fact 70 (f := .glo "NotThat") rfl), e_NotThat := (eE _ (eL 43 (by decide))).1,
    C_InUse := He.ga K "InUse", m_InUse := He.glo_ok X G (c.fact 71 (f := .glo "InUse") rfl), e_InUse := (eE _ (eL 44 (by decide))).1,
    C_BadPerson := He.ga K "BadPerson", m_BadPerson := He.glo_ok X G (c.fact 72 (f := .glo "BadPerson") rfl), e_BadPerson := (eE _ (eL 45 (by decide))).1,
    C_NotTold := He.ga K "NotTold", m_NotTold := He.glo_ok X G (c.fact 73 (f := .glo "NotTold") rfl), e_NotTold := (eE _ (eL 46 (by decide))).1,
    C_NothingToUndo := He.ga K "NothingToUndo", m_NothingToUndo := He.glo_ok X G (c.fact 74 (f := .glo "NothingToUndo") rfl), e_NothingToUndo := (eE _ (eL 47 (by decide))).1,
    C_NothingToRedo := He.ga K "NothingToRedo", m_NothingToRedo := He.glo_ok X G (c.fact 75 (f := .glo "NothingToRedo") rfl), e_NothingToRedo := (eE _ (eL 48 (by decide))).1,
    C_NoNote := He.ga K "NoNote", m_NoNote := He.glo_ok X G (c.fact 76 (f := .glo "NoNote") rfl), e_NoNote := (eE _ (eL 49 (by decide))).1,
    C_BadDesk := He.ga K "BadDesk", m_BadDesk := He.glo_ok X G (c.fact 77 (f := .glo "BadDesk") rfl), e_BadDesk := (eE _ (eL 50 (by decide))).1,
    kit := fun i j hi hj => EX.kit_ij (xs := eAs K) (eE _ (eL i hi)).2.1 (eE _ (eL j hj)).2.1 (eE _ (eL j hj)).2.2 (ne j hj) (List.nodup_cons.mp nd).2 hi hj,
    kb := fun j hj => EX.kit_no (eE _ List.mem_cons_self).2.1 (eE _ (eL j hj)).2.1 (eE _ (eL j hj)).2.2 (ne j hj),
    kc := fun i hi => EX.kit_up (eE _ (eL i hi)).2.1 (eE _ List.mem_cons_self).2.1 (eE _ List.mem_cons_self).2.2,
    kv := fun i hi => EX.kit_type (eE _ (eL i hi)).2.1,
    kbv := EX.kit_type (eE _ List.mem_cons_self).2.1, tI := of_decide_eq_true x4,
    tn_get := He.eqO_ok x5, tn_takes := of_decide_eq_true x6 }⟩
abbrev R : PySem.W.OpenRow := PySem.W.OpenLaw.row PySem.Challenge.rw_alikecrowds_k50_errors_keep_any_value
abbrev hk : PySem.W.Hook := HX.hookX nmL faL fnL xB
def ob (s : PySem.W.SharedT) : He.Al × Bool := HX.obsX nmL faL fnL xB (HandSHeadRun.getT s)
theorem ob_eq (s : PySem.W.SharedT) : ob s = hk.obs s.abs := HX.obsX_eq (HandSHeadRun.getT_eq s)
def looseL : List PySem.Str := (["CrowdError", "BadRegister", "BadColumns", "BadKinds", "BadPersons", "NoColumn", "NoPerson", "NoKind", "BadTable", "BadRows", "BadMark", "BadValue", "BadValues", "NoRow", "BadMarks", "NoWorld", "BadLot", "BadNumber", "TooMany", "BadWorld", "BadSecret", "BadSize", "BadStretch", "BadCrowds", "BadShown", "NoCrowds", "BadLoss", "BadColumn", "BadCounts", "BadLifts"] : List PySem.Str) ++ (["BadCrowd", "BadSecrets", "BadSequence", "BadTold", "BadNames", "OtherRegister", "NoJoint", "Full", "BadName", "Held", "TooFew", "Unlike", "BadDeed", "NoName", "NotThat", "InUse", "BadPerson", "NotTold", "NothingToUndo", "NothingToRedo", "NoNote", "BadDesk", "_law_pot", "_law_take", "_law_of", "_law_cells", "_law_odd", "_law_made", "_law_made_too", "_law_made_more"] : List PySem.Str) ++ (["_law_sorts", "_law_sorts_too", "_law_sorts_more", "_law_right"] : List PySem.Str)
abbrev vw : Program := PySem.W.view R.prog [66]
theorem finX {l : PySem.W.OpenLaw} {w : World} {K : PySem.W.Frag} {mg : Str → Option Value} {fa : Addr} (hfa : mg "law" = some (.ref fa)) (t : Nonempty (Tx K mg)) :
    ∃ fd : FuncData, (∀ (s : Shared) (u : Value), BindsTo s fd ⟨[u], []⟩ [("script", u)]) ∧ ∀ base : Heap, K.In base → base.Ns mainGlobals mg → FnG l.prog w K mg base 6 fa fd ["script"] (sp_law K) := by
  obtain ⟨T⟩ := t
  have e := hfa.symm.trans T.m_law
  cases e
  refine ⟨T.fd_law, ?_, fun base _ _ => ok_law T⟩
  obtain ⟨oc, od, kV, doc, pm, an, cdv, ct, osl, e, _, _⟩ := T.F_law.ex
  rw [e]
  exact fun s v => .of_eq rfl
end
end Toy


namespace Toy
open PySem PySem.Spec
theorem run (w : World) : HandSHeadRun.RunEq R vw hk ob 12000 looseL w := by
  intro os
  kernel_rfl
end Toy


open PySem PySem.W PySem.Calls PyProof.Rows
theorem PySem.Challenge.cw_alikecrowds_k50_errors_keep_any_value_holds : PySem.Challenge.rw_alikecrowds_k50_errors_keep_any_value.Holds := by
  w_on; o_law
  refine HandSHeadRun.head_any (r := OpenLaw.row PySem.Challenge.rw_alikecrowds_k50_errors_keep_any_value) (q := Toy.vw) (H := Toy.hk) (ob := Toy.ob) (M := 12000) (loose := Toy.looseL) (d := HandSHeadRun.topDef (OpenLaw.row PySem.Challenge.rw_alikecrowds_k50_errors_keep_any_value).prog 66) (kwd := []) Toy.ob_eq
    (by kernel_rfl) (fun s => by kernel_rfl) Toy.run (by kernel_rfl) (by kernel_rfl) (by kernel_rfl) (by rfl) (by first | assumption | decide +kernel) (by decide +kernel) ⟨rfl, rfl, rfl, rfl, rfl, by decide +kernel⟩ ?hw ?hc
  case hw => w_witness2
  case hc =>
    refine HX.walkGE (l := PySem.Challenge.rw_alikecrowds_k50_errors_keep_any_value) (n := 63) (k := 6) (x := "script") (sp := Toy.sp_law) rfl (by decide) (by kernel_rfl) ⟨rfl, by decide, by decide⟩ ?F ?S
    case S => exact fun K H a ns hl hS => ⟨a, ns, rfl, hS, hl, fun _ => rfl⟩
    case F =>
      intro w mg fa h Y G hmg0
      obtain ⟨K, KX, c, x⟩ := Y
      have hmg : mg ("law" : PySem.Str) = some (.ref fa) := by
        have e : (HandSHeadRun.topDef (OpenLaw.row PySem.Challenge.rw_alikecrowds_k50_errors_keep_any_value).prog 66).name = ("law" : PySem.Str) := by kernel_rfl
        rw [← e]
        exact hmg0
      obtain ⟨fd, hb, hF⟩ := Toy.finX (l := PySem.Challenge.rw_alikecrowds_k50_errors_keep_any_value) (w := w) hmg (Toy.mk_TxX KX G c x)
      exact ⟨K, fd, KX, hb, hF⟩

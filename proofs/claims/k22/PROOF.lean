import PyProof.Rows.All
import Wide.All
import OpenK.AllK
import Wide.FinOn
import HandS.ForMost
import HandS.Exc
import HandS.ExcOwn
import HandS.WordsExc
import HandS.IsInst
import HandS.Wide
import HandS.Walk
import HandS.Conv
import HandS.Deep
import HandS.SetKeys
import HandS.ListItems
import HandS.FStr
import HandS.RaiseMore
import HandS.NoneIn
import KE.GoesZip
import KE.GoesMore
import KE.KDictWalk
import KE.GoesEnumKw
import KE.DataMinMax
import HandS.SortKw
import HandS.SortInts
import HandS.SortRule
import HandS.Style
import HandS.TupAny
import HandS.Defaults
import PyProof.ReprRoads
import HandS.Head0
import HandS.Head1
import HandS.Head2
import HandS.HeadHook1
import KE.KRevSl
import PySem.Challenge.RW_alikecrowds_k22_whole_least_loss_on_a_li
set_option Elab.async false
set_option linter.all false
set_option maxRecDepth 100000
set_option maxHeartbeats 4000000
namespace U
open PySem PySem.Spec PyProof.Rows L2
/-! ### U: one rule for each sign of Python, whatever kinds of values stand beside it -/
section
variable {X : Cx}
theorem u_or {e : Expr} {t u : TE} (h1 : PE X e t) (h2 : PE X e u) : PE X e (fun σ H Q => t σ H Q ∨ u σ H Q) :=
  ⟨fun pins s σ H Q I h => h.elim (h1.run pins s σ H Q I) (h2.run pins s σ H Q I)⟩
theorem u_weak {e : Expr} {t u : TE} (h1 : PE X e t) (w : ∀ σ H Q, u σ H Q → t σ H Q) : PE X e u := ⟨fun pins s σ H Q I h => h1.run pins s σ H Q I (w σ H Q h)⟩
theorem u_constI {x : Str} {i : Int} {pos : Pos} (hg : Gl X x) (h : ∃ t, X.mg x = some (.int i t)) (hd : (x == ("__debug__" : Str)) = false := by decide) : PE X (.Name x pos) (tC (.int i)) := by
  obtain ⟨t, h⟩ := h
  exact pe_glob hg h ⟨t, rfl⟩ hd
theorem u_constS {x : Str} {z : Str} {pos : Pos} (hg : Gl X x) (h : ∃ t, X.mg x = some (.str z t)) (hd : (x == ("__debug__" : Str)) = false := by decide) : PE X (.Name x pos) (tC (.str z)) := by
  obtain ⟨t, h⟩ := h
  exact pe_glob hg h ⟨t, rfl⟩ hd
theorem u_ty {x : Str} {n : String} {pos : Pos} (hg : Gl X x) (hm : X.mg x = none) (hv : bootBuiltins x = some (.type n)) (hn : x ≠ "__name__" := by decide) (hd : (x == ("__debug__" : Str)) = false := by decide) : PE X (.Name x pos) (tC (.ty n)) := pe_bltn hg hm hv rfl hn hd
/-- x + y -/
def uAdd (K : PySem.W.Frag) : R2 := fun x y H Q => match x, y with
  | .int i, .int j => Q (.int (i + j)) H
  | .str i, .str j => i.length + j.length ≤ sizeLine ∧ Q (.str (i ++ j)) H
  | .ref a, .ref b => rCat (.ref a) (.ref b) H Q ∨ rCatT K (.ref a) (.ref b) H Q
  | _, _ => False
theorem op_uAdd0 : OpR X (binaryOp .Add) (uAdd X.K) := by
  intro pins s σ H x y u v Q I rx ry h
  cases x <;> cases y <;> first | exact False.elim h | skip
  case int.int i j => exact op_add pins s σ H _ _ u v Q I rx ry ⟨i, j, rfl, rfl, h⟩
  case str.str i j => exact op_add_str pins s σ H _ _ u v Q I rx ry ⟨i, j, rfl, rfl, h.1, h.2⟩
  case ref.ref a b => exact (OpR.or op_cat op_catT) pins s σ H _ _ u v Q I rx ry h
/-- x * y, x // y, x ** y -/
def uMul : R2 := fun x y H Q => match x, y with
  | .int i, .int j => (CMul i j ∨ CMulW i j) ∧ Q (.int (i * j)) H
  | _, _ => False
theorem op_uMul : OpR X (binaryOp .Mult) uMul := by
  intro pins s σ H x y u v Q I rx ry h
  cases x <;> cases y <;> first | exact False.elim h | skip
  case int.int i j =>
    rcases h.1 with c | c
    · exact op_mul pins s σ H _ _ u v Q I rx ry ⟨i, j, rfl, rfl, c, h.2⟩
    · exact op_mulW pins s σ H _ _ u v Q I rx ry ⟨i, j, rfl, rfl, c, h.2⟩
def uDiv : R2 := fun x y H Q => match x, y with
  | .int i, .int j => CDivW i j ∧ Q (.int (i / j)) H
  | _, _ => False
theorem op_uDiv : OpR X (binaryOp .FloorDiv) uDiv := by
  intro pins s σ H x y u v Q I rx ry h
  cases x <;> cases y <;> first | exact False.elim h | skip
  case int.int i j => exact op_fdivW pins s σ H _ _ u v Q I rx ry ⟨i, j, rfl, rfl, h.1, h.2⟩
def uMod : R2 := fun x y H Q => match x, y with
  | .int i, .int j => 0 < j ∧ Q (.int (i % j)) H
  | _, _ => False
theorem op_uMod : OpR X (binaryOp .Mod) uMod := by
  intro pins s σ H x y u v Q I rx ry h
  cases x <;> cases y <;> first | exact False.elim h | skip
  case int.int i j => exact op_mod pins s σ H _ _ u v Q I rx ry ⟨i, j, rfl, rfl, h.1, h.2⟩
def uPow : R2 := fun x y H Q => match x, y with
  | .int i, .int j => (0 ≤ j ∧ (Builtin.Int.intBits i : Int) * j ≤ 2 ^ 27) ∧ Q (.int (i ^ j.toNat)) H
  | _, _ => False
theorem op_uPow : OpR X (binaryOp .Pow) uPow := by
  intro pins s σ H x y u v Q I rx ry h
  cases x <;> cases y <;> first | exact False.elim h | skip
  case int.int i j =>
    obtain ⟨t, rfl⟩ := rx
    obtain ⟨t', rfl⟩ := ry
    exact pow_int h.1.1 h.1.2 ⟨.int (i ^ j.toNat), H, I.tok _, ⟨_, rfl⟩, h.2⟩
def uSub : R2 := fun x y H Q => match x, y with
  | .int i, .int j => Q (.int (i - j)) H
  | _, _ => False
theorem op_uSub : OpR X (binaryOp .Sub) uSub := by
  intro pins s σ H x y u v Q I rx ry h
  cases x <;> cases y <;> first | exact False.elim h | skip
  case int.int i j => exact op_sub pins s σ H _ _ u v Q I rx ry ⟨i, j, rfl, rfl, h⟩
def uNeg : V → Hp → VK → Prop := fun x H Q => match x with
  | .int i => Q (.int (-i)) H
  | _ => False
theorem op_uNeg : UnR X (unaryOp .USub) uNeg := by
  intro pins s σ H x v Q I rx h
  cases x <;> first | exact False.elim h | skip
  case int i => exact un_neg pins s σ H _ v Q I rx ⟨i, rfl, h⟩
/-- comparisons of whole numbers -/
def uCmp (p : Int → Int → Bool) : R2 := fun x y H Q => match x, y with
  | .int i, .int j => Q (.bl (p i j)) H
  | _, _ => False
theorem op_uLt : OpR X (compareOp .Lt) (uCmp fun i j => decide (i < j)) := by
  intro pins s σ H x y u v Q I rx ry h
  cases x <;> cases y <;> first | exact False.elim h | skip
  case int.int i j => exact op_lt pins s σ H _ _ u v Q I rx ry ⟨i, j, rfl, rfl, h⟩
theorem op_uLe : OpR X (compareOp .LtE) (uCmp fun i j => decide (i ≤ j)) := by
  intro pins s σ H x y u v Q I rx ry h
  cases x <;> cases y <;> first | exact False.elim h | skip
  case int.int i j => exact op_le pins s σ H _ _ u v Q I rx ry ⟨i, j, rfl, rfl, h⟩
theorem op_uGt : OpR X (compareOp .Gt) (uCmp fun i j => decide (j < i)) := by
  intro pins s σ H x y u v Q I rx ry h
  cases x <;> cases y <;> first | exact False.elim h | skip
  case int.int i j => exact op_gt pins s σ H _ _ u v Q I rx ry ⟨i, j, rfl, rfl, h⟩
theorem op_uGe : OpR X (compareOp .GtE) (uCmp fun i j => decide (j ≤ i)) := by
  intro pins s σ H x y u v Q I rx ry h
  cases x <;> cases y <;> first | exact False.elim h | skip
  case int.int i j => exact op_ge pins s σ H _ _ u v Q I rx ry ⟨i, j, rfl, rfl, h⟩
/-- x == y: scalars, else data at any depth -/
def uEq (K : PySem.W.Frag) (neg : Bool) : R2 := fun x y H Q =>
  (scal x y = true ∧ Q (.bl (if neg then !decide (x = y) else decide (x = y))) H) ∨ (∃ d e, Dp K H x d ∧ Dp K H y e ∧ SeqAt.shaped d = true ∧ SeqAt.shaped e = true ∧ Q (.bl (if neg then !PyData.eqv d e else PyData.eqv d e)) H)
theorem op_uEq0 (hu : X.A.units + 64 < cLine) : OpR X (compareOp .Eq) (uEq X.K false) := OpR.or op_eq (op_eqD hu)
theorem op_uNe0 (hu : X.A.units + 64 < cLine) : OpR X (compareOp .NotEq) (uEq X.K true) := OpR.or op_ne (op_neD hu)
/-- x[i] of a list, a tuple, a text -/
def uIx (K : PySem.W.Frag) : R2 := fun x y H Q => match x, y with
  | .ref p, .int i => (∃ xs v, (SqL K H p xs ∨ SqT K H p xs) ∧ atI xs i = some v ∧ Q v H)
  | .str z, .int i => z.length ≤ sizeLine ∧ ∃ c, atI z.cps.toList i = some c ∧ Q (.str ⟨#[c]⟩) H
  | _, _ => False
theorem ix_u0 : IxR X (uIx X.K) := by
  intro ea eb pins s σ H x y u v Q I rx ry h hs
  cases x <;> cases y <;> first | exact False.elim h | skip
  case ref.int p i =>
    obtain ⟨xs, v', h1 | h1, h2, q⟩ := h
    · exact ix_seq ea eb pins s σ H _ _ u v Q I rx ry (Or.inl ⟨p, xs, i, v', rfl, rfl, h1, h2, q⟩) hs
    · exact ix_seq ea eb pins s σ H _ _ u v Q I rx ry (Or.inr (Or.inl ⟨p, xs, i, v', rfl, rfl, h1, h2, q⟩)) hs
  case str.int z i =>
    obtain ⟨h1, c, h2, q⟩ := h
    exact ix_seq ea eb pins s σ H _ _ u v Q I rx ry (Or.inr (Or.inr ⟨z, i, c, rfl, rfl, h1, h2, q⟩)) hs
/-- x[lo:hi] -/
def uSl (K : PySem.W.Frag) : V → Option Int → Option Int → Hp → VK → Prop := fun x lo hi H Q => match x with
  | .ref a => (∃ xs, SqL K H a xs ∧ ∀ p, H p = none → Q (.ref p) (upd H p (.lst (cutV xs lo hi)))) ∨ rSlT K (.ref a) lo hi H Q
  | .str z => z.length ≤ sizeLine ∧ Q (.str (cutS z lo hi)) H
  | _ => False
theorem sl_u0 : SlR X (uSl X.K) := by
  intro pins s σ H x v vl vu lo hi sl Q I rx hs pl pu h
  cases x <;> first | exact False.elim h | skip
  case ref a =>
    rcases h with ⟨xs, h1, h2⟩ | h
    · exact sl_list pins s σ H _ v vl vu lo hi sl Q I rx hs pl pu ⟨a, xs, rfl, h1, h2⟩
    · exact sl_tup pins s σ H _ v vl vu lo hi sl Q I rx hs pl pu h
  case str z => exact sl_str pins s σ H _ v vl vu lo hi sl Q I rx hs pl pu ⟨z, rfl, h.1, h.2⟩
/-- len(x) -/
def uLen (K : PySem.W.Frag) : List V → Hp → VK → Prop := fun xs H Q => match xs with
  | [.str z] => z.length ≤ sizeLine ∧ Q (.int z.length) H
  | [.ref p] => (∃ ys, (SqL K H p ys ∨ SqT K H p ys) ∧ Q (.int ys.length) H) ∨ ∃ kvs, H p = some (.dK kvs) ∧ Q (.int kvs.length) H
  | _ => False
theorem call_uLen0 : CallR X (.builtin "len") (uLen X.K) := by
  intro pins s σ H xs us Q I r h
  match xs, h with
  | [.str z], h => exact call_len_str pins s σ H _ us Q I r ⟨z, rfl, h.1, h.2⟩
  | [.ref p], h =>
    rcases h with ⟨ys, h1, h2⟩ | ⟨kvs, h1, h2⟩
    · exact call_len_seq pins s σ H _ us Q I r ⟨p, ys, rfl, h1, h2⟩
    · exact call_lenD pins s σ H _ us Q I r ⟨p, kvs, rfl, h1, h2⟩
/-- int(x) -/
def uInt : List V → Hp → VK → Prop := fun xs H Q => match xs with
  | [.int i] => Q (.int i) H
  | [.bl k] => Q (.int (if k then 1 else 0)) H
  | [.str a] => ∃ n, PySem.intText? a = some n ∧ a.length ≤ 640 ∧ Q (.int n) H
  | _ => False
theorem call_uInt : CallR X (.type "int") uInt := by
  intro pins s σ H xs us Q I r h
  match xs, h with
  | [.int i], h => exact call_int1 pins s σ H _ us Q I r (Or.inl ⟨i, rfl, h⟩)
  | [.bl k], h => exact call_int1 pins s σ H _ us Q I r (Or.inr ⟨k, rfl, h⟩)
  | [.str a], ⟨n, h1, h2, q⟩ => exact call_int_str pins s σ H _ us Q I r ⟨a, n, rfl, h1, h2, q⟩
/-- str(x) -/
def uStr : List V → Hp → VK → Prop := fun xs H Q => match xs with
  | [.int i] => i.natAbs.log2 < 1920 ∧ Q (.str (toString i)) H
  | [.str a] => Q (.str a) H
  | _ => False
theorem call_uStr : CallR X (.type "str") uStr := by
  intro pins s σ H xs us Q I r h
  match xs, h with
  | [.int i], h => exact call_str_int pins s σ H _ us Q I r ⟨i, rfl, h.1, h.2⟩
  | [.str a], h => exact SkE.call_str_str pins s σ H _ us Q I r ⟨a, rfl, h⟩
/-- tuple(x), list(x) -/
def uTupC (K : PySem.W.Frag) : List V → Hp → VK → Prop := fun xs H Q => match xs with
  | [.ref p] => (∃ ys, SqL K H p ys ∧ ∀ l, H l = none → Q (.ref l) (upd H l (.tup ys))) ∨ (∃ ys, SqT K H p ys ∧ Q (.ref p) H)
  | _ => False
theorem call_uTuple0 : CallR X (.type "tuple") (uTupC X.K) := by
  intro pins s σ H xs us Q I r h
  match xs, h with
  | [.ref p], h =>
    rcases h with ⟨ys, h1, h2⟩ | ⟨ys, h1, h2⟩
    · exact call_tuple_of pins s σ H _ us Q I r ⟨p, ys, rfl, Or.inl ⟨h1, h2⟩⟩
    · exact call_tuple_of pins s σ H _ us Q I r ⟨p, ys, rfl, Or.inr ⟨h1, h2⟩⟩
def uLstC (K : PySem.W.Frag) : List V → Hp → VK → Prop := fun xs H Q => match xs with
  | [.ref p] => ∃ ys, (SqL K H p ys ∨ SqT K H p ys) ∧ ∀ l, H l = none → Q (.ref l) (upd H l (.lst ys))
  | _ => False
theorem call_uList0 : CallR X (.type "list") (uLstC X.K) := by
  intro pins s σ H xs us Q I r h
  match xs, h with
  | [.ref p], ⟨ys, h1, h2⟩ => exact call_list_of pins s σ H _ us Q I r ⟨p, ys, rfl, h1, h2⟩
/-- abs(i) -/
def uAbs : List V → Hp → VK → Prop := fun xs H Q => match xs with
  | [.int i] => Q (.int (if i < 0 then -i else i)) H
  | _ => False
theorem call_uAbs : CallR X (.builtin "abs") uAbs := by
  intro pins s σ H xs us Q I r h
  match xs, h with
  | [.int i], h => exact call_abs pins s σ H _ us Q I r ⟨i, rfl, h⟩
/-- min(i, j), max(i, j) -/
def uMM (f : Int → Int → Int) : List V → Hp → VK → Prop := fun xs H Q => match xs with
  | [.int i, .int j] => Q (.int (f i j)) H
  | _ => False
theorem call_uMin (hc : X.calm = true) : CallR X (.builtin "min") (uMM fun i j => if j < i then j else i) := by
  intro pins s σ H xs us Q I r h
  match xs, h with
  | [.int i, .int j], h => exact call_min2 hc pins s σ H _ us Q I r ⟨i, j, rfl, h⟩
theorem call_uMax (hc : X.calm = true) : CallR X (.builtin "max") (uMM fun i j => if j > i then j else i) := by
  intro pins s σ H xs us Q I r h
  match xs, h with
  | [.int i, .int j], h => exact call_max2 hc pins s σ H _ us Q I r ⟨i, j, rfl, h⟩
end
section
variable {X : Cx} {K : PySem.W.Frag}
/-! the same, K named: within a comprehension -/
theorem op_uAdd (hK : X.K = K) : OpR X (binaryOp .Add) (uAdd K) := by subst hK; exact op_uAdd0
theorem ix_u (hK : X.K = K) : IxR X (uIx K) := by subst hK; exact ix_u0
theorem sl_u (hK : X.K = K) : SlR X (uSl K) := by subst hK; exact sl_u0
theorem call_uLen (hK : X.K = K) : CallR X (.builtin "len") (uLen K) := by subst hK; exact call_uLen0
theorem op_uEq (hK : X.K = K) (hu : X.A.units + 64 < cLine) : OpR X (compareOp .Eq) (uEq K false) := by subst hK; exact op_uEq0 hu
theorem op_uNe (hK : X.K = K) (hu : X.A.units + 64 < cLine) : OpR X (compareOp .NotEq) (uEq K true) := by subst hK; exact op_uNe0 hu
theorem op_uIn (hK : X.K = K) : OpR X (compareOp .In) (rIn K false) := by subst hK; exact op_in_seq
theorem op_uNotIn (hK : X.K = K) : OpR X (compareOp .NotIn) (rIn K true) := by subst hK; exact op_notIn_seq
theorem call_uAll (hK : X.K = K) (hc : X.calm = true) : CallR X (.builtin "all") (rAll K) := by subst hK; exact cr_all hc
theorem call_uAny (hK : X.K = K) (hc : X.calm = true) : CallR X (.builtin "any") (rAny K) := by subst hK; exact cr_any hc
theorem call_uSum (hK : X.K = K) (hc : X.calm = true) : CallR X (.builtin "sum") (rSum K) := by subst hK; exact cr_sum hc
theorem call_uTuple (hK : X.K = K) : CallR X (.type "tuple") (uTupC K) := by subst hK; exact call_uTuple0
theorem call_uList (hK : X.K = K) : CallR X (.type "list") (uLstC K) := by subst hK; exact call_uList0
theorem call_uIsi (hK : X.K = K) : CallR X (.builtin "isinstance") (rIsi K) := by subst hK; exact call_isi
theorem u_fld {e : Expr} {ta : TE} {f : Str} {pos : Pos} (hK : X.K = K) (he : PE X e ta) (hb : attributeBase e f X.env (eval e X.env) = eval e X.env) : PE X (.Attribute e f pos) (tFld K ta f) := by subst hK; exact pe_fld he hb
theorem u_list {tg l : Expr} {tl : TE} (hK : X.K = K) (hl : PE X l tl) : PI X tg l (iList K tl) := by subst hK; exact pi_list hl
theorem u_tup {tg l : Expr} {tl : TE} (hK : X.K = K) (hl : PE X l tl) : PI X tg l (iTup K tl) := by subst hK; exact pi_tup hl
theorem u_gtup {es : List Expr} {k : Nat} {t : TGs} {n : Nat} {pos : Pos} (hK : X.K = K) (hc : X.calm = true) (h : PGs X es t) (hn : (assignEach es X.env).length = n := by rfl) (hst : (assignEach es X.env).findIdx? (·.1) = none := by rfl) : PG X (.Tuple es k pos) (gTup K n t) := by subst hK; exact pg_tup hc h hn hst
end
/-! ### heaps -/
theorem same_new {H : Hp} {p : Addr} {o : HO} (h : H p = none) : Same H (upd H p o) := fun a u e => by
  rw [upd_ne (ne_of_none e h)]
  exact e
theorem nb1 {H : Hp} {a b : Addr} {o : HO} (h : (upd H a o) b = none) : H b = none := by
  by_cases e : b = a
  · subst e; rw [upd_same] at h; cases h
  · rw [upd_ne e] at h; exact h
theorem nb2 {H : Hp} {a b : Addr} {o : HO} (h : (upd H a o) b = none) : b ≠ a := fun e => by
  subst e; rw [upd_same] at h; cases h
/-- all that was tracked stays, but what stands at p -/
def SB (p : Addr) (H H' : Hp) : Prop := ∀ b o, H b = some o → b ≠ p → H' b = some o
theorem SB.refl (p : Addr) (H : Hp) : SB p H H := fun _ _ h _ => h
theorem SB.trans {p : Addr} {H H1 H2 : Hp} (a : SB p H H1) (b : SB p H1 H2) : SB p H H2 := fun c o h n => b c o (a c o h n) n
theorem SB.of {p : Addr} {H H' : Hp} (a : Same H H') : SB p H H' := fun c o h _ => a c o h
theorem SB.new {p a : Addr} {H H' : Hp} {o : HO} (s : SB p H H') (h : H' a = none) : SB p H (L2.upd H' a o) := fun c u e n => same_new h c u (s c u e n)
theorem SB.mut {p a : Addr} {H H' : Hp} {o : HO} (s : SB p H H') (h : H a = none) : SB p H (L2.upd H' a o) := fun c u e n => by
  rw [upd_ne (ne_of_none e h)]
  exact s c u e n
theorem SB.upd {p : Addr} {H : Hp} {o : HO} : SB p H (L2.upd H p o) := fun c u h n => by rw [L2.upd_ne n]; exact h
theorem SB.put {p : Addr} {H H' : Hp} {o : HO} (a : SB p H H') : SB p H (L2.upd H' p o) := fun c u h n => by rw [upd_ne n]; exact a c u h n
theorem get_same {H : Hp} {a : Addr} {o u : HO} (e : o = u) : (upd H a o) a = some u := by rw [upd_same, e]
theorem get_new {H : Hp} {p a : Addr} {o u : HO} (h : H p = none) (ha : H a = some u) : (upd H p o) a = some u := same_new h a u ha
theorem get_ne {H : Hp} {p a : Addr} {o : HO} {r : Option HO} (h : a ≠ p) (ha : H a = r) : (upd H p o) a = r := by rw [upd_ne h]; exact ha
/-! ### the reading's steps, each by its own lemma (goal on the right) -/
section
variable {σ : L2.St} {H : Hp} {Q : VK} {D : Ends} {K : PySem.W.Frag}
theorem g_var {i : Nat} {v : V} (h : σ[i]? = some (some v)) (q : Q v H) : tVar i σ H Q := ⟨v, h, q⟩
theorem g_c {v : V} (q : Q v H) : tC v σ H Q := q
theorem g_op {r : R2} {ta tb : TE} (q : ta σ H fun x H1 => tb σ H1 fun y H2 => r x y H2 Q) : tOp r ta tb σ H Q := q
theorem g_un {r : V → Hp → VK → Prop} {ta : TE} (q : ta σ H fun x H1 => r x H1 Q) : tUn r ta σ H Q := q
theorem g_nil {R : List V → Hp → Prop} (q : R [] H) : tNil σ H R := q
theorem g_cons {ta : TE} {t : TA} {R : List V → Hp → Prop} (q : ta σ H fun x H1 => t σ H1 fun xs H2 => R (x :: xs) H2) : tCons ta t σ H R := q
theorem g_cb {r : List V → Hp → VK → Prop} {t : TA} (q : t σ H fun vs H1 => r vs H1 Q) : tCB r t σ H Q := q
theorem g_call {sp : Sp} {dvs : List V} {E : XK} {t : TA} (q : t σ H fun vs H1 => sp (vs ++ dvs) H1 Q E) : tCall sp dvs E t σ H Q := q
theorem g_seq {t u : TS} (q : t { D with nx := u D } σ H) : tSeq t u D σ H := q
theorem g_next (q : D.nx σ H) : tNext D σ H := q
theorem g_asg {te : TE} {g : TG} (q : te σ H fun x H1 => g x σ H1 D.nx) : tAsg te g D σ H := q
theorem g_name {i : Nat} {v : V} {R : L2.St → Hp → Prop} (q : R (σ.set i (some v)) H) : gName i v σ H R := q
theorem g_ret {te : TE} (q : te σ H D.rt) : tRet te D σ H := q
theorem g_drop {te : TE} (q : te σ H fun _ H1 => D.nx σ H1) : tDrop te D σ H := q
theorem g_ifS {c : TT} {t u : TS} (q : c σ H fun b H1 => if b = true then t D σ H1 else u D σ H1) : tIfS c t u D σ H := q
theorem g_if {c : TT} {ta tb : TE} (q : c σ H fun b H1 => if b = true then ta σ H1 Q else tb σ H1 Q) : tIf c ta tb σ H Q := q
theorem g_test {t : TE} {R : Bool → Hp → Prop} (q : t σ H fun x H' => ∃ k, x = .bl k ∧ R k H') : tTest t σ H R := q
theorem g_B {t : TE} {R : Bool → Hp → Prop} (q : t σ H fun x H' => ∃ k, x = .bl k ∧ R k H') : tB t σ H R := q
theorem g_and {t u : TT} {R : Bool → Hp → Prop} (q : t σ H fun c H1 => if c = true then u σ H1 R else R false H1) : tAnd t u σ H R := q
theorem g_or {t u : TT} {R : Bool → Hp → Prop} (q : t σ H fun c H1 => if c = true then R true H1 else u σ H1 R) : tOr t u σ H R := q
theorem g_not {t : TT} {R : Bool → Hp → Prop} (q : t σ H fun c H1 => R (!c) H1) : tNot t σ H R := q
theorem g_andV {ta tb : TE} (q : ta σ H fun x H1 => ∃ c, x = .bl c ∧ if c = true then tb σ H1 Q else Q (.bl false) H1) : tAndV ta tb σ H Q := q
theorem g_orV {ta tb : TE} (q : ta σ H fun x H1 => ∃ c, x = .bl c ∧ if c = true then Q (.bl true) H1 else tb σ H1 Q) : tOrV ta tb σ H Q := q
theorem g_notV {ta : TE} (q : ta σ H fun x H1 => ∃ c, x = .bl c ∧ Q (.bl (!c)) H1) : tNotV ta σ H Q := q
theorem g_addI {i j : Int} (q : Q (.int (i + j)) H) : uAdd K (.int i) (.int j) H Q := q
theorem g_addS {i j : Str} (h : i.length + j.length ≤ sizeLine) (q : Q (.str (i ++ j)) H) : uAdd K (.str i) (.str j) H Q := ⟨h, q⟩
theorem g_subI {i j : Int} (q : Q (.int (i - j)) H) : uSub (.int i) (.int j) H Q := q
theorem g_negI {i : Int} (q : Q (.int (-i)) H) : uNeg (.int i) H Q := q
theorem g_cmpI {p : Int → Int → Bool} {i j : Int} (q : Q (.bl (p i j)) H) : uCmp p (.int i) (.int j) H Q := q
theorem g_intI {i : Int} (q : Q (.int i) H) : uInt [.int i] H Q := q
theorem g_intB {k : Bool} (q : Q (.int (if k then 1 else 0)) H) : uInt [.bl k] H Q := q
theorem g_absI {i : Int} (q : Q (.int (if i < 0 then -i else i)) H) : uAbs [.int i] H Q := q
theorem g_mmI {f : Int → Int → Int} {i j : Int} (q : Q (.int (f i j)) H) : uMM f [.int i, .int j] H Q := q
theorem g_bl {b : Bool} {R : Bool → Hp → Prop} (q : R b H) : ∃ k, V.bl b = .bl k ∧ R k H := ⟨b, rfl, q⟩
theorem g_blP {b : Bool} {R : Bool → Prop} (q : R b) : ∃ k, V.bl b = .bl k ∧ R k := ⟨b, rfl, q⟩
theorem g_eqS {x y : V} {n : Bool} (h : scal x y = true) (q : Q (.bl (if n then !decide (x = y) else decide (x = y))) H) : uEq K n x y H Q := Or.inl ⟨h, q⟩
theorem g_modI {i j : Int} (h : 0 < j) (q : Q (.int (i % j)) H) : uMod (.int i) (.int j) H Q := ⟨h, q⟩
theorem g_divI {i j : Int} (h : CDivW i j) (q : Q (.int (i / j)) H) : uDiv (.int i) (.int j) H Q := ⟨h, q⟩
theorem g_mulI {i j : Int} (h : CMul i j ∨ CMulW i j) (q : Q (.int (i * j)) H) : uMul (.int i) (.int j) H Q := ⟨h, q⟩
theorem g_powI {i j : Int} (h : 0 ≤ j ∧ (Builtin.Int.intBits i : Int) * j ≤ 2 ^ 27) (q : Q (.int (i ^ j.toNat)) H) : uPow (.int i) (.int j) H Q := ⟨h, q⟩
theorem g_ix {p : Addr} {xs : List V} {i : Int} {v : V} (h1 : SqL K H p xs ∨ SqT K H p xs) (h2 : atI xs i = some v) (q : Q v H) : uIx K (.ref p) (.int i) H Q := ⟨xs, v, h1, h2, q⟩
theorem g_lst {ta : TA} (q : ta σ H fun xs H1 => xs.length ≤ sizeLine ∧ ∀ p, H1 p = none → Q (.ref p) (upd H1 p (.lst xs))) : tLst ta σ H Q := q
theorem g_tup {ta : TA} (q : ta σ H fun xs H1 => xs.length ≤ sizeLine ∧ ∀ p, H1 p = none → Q (.ref p) (upd H1 p (.tup xs))) : tTup ta σ H Q := q
theorem g_sub {to ti : TE} {t : TSet} {v : V} {R : L2.St → Hp → Prop} (q : to σ H fun o H1 => ti σ H1 fun i H2 => t o i v H2 fun H3 => R σ H3) : gSub to ti t v σ H R := q
theorem g_setL {p : Addr} {xs : List V} {k : Int} {j : Nat} {v : V} {R : Hp → Prop} (h : H p = some (.lst xs)) (e : ixN xs.length k = some j) (q : R (upd H p (.lst (xs.set j v)))) : rSetL (.ref p) (.int k) v H R := ⟨p, xs, k, j, rfl, rfl, h, e, q⟩
theorem g_ixS {z : Str} {i : Int} {c : Nat} (h : z.length ≤ sizeLine) (e : atI z.cps.toList i = some c) (q : Q (.str ⟨#[c]⟩) H) : uIx K (.str z) (.int i) H Q := ⟨h, c, e, q⟩
theorem g_T {A B : Prop} (h : A) : if true = true then A else B := iteT h
theorem g_F {A B : Prop} (h : B) : if false = true then A else B := iteF h
theorem g_nT {A B : Prop} (h : B) : if (!true) = true then A else B := iteF h
theorem g_nF {A B : Prop} (h : A) : if (!false) = true then A else B := iteT h
theorem g_2 {b : Bool} {A B : Prop} (h1 : b = true → A) (h2 : b = false → B) : if b = true then A else B := by
  cases b with
  | true => exact iteT (h1 rfl)
  | false => exact iteF (h2 rfl)
theorem intBits_le {i : Int} {n : Nat} (h : i.natAbs < 2 ^ n) : Builtin.Int.intBits i ≤ n := by
  unfold Builtin.Int.intBits
  split
  · exact Nat.zero_le _
  · rename_i hn
    have h0 : i.natAbs ≠ 0 := fun z => hn (by simp [Int.natAbs_eq_zero.mp z])
    exact (Nat.log2_lt h0).mpr h
theorem g_pow3 {i : Int} (h0 : 0 ≤ i) (h : i < 2 ^ 100) (q : Q (.int (i ^ (3 : Int).toNat)) H) : uPow (.int i) (.int 3) H Q := by
  refine ⟨⟨by decide, ?_⟩, q⟩
  have z : Builtin.Int.intBits i ≤ 100 := intBits_le (by omega)
  have : ((Builtin.Int.intBits i : Nat) : Int) ≤ 100 := by exact_mod_cast z
  omega
theorem g_ix5 {p : Addr} {a b c d e k : Int} (h : SqL K H p [.int a, .int b, .int c, .int d, .int e]) (ha : ∀ v ∈ [a, b, c, d, e], (0 : Int) < v ∧ v < 2 ^ 32) (h0 : 0 ≤ k) (h5 : k < 5) (q : ∀ v : Int, 0 < v → v < 2 ^ 32 → Q (.int v) H) : uIx K (.ref p) (.int k) H Q := by
  have : k = 0 ∨ k = 1 ∨ k = 2 ∨ k = 3 ∨ k = 4 := by omega
  rcases this with rfl | rfl | rfl | rfl | rfl
  · exact g_ix (Or.inl h) rfl (q _ (ha a (by simp)).1 (ha a (by simp)).2)
  · exact g_ix (Or.inl h) rfl (q _ (ha b (by simp)).1 (ha b (by simp)).2)
  · exact g_ix (Or.inl h) rfl (q _ (ha c (by simp)).1 (ha c (by simp)).2)
  · exact g_ix (Or.inl h) rfl (q _ (ha d (by simp)).1 (ha d (by simp)).2)
  · exact g_ix (Or.inl h) rfl (q _ (ha e (by simp)).1 (ha e (by simp)).2)
theorem bnd_ckk {C k : Int} (h0 : 0 ≤ C) (h1 : C ≤ 2 ^ 20) (k0 : 0 ≤ k) (k1 : k ≤ 2 ^ 20) : 0 ≤ C * k * k ∧ C * k * k ≤ 2 ^ 60 := by
  have a1 : 0 ≤ C * k := Int.mul_nonneg h0 k0
  have a2 : C * k ≤ 2 ^ 20 * 2 ^ 20 := Int.mul_le_mul h1 k1 k0 (by decide)
  refine ⟨Int.mul_nonneg a1 k0, ?_⟩
  have a3 : C * k * k ≤ 2 ^ 20 * 2 ^ 20 * 2 ^ 20 := Int.mul_le_mul a2 k1 k0 (by decide)
  exact a3
theorem g_powB {s C k e : Int} (s0 : 0 ≤ s) (s1 : s < 2 ^ 61) (c0 : 0 ≤ C) (c1 : C ≤ 2 ^ 20) (k0 : 0 ≤ k) (k1 : k ≤ 2 ^ 20) (e0 : 0 ≤ e) (e1 : e ≤ 2 ^ 20) (q : Q (.int ((s + C * k * k + e) ^ (3 : Int).toNat)) H) : uPow (.int (s + C * k * k + e)) (.int 3) H Q := by
  obtain ⟨b0, b1⟩ := bnd_ckk c0 c1 k0 k1
  exact g_pow3 (by omega) (by omega) q
theorem at_nat {α : Type} {xs : List α} {z : Int} {j : Nat} {v : α} (e : z = (j : Int)) (h : xs[j]? = some v) : atI xs z = some v := by
  rw [e]
  exact atI_nat h
theorem g_mulB {i : Int} {b : Bool} (q : Q (.int (i * (if b = true then 1 else 0))) H) : uMul (.int i) (.int (if b = true then 1 else 0)) H Q := ⟨Or.inl (Or.inr (by cases b <;> decide)), q⟩
theorem g_powL {i j : Int} (h : decide (0 ≤ j ∧ (Builtin.Int.intBits i : Int) * j ≤ 2 ^ 27) = true) (q : Q (.int (i ^ j.toNat)) H) : uPow (.int i) (.int j) H Q := ⟨of_decide_eq_true h, q⟩
theorem g_modL {i j : Int} (h : decide (0 < j) = true) (q : Q (.int (i % j)) H) : uMod (.int i) (.int j) H Q := ⟨of_decide_eq_true h, q⟩
theorem g_sum {p : Addr} {ns : List Int} (h : SqL K H p (ns.map V.int)) (q : Q (.int ns.sum) H) : rSum K [.ref p] H Q := ⟨p, ns, rfl, h, q⟩
theorem mulB_bd {x : Int} {b : Bool} {M : Int} (h0 : 0 ≤ x) (h1 : x < M) : 0 ≤ x * (if b = true then 1 else 0) ∧ x * (if b = true then 1 else 0) < M := by
  cases b
  · simp; omega
  · simp; omega
theorem cut1 (ns : List Int) : cutV (ns.map V.int) none (some 1) = (ns.take 1).map V.int := by
  cases ns <;> rfl
theorem g_cut {t : TE} (P : V → Hp → Prop) (h1 : ∀ R : VK, (∀ v H1, P v H1 → R v H1) → t σ H R) (h2 : ∀ v H1, P v H1 → Q v H1) : t σ H Q := h1 Q h2
theorem g_cutS {t : TS} (M : L2.St → Hp → Prop) (h1 : ∀ N : L2.St → Hp → Prop, (∀ σ' H', M σ' H' → N σ' H') → t { D with nx := N } σ H) (h2 : ∀ σ' H', M σ' H' → D.nx σ' H') : t D σ H := h1 D.nx h2
theorem g_lrg {te : L2.St → Hp → (Int → Int → Hp → Prop) → Prop} (q : te σ H fun a b H1 => RgOk a b ∧ ∀ q, H1 q = none → Q (.ref q) (upd H1 q (.lst (rgV a b)))) : tLstRg te σ H Q := q
theorem g_rg1 {ta : TE} {R : Int → Int → Hp → Prop} (q : ta σ H fun x H1 => ∃ n, x = .int n ∧ R 0 n H1) : tRg1 ta σ H R := q
theorem g_intE {i : Int} {R : Int → Prop} (q : R i) : ∃ n, V.int i = .int n ∧ R n := ⟨i, rfl, q⟩
theorem g_sl {r : V → Option Int → Option Int → Hp → VK → Prop} {te : TE} {tl th : TO} (q : te σ H fun x H1 => tl σ H1 fun l H2 => th σ H2 fun u H3 => r x l u H3 Q) : tSl r te tl th σ H Q := q
theorem g_noP {R : Option Int → Hp → Prop} (q : R none H) : tNoPart σ H R := q
theorem g_part {t : TE} {R : Option Int → Hp → Prop} (q : t σ H fun x H1 => ∃ i, x = .int i ∧ R (some i) H1) : tPart t σ H R := q
theorem g_slL {a : Addr} {xs : List V} {lo hi : Option Int} (h : SqL K H a xs) (q : ∀ p, H p = none → Q (.ref p) (upd H p (.lst (cutV xs lo hi)))) : uSl K (.ref a) lo hi H Q := Or.inl ⟨xs, h, q⟩
theorem g_slS {z : Str} {lo hi : Option Int} (h : z.length ≤ sizeLine) (q : Q (.str (cutS z lo hi)) H) : uSl K (.str z) lo hi H Q := ⟨h, q⟩
theorem log2_small {i : Int} (h : -(2 ^ 64) < i) (h' : i < 2 ^ 64) : i.natAbs.log2 < 1920 := by
  by_cases h0 : i.natAbs = 0
  · rw [h0]; decide
  · exact Nat.lt_of_lt_of_le ((Nat.log2_lt h0).mpr (show i.natAbs < 2 ^ 64 by omega)) (by decide)
theorem g_strI {i : Int} (h : -(2 ^ 64) < i ∧ i < 2 ^ 64) (q : Q (.str (toString i)) H) : uStr [.int i] H Q := ⟨log2_small h.1 h.2, q⟩
theorem g_strS {a : Str} (q : Q (.str a) H) : uStr [.str a] H Q := q
theorem g_mulL {i j : Int} (h : -(2 ^ 64) < i ∧ i < 2 ^ 64) (q : Q (.int (i * j)) H) : uMul (.int i) (.int j) H Q := ⟨Or.inl (Or.inl h), q⟩
theorem g_mulR {i j : Int} (h : -(2 ^ 64) < j ∧ j < 2 ^ 64) (q : Q (.int (i * j)) H) : uMul (.int i) (.int j) H Q := ⟨Or.inl (Or.inr h), q⟩
theorem g_divP {i j : Int} (h0 : 0 < j) (h1 : j < 2 ^ 62) (q : Q (.int (i / j)) H) : uDiv (.int i) (.int j) H Q := ⟨wide_div h0 (b := 62) (by omega) (by decide) (by decide), q⟩
theorem g_tupL {p : Addr} {ys : List V} (h : SqL K H p ys) (q : ∀ l, H l = none → Q (.ref l) (upd H l (.tup ys))) : uTupC K [.ref p] H Q := Or.inl ⟨ys, h, q⟩
theorem g_tupT {p : Addr} {ys : List V} (h : SqT K H p ys) (q : Q (.ref p) H) : uTupC K [.ref p] H Q := Or.inr ⟨ys, h, q⟩
theorem g_lstC {p : Addr} {ys : List V} (h : SqL K H p ys ∨ SqT K H p ys) (q : ∀ l, H l = none → Q (.ref l) (upd H l (.lst ys))) : uLstC K [.ref p] H Q := ⟨ys, h, q⟩
theorem g_allB {p : Addr} {bs : List Bool} (h : SqL K H p (bs.map V.bl)) (q : Q (.bl (bs.all id)) H) : rAll K [.ref p] H Q := ⟨p, bs, rfl, h, q⟩
theorem g_lenL {p : Addr} {ys : List V} (h : SqL K H p ys ∨ SqT K H p ys) (q : Q (.int ys.length) H) : uLen K [.ref p] H Q := Or.inl ⟨ys, h, q⟩
theorem g_lenS {z : Str} (h : z.length ≤ sizeLine) (q : Q (.int z.length) H) : uLen K [.str z] H Q := ⟨h, q⟩
end
end U
namespace U
open PySem PySem.Spec PyProof.Rows L2
section
variable {σ : L2.St} {H : Hp} {Q : VK} {D : Ends} {K : PySem.W.Frag}
/-- one turn of a comprehension; acc: what was made so far, at E; A, B: what is to be reached with an item, without -/
def LcT (E : Addr) (n : Nat) (Y : Nat → Hp → V → Hp → Prop) (Pv : Nat → List V → Hp → Prop) (σ : L2.St) (vs : List Nat) (g : TG) (tt : TT) (te : TE) : Prop :=
  ∀ i x acc H' H'' (A : VK) (B : Hp → Prop), i < n → H' E = some (.lst acc) → Pv i acc H' → Y i H' x H'' →
    (∀ y H4, H4 E = some (.lst acc) → Pv (i + 1) (acc ++ [y]) (upd H4 E (.lst (acc ++ [y]))) → A y H4) → (∀ H3, H3 E = some (.lst acc) → Pv (i + 1) acc H3 → B H3) →
    g x (wipe σ vs) H'' fun σ2 H2 => wipe σ2 vs = wipe σ vs ∧ tt σ2 H2 fun b H3 => if b = true then te σ2 H3 A else B H3
theorem lc_gen {J : It} {n : Nat} {G : Hp → Prop} {Y : Nat → Hp → V → Hp → Prop} (w : Walk J n G Y) (hn : n ≤ 1000000) {g : TG} {tt : TT} {te : TE} {vs : List Nat} {H1 : Hp} {E : Addr} {Qd : Hp → Prop} (Pv : Nat → List V → Hp → Prop) (h0 : Pv 0 [] (upd H1 E (.lst []))) (hG : ∀ i acc H', i ≤ n → Pv i acc H' → G H')
    (hs : LcT E n Y Pv σ vs g tt te)
    (hd : ∀ acc H', H' E = some (.lst acc) → Pv n acc H' → Qd H') :
    ∃ W : Nat → Nat → Hp → Prop, (∃ m, W 0 m (upd H1 E (.lst []))) ∧ ∀ i m H, W i m H →
      (J.stop i H ∧ Qd H) ∨ (J.go i H ∧ ∃ Nx : Hp → Prop, (∀ H', Nx H' → ∃ m', m' < m ∧ W (i + 1) m' H') ∧ ∀ x H', J.yld i H x H' → g x (wipe σ vs) H' fun σ2 H2 => wipe σ2 vs = wipe σ vs ∧ tt σ2 H2 fun b H3 =>
        if b = true then te σ2 H3 fun y H4 => ∃ acc, H4 E = some (.lst acc) ∧ acc.length < sizeLine ∧ Nx (upd H4 E (.lst (acc ++ [y]))) else Nx H3) := by
  refine lc_it w (fun i H' => ∃ acc, H' E = some (.lst acc) ∧ acc.length ≤ i ∧ Pv i acc H') ⟨[], upd_same, Nat.le_refl _, h0⟩ (fun i H' hi ⟨acc, _, _, p⟩ => hG i acc H' hi p) (fun i x H' H'' hi ⟨acc, ha, hl, p⟩ y => ?_) fun H' ⟨acc, ha, _, p⟩ => hd acc H' ha p
  have h : (1000000 : Nat) < sizeLine := by decide
  refine hs i x acc H' H'' _ _ hi ha p y (fun v H4 q1 q2 => ⟨acc, q1, by omega, acc ++ [v], upd_same, by rw [List.length_append]; show acc.length + 1 ≤ i + 1; omega, q2⟩) fun H3 q1 q2 => ⟨acc, q1, by omega, q2⟩
/-- what a comprehension, a for asks of the thing that is walked -/
def lcI (σ : L2.St) (vs : List Nat) (g : TG) (tt : TT) (te : TE) (Q : VK) (J : It) (H1 : Hp) : Prop := ∀ E, H1 E = none → ∃ W : Nat → Nat → Hp → Prop, (∃ m, W 0 m (upd H1 E (.lst []))) ∧ ∀ i m H, W i m H → (J.stop i H ∧ Q (.ref E) H) ∨ (J.go i H ∧ ∃ Nx : Hp → Prop, (∀ H', Nx H' → ∃ m', m' < m ∧ W (i + 1) m' H') ∧ ∀ x H', J.yld i H x H' → g x (wipe σ vs) H' fun σ2 H2 => wipe σ2 vs = wipe σ vs ∧ tt σ2 H2 fun b H3 => if b = true then te σ2 H3 fun y H4 => ∃ acc, H4 E = some (.lst acc) ∧ acc.length < sizeLine ∧ Nx (upd H4 E (.lst (acc ++ [y]))) else Nx H3)
def forI (σ : L2.St) (g : TG) (tb : TS) (D : Ends) (J : It) (H1 : Hp) : Prop := ∃ W : Nat → Nat → L2.St → Hp → Prop, (∃ m, W 0 m σ H1) ∧ ∀ i m σ H, W i m σ H → (J.stop i H ∧ D.nx σ H) ∨ (J.go i H ∧ ∃ N : L2.St → Hp → Prop, (∀ σ' H', N σ' H' → ∃ m', m' < m ∧ W (i + 1) m' σ' H') ∧ ∀ x H', J.yld i H x H' → g x σ H' fun σ2 H2 => tb { D with nx := N, ct := N, bk := D.nx } σ2 H2)
section
variable {g : TG} {tt : TT} {te tl : TE} {ta : TA} {tb : TS} {vs : List Nat} {wi : TI}
theorem g_lc (q : wi σ H fun J H1 => lcI σ vs g tt te Q J H1) : tLc wi g tt te vs σ H Q := q
theorem g_for (q : wi σ H fun J H1 => forI σ g tb D J H1) : tFor wi g tb D σ H := q
/-- the shapes of walks -/
theorem g_iList {R : It → Hp → Prop} (q : tl σ H fun x H1 => ∃ a, x = .ref a ∧ (∃ xs, SqL K H1 a xs) ∧ R (Itl K a) H1) : iList K tl σ H R := q
theorem g_iTup {R : It → Hp → Prop} (q : tl σ H fun x H1 => ∃ a, x = .ref a ∧ (∃ xs, SqT K H1 a xs) ∧ R (Itt K a) H1) : iTup K tl σ H R := q
theorem g_iRng1 {R : It → Hp → Prop} (q : ta σ H fun vs H1 => ∃ j : Int, vs = [.int j] ∧ -(2 ^ 62) ≤ j ∧ j < 2 ^ 62 ∧ R (Itr 0 j.toNat) H1) : iRng1 ta σ H R := q
theorem g_iStr {R : It → Hp → Prop} (q : tl σ H fun v H1 => ∃ x, v = .str x ∧ R (Its x) H1) : iStr tl σ H R := q
theorem g_iEnum {R : It → Hp → Prop} (q : ta σ H fun vs H1 => ∃ a xs, vs = [.ref a] ∧ SqL K H1 a xs ∧ R (Ite K a) H1) : iEnum K ta σ H R := q
theorem g_iVals {R : It → Hp → Prop} (q : tl σ H fun x H1 => ∃ d o kvs, x = .ref d ∧ H1 d = some (.frz o (.dK kvs)) ∧ R (Itd d o kvs) H1) : iVals tl σ H R := q
theorem e_list {a : Addr} {xs : List V} {R : It → Hp → Prop} (h : SqL K H a xs) (q : R (Itl K a) H) : ∃ b, V.ref a = .ref b ∧ (∃ xs, SqL K H b xs) ∧ R (Itl K b) H := ⟨a, rfl, ⟨xs, h⟩, q⟩
theorem e_tup {a : Addr} {xs : List V} {R : It → Hp → Prop} (h : SqT K H a xs) (q : R (Itt K a) H) : ∃ b, V.ref a = .ref b ∧ (∃ xs, SqT K H b xs) ∧ R (Itt K b) H := ⟨a, rfl, ⟨xs, h⟩, q⟩
theorem e_rng {j : Int} {R : It → Hp → Prop} (h : j ≤ 1000000) (h0 : -1000000 ≤ j) (q : R (Itr 0 j.toNat) H) : ∃ i : Int, [V.int j] = [.int i] ∧ -(2 ^ 62) ≤ i ∧ i < 2 ^ 62 ∧ R (Itr 0 i.toNat) H := ⟨j, rfl, by omega, by omega, q⟩
theorem e_str {x : Str} {R : It → Hp → Prop} (q : R (Its x) H) : ∃ z, V.str x = .str z ∧ R (Its z) H := ⟨x, rfl, q⟩
theorem e_enum {a : Addr} {xs : List V} {R : It → Hp → Prop} (h : SqL K H a xs) (q : R (Ite K a) H) : ∃ b ys, [V.ref a] = [.ref b] ∧ SqL K H b ys ∧ R (Ite K b) H := ⟨a, xs, rfl, h, q⟩
theorem e_vals {d : Addr} {o : Obj} {kvs : List (Key × V)} {R : It → Hp → Prop} (h : H d = some (.frz o (.dK kvs))) (q : R (Itd d o kvs) H) : ∃ d' o' kvs', V.ref d = .ref d' ∧ H d' = some (.frz o' (.dK kvs')) ∧ R (Itd d' o' kvs') H := ⟨d, o, kvs, rfl, h, q⟩
/-- a comprehension, a for, over any walk -/
theorem lcI_by {J : It} {n : Nat} {G : Hp → Prop} {Y : Nat → Hp → V → Hp → Prop} (w : Walk J n G Y) (hn : n ≤ 1000000) (h : ∀ E, H E = none → ∃ Pv, Pv 0 [] (upd H E (.lst [])) ∧ (∀ i acc H', i ≤ n → Pv i acc H' → G H') ∧ LcT E n Y Pv σ vs g tt te ∧ ∀ acc H', H' E = some (.lst acc) → Pv n acc H' → Q (.ref E) H') : lcI σ vs g tt te Q J H := fun E hE =>
  let ⟨Pv, p0, p1, p2, p3⟩ := h E hE
  lc_gen w hn Pv p0 p1 p2 p3
theorem forI_by {J : It} {n : Nat} {G : Hp → Prop} {Y : Nat → Hp → V → Hp → Prop} (w : Walk J n G Y) (Pv : Nat → L2.St → Hp → Prop) (h0 : Pv 0 σ H) (hG : ∀ i σ H, i ≤ n → Pv i σ H → G H)
    (hs : ∀ i x σ H H', i < n → Pv i σ H → Y i H x H' → g x σ H' fun σ2 H2 => tb { D with nx := Pv (i + 1), ct := Pv (i + 1), bk := D.nx } σ2 H2) (hd : ∀ σ H, Pv n σ H → D.nx σ H) : forI σ g tb D J H := for_it w Pv h0 hG hs hd
end
theorem same_mut {H H' : Hp} {a : Addr} {o : HO} (s : Same H H') (h : H a = none) : Same H (upd H' a o) := fun c u e => by
  rw [upd_ne (ne_of_none e h)]
  exact s c u e
/-- a comprehension that leaves all that stood: f tells what turn i gives -/
theorem lcI_same {g : TG} {tt : TT} {te : TE} {vs : List Nat} {J : It} {n : Nat} {G : Hp → Prop} {Y : Nat → Hp → V → Hp → Prop} (w : Walk J n G Y) (hn : n ≤ 1000000) (f : Nat → Option V) (hG : ∀ H', Same H H' → G H') (hY : ∀ i H' x H'', Y i H' x H'' → Same H' H'')
    (turn : ∀ i x H' H'' (A : VK) (B : Hp → Prop), i < n → Same H H' → Y i H' x H'' → (∀ y H4, f i = some y → Same H'' H4 → A y H4) → (f i = none → ∀ H3, Same H'' H3 → B H3) →
      g x (wipe σ vs) H'' fun σ2 H2 => wipe σ2 vs = wipe σ vs ∧ tt σ2 H2 fun b H3 => if b = true then te σ2 H3 A else B H3)
    (k : ∀ E H', H E = none → Same H H' → H' E = some (.lst ((List.range n).filterMap f)) → Q (.ref E) H') : lcI σ vs g tt te Q J H := by
  refine lcI_by w hn fun E hE => ⟨fun i acc H' => Same H H' ∧ acc = (List.range i).filterMap f, ⟨same_new hE, rfl⟩, fun i acc H' _ p => hG H' p.1, ?_, fun acc H' ha ⟨s, e⟩ => k E H' hE s (by rw [ha, e])⟩
  intro i x acc H' H'' A B hi ha ⟨s, e⟩ y kA kB
  have s' := hY i H' x H'' y
  refine turn i x H' H'' A B hi s y (fun v H4 ev s4 => kA v H4 (s4 _ _ (s' _ _ ha)) ⟨same_mut (s.trans (s'.trans s4)) hE, ?_⟩) fun en H3 s3 => kB H3 (s3 _ _ (s' _ _ ha)) ⟨s.trans (s'.trans s3), ?_⟩
  · rw [List.range_succ, List.filterMap_append, ← e]
    simp [ev]
  · rw [List.range_succ, List.filterMap_append, ← e]
    simp [en]
theorem range_fm {α β : Type} (h : α → Option β) : ∀ xs : List α, (List.range xs.length).filterMap (fun i => (xs[i]?).bind h) = xs.filterMap h := by
  intro xs
  induction xs with
  | nil => rfl
  | cons a r ih =>
    rw [List.length_cons, List.range_succ_eq_map, List.filterMap_cons, List.filterMap_map, List.filterMap_cons]
    have e : ((fun i => ((a :: r)[i]?).bind h) ∘ Nat.succ) = fun i => (r[i]?).bind h := by funext i; simp
    rw [e, ih]
    rfl
/-- .. over a list: h tells what an item gives -/
theorem lcI_list {g : TG} {tt : TT} {te : TE} {vs : List Nat} {a : Addr} {xs : List V} (hx : SqL K H a xs) (hn : xs.length ≤ 1000000) (h : V → Option V)
    (turn : ∀ x H' (A : VK) (B : Hp → Prop), x ∈ xs → Same H H' → (∀ y H4, h x = some y → Same H' H4 → A y H4) → (h x = none → ∀ H3, Same H' H3 → B H3) →
      g x (wipe σ vs) H' fun σ2 H2 => wipe σ2 vs = wipe σ vs ∧ tt σ2 H2 fun b H3 => if b = true then te σ2 H3 A else B H3)
    (k : ∀ E H', H E = none → Same H H' → H' E = some (.lst (xs.filterMap h)) → Q (.ref E) H') : lcI σ vs g tt te Q (Itl K a) H := by
  refine lcI_same walk_list hn (fun i => (xs[i]?).bind h) (fun H' s => s.seq hx) (fun i H' x H'' y => by rw [y.1]; exact Same.refl _) (fun i x H' H'' A B hi s y kA kB => ?_) fun E H' e s q => k E H' e s (by rw [q, range_fm])
  obtain ⟨rfl, ex⟩ := y
  exact turn x H'' A B (List.mem_of_getElem? ex) s (fun v H4 ev s4 => kA v H4 (by rw [ex]; exact ev) s4) fun en H3 s3 => kB (by rw [ex]; exact en) H3 s3
/-- .. over range(j) -/
theorem lcI_rng {g : TG} {tt : TT} {te : TE} {vs : List Nat} {n : Nat} (hn : n ≤ 1000000) (f : Nat → Option V)
    (turn : ∀ i H' (A : VK) (B : Hp → Prop), i < n → Same H H' → (∀ y H4, f i = some y → Same H' H4 → A y H4) → (f i = none → ∀ H3, Same H' H3 → B H3) →
      g (.int (i : Int)) (wipe σ vs) H' fun σ2 H2 => wipe σ2 vs = wipe σ vs ∧ tt σ2 H2 fun b H3 => if b = true then te σ2 H3 A else B H3)
    (k : ∀ E H', H E = none → Same H H' → H' E = some (.lst ((List.range n).filterMap f)) → Q (.ref E) H') : lcI σ vs g tt te Q (Itr 0 n) H := by
  refine lcI_same walk_range hn f (fun _ _ => trivial) (fun i H' x H'' y => by rw [y.1]; exact Same.refl _) (fun i x H' H'' A B hi s y kA kB => ?_) k
  obtain ⟨rfl, rfl⟩ := y
  dsimp only
  rw [Int.zero_add]
  exact turn i H'' A B hi s kA kB
theorem g_cont (q : D.ct σ H) : tCont D σ H := q
theorem g_yes {R : Bool → Hp → Prop} (q : R true H) : tYes σ H R := q
/-! ### dicts, methods of lists and texts -/
section
variable {ty td tv to te tx : TE} {t : TA} {tt : TT}
theorem g_dnotin (q : ty σ H fun y H1 => td σ H1 fun x H2 => ∃ a o, x = .ref a ∧ DGet H2 a y o ∧ Q (.bl (!o.isSome)) H2) : tDNotIn ty td σ H Q := q
theorem g_din (q : ty σ H fun y H1 => td σ H1 fun x H2 => ∃ a o, x = .ref a ∧ DGet H2 a y o ∧ Q (.bl o.isSome) H2) : tDIn ty td σ H Q := q
theorem g_dget (q : td σ H fun x H1 => ty σ H1 fun y H2 => ∃ a v, x = .ref a ∧ DGet H2 a y (some v) ∧ Q v H2) : tDGet td ty σ H Q := q
theorem g_dput (q : tv σ H fun v H1 => td σ H1 fun x H2 => ty σ H2 fun y H3 => ∃ a H4, x = .ref a ∧ DPut H3 a y v H4 ∧ D.nx σ H4) : sDPut td ty tv D σ H := q
theorem g_bm {T : String} {r : V → List V → Hp → VK → Prop} (q : to σ H fun x H1 => tyV K T x H1 ∧ t σ H1 fun xs H2 => r x xs H2 Q) : tBM K T r to t σ H Q := q
theorem g_bm0 {T : String} {r : V → List V → Hp → VK → Prop} (q : to σ H fun x H1 => tyV K T x H1 ∧ r x [] H1 Q) : tBM0 K T r to σ H Q := q
theorem g_gtup {n : Nat} {g : TGs} {a : Addr} {xs : List V} {R : L2.St → Hp → Prop} (h : SqT K H a xs) (e : xs.length = n) (q : g xs σ H R) : gTup K n g (.ref a) σ H R := ⟨a, xs, rfl, h, e, q⟩
theorem g_gcons {g : TG} {u : TGs} {v : V} {r : List V} {R : L2.St → Hp → Prop} (q : g v σ H fun σ' H' => u r σ' H' R) : gCons g u (v :: r) σ H R := ⟨v, r, rfl, q⟩
theorem g_gnil {R : L2.St → Hp → Prop} (q : R σ H) : gNil [] σ H R := ⟨rfl, q⟩
theorem g_par {i j : Nat} {ta : TA} (q : ta σ H fun vs H1 => ∃ v w, vs = [v, w] ∧ D.nx ((σ.set i (some v)).set j (some w)) H1) : tPar i j ta D σ H := q
theorem e_two {v w : V} {R : V → V → Prop} (q : R v w) : ∃ x y, [v, w] = [x, y] ∧ R x y := ⟨v, w, rfl, q⟩
theorem g_disp {trs : List (TE × TE)} (q : ∀ p, H p = none → tPairs trs σ (upd H p (.dK [])) fun ps H2 => H2 p = some (.dK []) ∧ ∃ kvs : List (Key × V), ps = kvs.map (fun kv => (kV kv.1, kv.2)) ∧ kvs.length ≤ 15 ∧ Q (.ref p) (upd H2 p (.dK (mergeK [] kvs)))) : tDisp trs σ H Q := q
theorem g_pcons {tk tv : TE} {r : List (TE × TE)} {R : List (V × V) → Hp → Prop} (q : tk σ H fun x H1 => tv σ H1 fun y H2 => tPairs r σ H2 fun ps H3 => R ((x, y) :: ps) H3) : tPairs ((tk, tv) :: r) σ H R := q
theorem g_pnil {R : List (V × V) → Hp → Prop} (q : R [] H) : tPairs [] σ H R := q
theorem e_non {R : Prop} (q : R) : V.non = V.non ∧ R := ⟨rfl, q⟩
theorem g_ext {l b : Addr} {xs zs : List V} (h : H l = some (.lst xs)) (hb : H b = some (.lst zs)) (hl : xs.length + zs.length ≤ 1000000) (q : Q .non (upd H l (.lst (xs ++ zs)))) : rExtend (.ref l) [.ref b] H Q := ⟨l, b, xs, zs, rfl, rfl, h, hb, Nat.le_trans hl (by decide), q⟩
theorem g_m1 {r : V → List V → Hp → VK → Prop} (q : to σ H fun x H1 => (∃ a, x = .str a) ∧ te σ H1 fun y H2 => r x [y] H2 Q) : tM1 r to te σ H Q := q
theorem e_strE {z : Str} {R : Prop} (q : R) : (∃ a, V.str z = .str a) ∧ R := ⟨⟨z, rfl⟩, q⟩
theorem e_join {l : Addr} {z : Str} (ys : List Str) {R : Str → List Str → Prop} (h : SqL K H l (ys.map V.str)) (hz : (ys.map (·.length)).sum + ys.length * z.length ≤ 16777216) (q : R z ys) :
    ∃ a p, ∃ ys : List Str, V.str z = .str a ∧ [V.ref l] = [.ref p] ∧ (SqL K H p (ys.map V.str) ∨ SqT K H p (ys.map V.str)) ∧ (ys.map (·.length)).sum + ys.length * a.length ≤ 16777216 ∧ R a ys := ⟨z, l, ys, rfl, rfl, Or.inl h, hz, q⟩
/-- a comprehension over a tuple -/
theorem lcI_tup {g : TG} {tt : TT} {te : TE} {vs : List Nat} {a : Addr} {xs : List V} (hx : ∀ H', Same H H' → SqT K H' a xs) (hn : xs.length ≤ 1000000) (h : V → Option V)
    (turn : ∀ x H' (A : VK) (B : Hp → Prop), x ∈ xs → Same H H' → (∀ y H4, h x = some y → Same H' H4 → A y H4) → (h x = none → ∀ H3, Same H' H3 → B H3) →
      g x (wipe σ vs) H' fun σ2 H2 => wipe σ2 vs = wipe σ vs ∧ tt σ2 H2 fun b H3 => if b = true then te σ2 H3 A else B H3)
    (k : ∀ E H', H E = none → Same H H' → H' E = some (.lst (xs.filterMap h)) → Q (.ref E) H') : lcI σ vs g tt te Q (Itt K a) H := by
  refine lcI_same walk_tup hn (fun i => (xs[i]?).bind h) (fun H' s => hx H' s) (fun i H' x H'' y => by rw [y.1]; exact Same.refl _) (fun i x H' H'' A B hi s y kA kB => ?_) fun E H' e s q => k E H' e s (by rw [q, range_fm])
  obtain ⟨rfl, ex⟩ := y
  exact turn x H'' A B (List.mem_of_getElem? ex) s (fun v H4 ev s4 => kA v H4 (by rw [ex]; exact ev) s4) fun en H3 s3 => kB (by rw [ex]; exact en) H3 s3
theorem g_chain {r r' : R2} {ta tb tc : TE} (q : ta σ H fun x H1 => tb σ H1 fun y H2 => r x y H2 fun z H3 => ∃ k, z = .bl k ∧ (if k = true then tc σ H3 fun w' H4 => r' y w' H4 Q else Q (.bl false) H3)) : tChain r r' ta tb tc σ H Q := q
theorem e_isi {x : V} {t n : String} {b : Bool} (h : TyX K H x (.type t)) (k : kitB t n = some b) (q : Q (.bl b) H) : rIsi K [x, .ty n] H Q := ⟨x, _, _, _, b, rfl, ClsV.ty n, h, kit_ty k, q⟩
theorem ty_int {i : Int} : TyX K H (.int i) (.type "int") := .base (.int i)
theorem ty_str {s : Str} : TyX K H (.str s) (.type "str") := .base (.str s)
theorem ty_bl {b : Bool} : TyX K H (.bl b) (.type "bool") := .base (.bl b)
theorem ty_non : TyX K H .non (.type "NoneType") := .base .non
theorem ty_tup {a : Addr} {xs : List V} (h : H a = some (.tup xs)) : TyX K H (.ref a) (.type "tuple") := .base (.tup h)
theorem ty_list {a : Addr} {xs : List V} (h : H a = some (.lst xs)) : TyX K H (.ref a) (.type "list") := .base (.lst h)
theorem g_inS {c : Nat} {z : Str} {R : Bool → Hp → Prop} (q : R (decide (c ∈ z.cps.toList)) H) : ∃ (c' : Nat) (z' : Str), V.str ⟨#[c]⟩ = .str ⟨#[c']⟩ ∧ V.str z = .str z' ∧ ∃ k, V.bl (decide (c' ∈ z'.cps.toList)) = .bl k ∧ R k H := ⟨c, z, rfl, rfl, _, rfl, q⟩
theorem g_dnewK (q : ∀ d, H d = none → Q (.ref d) (upd H d (.dK []))) : tDNewK σ H Q := q
theorem e_dinS {d : Addr} {kvs : List (Key × V)} {n : Str} {R : Option V → Prop} (h : H d = some (.dK kvs)) (q : R (valV kvs (Sum.inr n))) : ∃ a o, V.ref d = .ref a ∧ DGet H a (.str n) o ∧ R o := ⟨d, _, rfl, DGet.k (k := Sum.inr n) h, q⟩
theorem e_dgetS {d : Addr} {kvs : List (Key × V)} {n : Str} {v : V} {R : V → Prop} (h : H d = some (.dK kvs)) (e : valV kvs (Sum.inr n) = some v) (q : R v) : ∃ a v, V.ref d = .ref a ∧ DGet H a (.str n) (some v) ∧ R v := ⟨d, v, rfl, by rw [← e]; exact DGet.k (k := Sum.inr n) h, q⟩
theorem e_dputS {d : Addr} {kvs : List (Key × V)} {n : Str} {v : V} {R : Hp → Prop} (h : H d = some (.dK kvs)) (hl : kvs.length ≤ 1000000) (q : R (upd H d (.dK (putK kvs (Sum.inr n) v)))) : ∃ a H4, V.ref d = .ref a ∧ DPut H a (.str n) v H4 ∧ R H4 := ⟨d, _, rfl, DPut.k (k := Sum.inr n) h (Nat.lt_of_le_of_lt hl (by decide)), q⟩
theorem g_appL {l : Addr} {xs : List V} {y : V} (h : H l = some (.lst xs)) (hl : xs.length ≤ 1000000) (q : Q .non (upd H l (.lst (xs ++ [y])))) : rAppend (.ref l) [y] H Q := ⟨l, xs, y, rfl, rfl, h, Nat.lt_of_le_of_lt hl (by decide), q⟩
theorem ty_lst {l : Addr} {xs : List V} {R : Prop} (h : H l = some (.lst xs)) (q : R) : tyV K "list" (.ref l) H ∧ R := ⟨Or.inl ⟨rfl, _, SqL.of h⟩, q⟩
end
end
end U
namespace M
open PySem L2
/-! ### names -/
def sign (c : Nat) : Bool := (decide (48 ≤ c) && decide (c ≤ 57)) || (decide (97 ≤ c) && decide (c ≤ 122))
def isName (s : Str) : Bool := decide (1 ≤ s.length) && decide (s.length ≤ 12) && s.cps.toList.all sign
theorem isName_of {s : Str} (h1 : 1 ≤ s.length) (h2 : s.length ≤ 12) (h3 : ∀ c ∈ s.cps.toList, sign c = true) : isName s = true := by
  unfold isName
  rw [decide_eq_true h1, decide_eq_true h2, List.all_eq_true.mpr h3] <;> rfl
theorem isName_out {s : Str} (h : isName s = true) : 1 ≤ s.length ∧ s.length ≤ 12 ∧ ∀ c ∈ s.cps.toList, sign c = true := by
  unfold isName at h
  rw [Bool.and_eq_true, Bool.and_eq_true] at h
  exact ⟨of_decide_eq_true h.1.1, of_decide_eq_true h.1.2, List.all_eq_true.mp h.2⟩
theorem len_list (s : Str) : s.cps.toList.length = s.length := Array.length_toList
theorem app_list (a b : Str) : (a ++ b).cps.toList = a.cps.toList ++ b.cps.toList := by
  show (a.cps ++ b.cps).toList = _
  rw [Array.toList_append]
theorem len_app (a b : Str) : (a ++ b).length = a.length + b.length := by
  rw [← len_list, app_list, List.length_append, len_list, len_list]
theorem str_ext {a b : Str} (h : a.cps.toList = b.cps.toList) : a = b := by
  cases a; cases b
  congr 1
  exact Array.ext' h
def isNameV (v : V) : Bool := match v with
  | .str s => isName s
  | _ => false
def intIn (a b : Int) (v : V) : Bool := match v with
  | .int i => decide (a ≤ i) && decide (i ≤ b)
  | _ => false
theorem isNameV_out {v : V} (h : isNameV v = true) : ∃ s, v = .str s ∧ isName s = true := by
  cases v <;> first | exact ⟨_, rfl, h⟩ | cases h
theorem intIn_out {a b : Int} {v : V} (h : intIn a b v = true) : ∃ i, v = .int i ∧ a ≤ i ∧ i ≤ b := by
  cases v <;> first | (rename_i i; have h : (decide (a ≤ i) && decide (i ≤ b)) = true := h; rw [Bool.and_eq_true] at h; exact ⟨i, rfl, of_decide_eq_true h.1, of_decide_eq_true h.2⟩) | cases h
theorem all_at {α : Type} {xs : List α} {f : α → Bool} (h : xs.all f = true) {j : Nat} {y : α} (e : xs[j]? = some y) : f y = true := List.all_eq_true.mp h y (List.mem_of_getElem? e)
/-- a dict of True by names -/
def known (ns : List Str) : List (Key × V) := ns.map fun s => (Sum.inr s, V.bl true)
theorem known_val (ns : List Str) (s : Str) : (valV (known ns) (Sum.inr s)).isSome = decide (s ∈ ns) := by
  induction ns with
  | nil => rfl
  | cons a r ih =>
    unfold known
    rw [List.map_cons]
    by_cases h : a = s
    · rw [valV_pos (by rw [h])]
      simp [h]
    · rw [valV_neg (by intro z; exact h (Sum.inr.inj z))]
      have ih' : (valV (r.map fun s => ((Sum.inr s : Key), V.bl true)) (Sum.inr s)).isSome = decide (s ∈ r) := ih
      rw [ih']
      have : s ≠ a := fun z => h z.symm
      simp [this]
theorem known_put {ns : List Str} {s : Str} (h : s ∉ ns) : putK (known ns) (Sum.inr s) (V.bl true) = known (ns ++ [s]) := by
  have h1 : valV (known ns) (Sum.inr s) = none := by
    have h2 := known_val ns s
    rw [decide_eq_false h] at h2
    cases e : valV (known ns) (Sum.inr s : Key) with
    | none => rfl
    | some v => rw [e] at h2; cases h2
  rw [putK_new _ h1]
  unfold known
  rw [List.map_append]
  rfl
/-- 'q' + str(i) -/
def qn (i : Nat) : Str := ("q" : Str) ++ (toString (i : Int) : Str)
theorem qn_all : (List.range 120).all (fun i => isName (qn i) && decide (("q" : Str).length + (toString (i : Int) : Str).length ≤ 12)) = true := by decide +kernel
theorem qn_ok {i : Nat} (h : i < 120) : isName (qn i) = true ∧ ("q" : Str).length + (toString (i : Int) : Str).length ≤ 12 := by
  have z := List.all_eq_true.mp qn_all i (List.mem_range.mpr h)
  rw [Bool.and_eq_true] at z
  exact ⟨z.1, of_decide_eq_true z.2⟩
theorem qn_nodup : ((List.range 120).map qn).Nodup := by decide +kernel
theorem qn_nd {n : Nat} (h : n ≤ 120) : ((List.range n).map qn).Nodup := by
  obtain ⟨k, e⟩ : ∃ k, (120 : Nat) = n + k := ⟨120 - n, by omega⟩
  have z := qn_nodup
  rw [e, List.range_add, List.map_append, List.nodup_append] at z
  exact z.1
theorem pigeon {α : Type} [DecidableEq α] : ∀ {l m : List α}, l.Nodup → (∀ x ∈ l, x ∈ m) → l.length ≤ m.length
  | [], _, _, _ => Nat.zero_le _
  | a :: r, m, nd, h => by
    have ha : a ∈ m := h a List.mem_cons_self
    have hr : ∀ x ∈ r, x ∈ m.erase a := fun x hx => (List.mem_erase_of_ne (fun e => by subst e; exact (List.nodup_cons.mp nd).1 hx)).mpr (h x (List.mem_cons_of_mem _ hx))
    have ih := pigeon (List.nodup_cons.mp nd).2 hr
    rw [List.length_erase_of_mem ha] at ih
    have : 0 < m.length := List.length_pos_of_mem ha
    rw [List.length_cons]
    omega
def notIn (ns : List Str) (v : V) : Option V := match v with
  | .str x => if x ∈ ns then none else some (.str x)
  | _ => none
theorem rest_first {ns : List Str} {n : Nat} (hl : ns.length < n) (hn : n ≤ 120) : ∃ r t, ((List.range n).filterMap fun i => some (V.str (qn i))).filterMap (notIn ns) = .str r :: t ∧ r ∉ ns ∧ isName r = true := by
  have ex : ∃ i, i < n ∧ qn i ∉ ns := by
    refine Classical.byContradiction fun no => ?_
    have : ∀ x ∈ (List.range n).map qn, x ∈ ns := fun x hx => by
      obtain ⟨i, hi, rfl⟩ := List.mem_map.mp hx
      exact Classical.byContradiction fun q => no ⟨i, List.mem_range.mp hi, q⟩
    have := pigeon (qn_nd hn) this
    rw [List.length_map, List.length_range] at this
    omega
  obtain ⟨i, hi, hq⟩ := ex
  have mem : V.str (qn i) ∈ ((List.range n).filterMap fun i => some (V.str (qn i))).filterMap (notIn ns) := by
    rw [List.mem_filterMap]
    exact ⟨V.str (qn i), List.mem_filterMap.mpr ⟨i, List.mem_range.mpr hi, rfl⟩, by show (if qn i ∈ ns then none else some (V.str (qn i))) = _; rw [if_neg hq]⟩
  cases e : ((List.range n).filterMap fun i => some (V.str (qn i))).filterMap (notIn ns) with
  | nil => rw [e] at mem; cases mem
  | cons v t =>
    have hv : v ∈ ((List.range n).filterMap fun i => some (V.str (qn i))).filterMap (notIn ns) := by rw [e]; exact List.mem_cons_self
    obtain ⟨u, hu, hv⟩ := List.mem_filterMap.mp hv
    obtain ⟨j, hj, hu⟩ := List.mem_filterMap.mp hu
    cases hu
    have hv : (if qn j ∈ ns then none else some (V.str (qn j))) = some v := hv
    by_cases c : qn j ∈ ns
    · rw [if_pos c] at hv; cases hv
    · rw [if_neg c] at hv
      cases hv
      exact ⟨qn j, t, rfl, c, (qn_ok (by have := List.mem_range.mp hj; omega)).1⟩
abbrev words : List V := [V.str "row", V.str "none", V.str "line", V.str "kinds", V.str "person", V.str "column", V.str "kind", V.str "0", V.str "abcdefghijkl"]
/-! ### registers as data -/
structure Knd where
  col : Str
  name : Str
  up : Option Str
  loss : Int
def upV : Option Str → V
  | none => .non
  | some s => .str s
def kindV (k : Knd) : List V := [.str k.col, .str k.name, upV k.up, .int k.loss]
/-- the kinds of one column, as they are drawn -/
inductive KOk (c : Str) : List Knd → Prop
  | nil : KOk c []
  | top {n : Str} {l : Int} (h : isName n = true) (hn : n ≠ "none") (h0 : 0 ≤ l) (h1 : l ≤ 1000000) : KOk c [⟨c, n, none, l⟩]
  | more {ks : List Knd} {o : Knd} {n : Str} {l : Int} (k : KOk c ks) (ho : o ∈ ks) (h : isName n = true) (hn : n ≠ "none") (nd : n ∉ ks.map (·.name)) (h0 : 0 ≤ l) (h1 : l ≤ o.loss) : KOk c (ks ++ [⟨c, n, some o.name, l⟩])
theorem KOk.loss {c : Str} {ks : List Knd} (k : KOk c ks) : ∀ o ∈ ks, 0 ≤ o.loss ∧ o.loss ≤ 1000000 := by
  induction k with
  | nil => intro o h; cases h
  | top h hn h0 h1 => intro o h; rw [List.mem_singleton] at h; subst h; exact ⟨h0, h1⟩
  | more k ho h hn nd h0 h1 ih =>
    intro o' h'
    rcases List.mem_append.mp h' with h' | h'
    · exact ih o' h'
    · rw [List.mem_singleton] at h'; subst h'
      have := ih _ ho
      exact ⟨h0, by show _ ≤ _; simp only; omega⟩
/-- tuples at their addresses -/
def TupAt (H : Hp) (v : V) (xs : List V) : Prop := ∃ a, v = .ref a ∧ H a = some (.tup xs)
abbrev TupL (H : Hp) : List V → List (List V) → Prop := Paired (TupAt H)
/-- all tuples stay -/
def TS (H H' : Hp) : Prop := ∀ a xs, H a = some (.tup xs) → H' a = some (.tup xs)
theorem TS.refl (H : Hp) : TS H H := fun _ _ h => h
theorem TS.trans {H H1 H2 : Hp} (a : TS H H1) (b : TS H1 H2) : TS H H2 := fun c o h => b c o (a c o h)
theorem TS.of {H H' : Hp} (s : Same H H') : TS H H' := fun a xs h => s a _ h
theorem TS.new {H : Hp} {p : Addr} {o : HO} (h : H p = none) : TS H (upd H p o) := TS.of (U.same_new h)
theorem TS.lst {H : Hp} {p : Addr} {o : HO} {xs : List V} (h : H p = some (.lst xs)) : TS H (upd H p o) := fun a ys e => by
  rw [upd_ne (ne_of e h (by intro z; cases z))]
  exact e
theorem TS.dK {H : Hp} {p : Addr} {o : HO} {xs : List (Key × V)} (h : H p = some (.dK xs)) : TS H (upd H p o) := fun a ys e => by
  rw [upd_ne (ne_of e h (by intro z; cases z))]
  exact e
theorem TS.ins {H : Hp} {p C dx : Addr} {o : HO} {fs : List (Str × V)} (h : H p = some (.ins C dx fs)) : TS H (upd H p o) := fun a ys e => by
  rw [upd_ne (ne_of e h (by intro z; cases z))]
  exact e
theorem TupAt.mono {H H' : Hp} {v : V} {xs : List V} (t : TS H H') (h : TupAt H v xs) : TupAt H' v xs := let ⟨a, e, h⟩ := h; ⟨a, e, t a xs h⟩
theorem TupL.mono {H H' : Hp} (t : TS H H') : ∀ {vs : List V} {xs : List (List V)}, TupL H vs xs → TupL H' vs xs
  | _, _, .nil => .nil
  | _, _, .cons a r => .cons (a.mono t) (TupL.mono t r)
theorem prd_at {α β : Type} {R : α → β → Prop} : ∀ {xs : List α} {ys : List β} {i : Nat} {x : α}, Paired R xs ys → xs[i]? = some x → ∃ y, ys[i]? = some y ∧ R x y
  | _, _, _, _, .nil, h => by simp at h
  | _, _, 0, _, .cons a _, h => by simp at h; subst h; exact ⟨_, rfl, a⟩
  | _, _, i + 1, x, .cons _ r, h => by
    obtain ⟨y, e, q⟩ := prd_at (i := i) r (by simpa using h)
    exact ⟨y, by simpa using e, q⟩
theorem prd_at2 {α β : Type} {R : α → β → Prop} : ∀ {xs : List α} {ys : List β} {i : Nat} {y : β}, Paired R xs ys → ys[i]? = some y → ∃ x, xs[i]? = some x ∧ R x y
  | _, _, _, _, .nil, h => by simp at h
  | _, _, 0, _, .cons a _, h => by simp at h; subst h; exact ⟨_, rfl, a⟩
  | _, _, i + 1, y, .cons _ r, h => by
    obtain ⟨x, e, q⟩ := prd_at2 (i := i) r (by simpa using h)
    exact ⟨x, by simpa using e, q⟩
theorem prd_len {α β : Type} {R : α → β → Prop} {xs : List α} {ys : List β} (p : Paired R xs ys) : xs.length = ys.length := Paired.length p
/-- names but none -/
def notNone (v : V) : Option V := match v with
  | .str x => if x = "none" then none else some (.str x)
  | _ => none
theorem notNone_map (ns : List Str) : (ns.map V.str).filterMap notNone = (ns.filter fun x : Str => !decide (x = "none")).map V.str := by
  induction ns with
  | nil => rfl
  | cons a r ih =>
    rw [List.map_cons, List.filterMap_cons]
    have e : notNone (.str a) = if a = "none" then none else some (.str a) := rfl
    rw [e]
    by_cases h : a = "none"
    · rw [if_pos h, List.filter_cons, if_neg (by rw [decide_eq_true h]; decide)]
      exact ih
    · rw [if_neg h, List.filter_cons, if_pos (by rw [decide_eq_false h]; rfl), List.map_cons, ← ih]
theorem notNone_len : ∀ {ns : List Str}, ns.Nodup → ns.length ≤ (ns.filter fun x : Str => !decide (x = "none")).length + 1
  | [], _ => Nat.zero_le _
  | a :: r, nd => by
    obtain ⟨h1, h2⟩ := List.nodup_cons.mp nd
    by_cases h : a = "none"
    · rw [List.filter_cons, if_neg (by rw [decide_eq_true h]; decide)]
      have : (r.filter fun x : Str => !decide (x = "none")) = r := List.filter_eq_self.mpr fun x hx => by
        have : x ≠ "none" := fun e => h1 (by rw [h, ← e]; exact hx)
        rw [decide_eq_false this]; rfl
      rw [this]
      exact Nat.le_refl _
    · rw [List.filter_cons, if_pos (by rw [decide_eq_false h]; rfl), List.length_cons, List.length_cons]
      have := notNone_len h2
      omega
theorem cut_take (xs : List V) (m : Nat) : cutV xs none (some (m : Int)) = xs.take m := by
  unfold cutV
  rw [HT.sIx_none, HT.sIx_nat, List.drop_zero, Nat.sub_zero]
  rw [Nat.min_def]
  split
  · rfl
  · rw [List.take_of_length_le (Nat.le_refl _), List.take_of_length_le (by omega)]
end M
namespace M
open PySem L2
/-! ### a register as data, and as it lies in the heap of a law -/
structure Reg where
  cols : List (Str × Bool)
  kinds : List Knd
  persons : List (Str × List V)
def wordOf (b : Bool) : Str := if b then "kinds" else "line"
def colV (c : Str × Bool) : List V := [.str c.1, .str (wordOf c.2)]
def PerAt (H : Hp) (v : V) (p : Str × List V) : Prop := ∃ a b, v = .ref a ∧ H a = some (.tup [.str p.1, .ref b]) ∧ H b = some (.tup p.2)
abbrev PerL (H : Hp) : List V → List (Str × List V) → Prop := Paired (PerAt H)
theorem PerL.mono {H H' : Hp} (t : TS H H') : ∀ {vs : List V} {xs : List (Str × List V)}, PerL H vs xs → PerL H' vs xs
  | _, _, .nil => .nil
  | _, _, .cons ⟨a, b, e, h1, h2⟩ r => .cons ⟨a, b, e, t a _ h1, t b _ h2⟩ (PerL.mono t r)
def valOk (R : Reg) (c : Str × Bool) (v : V) : Prop := if c.2 = true then ∃ k ∈ R.kinds, k.col = c.1 ∧ v = .str k.name else ∃ z : Int, v = .int z ∧ -1000000 ≤ z ∧ z ≤ 1000000
/-- the names of a column's kinds -/
def kindNames (R : Reg) (c : Str) : List Str := (R.kinds.filter fun k => decide (k.col = c)).map (·.name)
structure ColsOk (cs : List (Str × Bool)) : Prop where
  pos : 1 ≤ cs.length
  four : cs.length ≤ 4
  nd : (cs.map (·.1)).Nodup
  nm : ∀ c ∈ cs, isName c.1 = true
structure KindsOk (cs : List (Str × Bool)) (ks : List Knd) : Prop where
  each : ∀ c ∈ cs, c.2 = true → KOk c.1 (ks.filter fun k => decide (k.col = c.1)) ∧ 1 ≤ (ks.filter fun k => decide (k.col = c.1)).length ∧ (ks.filter fun k => decide (k.col = c.1)).length ≤ 60
  of : ∀ k ∈ ks, (k.col, true) ∈ cs
structure RegOk (R : Reg) : Prop where
  cols : ColsOk R.cols
  kinds : KindsOk R.cols R.kinds
  pl : R.persons.length ≤ 60
  pn : (R.persons.map (·.1)).Nodup
  pk : ∀ p ∈ R.persons, isName p.1 = true ∧ Paired (valOk R) R.cols p.2
def ownD (lc lk lp : Addr) : List (Key × V) := [(Sum.inr "columns", .ref lc), (Sum.inr "kinds", .ref lk), (Sum.inr "persons", .ref lp)]
/-- the law's own register: a dict of three lists -/
structure OwnX (H : Hp) (o lc lk lp : Addr) (R : Reg) : Prop where
  d : H o = some (.dK (ownD lc lk lp))
  c : ∃ cv, H lc = some (.lst cv) ∧ TupL H cv (R.cols.map colV)
  k : ∃ kv, H lk = some (.lst kv) ∧ TupL H kv (R.kinds.map kindV)
  p : ∃ pv, H lp = some (.lst pv) ∧ PerL H pv R.persons
def OwnAt (H : Hp) (o : Addr) (R : Reg) : Prop := ∃ lc lk lp, OwnX H o lc lk lp R
theorem own_c (lc lk lp : Addr) : valV (ownD lc lk lp) (Sum.inr "columns") = some (.ref lc) := by rfl
theorem own_k (lc lk lp : Addr) : valV (ownD lc lk lp) (Sum.inr "kinds") = some (.ref lk) := by
  unfold ownD
  rw [valV_neg (by intro z; exact absurd (Sum.inr.inj z) (by decide +kernel)), valV_pos rfl]
theorem own_p (lc lk lp : Addr) : valV (ownD lc lk lp) (Sum.inr "persons") = some (.ref lp) := by
  unfold ownD
  rw [valV_neg (by intro z; exact absurd (Sum.inr.inj z) (by decide +kernel)), valV_neg (by intro z; exact absurd (Sum.inr.inj z) (by decide +kernel)), valV_pos rfl]
theorem TupL.refs {H : Hp} {vs : List V} {xs : List (List V)} (h : TupL H vs xs) : ∀ v ∈ vs, ∃ a, v = .ref a := by
  intro v hv
  obtain ⟨i, hi⟩ := List.getElem?_of_mem hv
  obtain ⟨y, _, a, e, _⟩ := prd_at h hi
  exact ⟨a, e⟩
theorem PerL.refs {H : Hp} {vs : List V} {xs : List (Str × List V)} (h : PerL H vs xs) : ∀ v ∈ vs, ∃ a, v = .ref a := by
  intro v hv
  obtain ⟨i, hi⟩ := List.getElem?_of_mem hv
  obtain ⟨y, _, a, b, e, _⟩ := prd_at h hi
  exact ⟨a, e⟩
theorem ne_pot {H : Hp} {p l : Addr} {vs : List V} {x y z : Int} (hp : H p = some (.lst [.int x, .int y, .int z])) (hl : H l = some (.lst vs)) (h : ∀ v ∈ vs, ∃ a, v = .ref a) : l ≠ p := by
  intro e
  subst e
  rw [hp] at hl
  cases hl
  obtain ⟨a, e⟩ := h (.int x) List.mem_cons_self
  cases e
theorem kindNames_mem {R : Reg} {c : Str} {n : Str} (h : n ∈ kindNames R c) : ∃ k ∈ R.kinds, k.col = c ∧ n = k.name := by
  obtain ⟨k, hk, rfl⟩ := List.mem_map.mp h
  rw [List.mem_filter] at hk
  exact ⟨k, hk.1, of_decide_eq_true hk.2, rfl⟩
theorem own_merge (lc lk lp : Addr) : mergeK [] (ownD lc lk lp) = ownD lc lk lp := by
  have n1 : ¬ ((Sum.inr ("columns" : Str) : Key) = (Sum.inr ("kinds" : Str) : Key)) := by intro z; exact absurd (Sum.inr.inj z) (by decide +kernel)
  have n2 : ¬ ((Sum.inr ("columns" : Str) : Key) = (Sum.inr ("persons" : Str) : Key)) := by intro z; exact absurd (Sum.inr.inj z) (by decide +kernel)
  have n3 : ¬ ((Sum.inr ("kinds" : Str) : Key) = (Sum.inr ("persons" : Str) : Key)) := by intro z; exact absurd (Sum.inr.inj z) (by decide +kernel)
  have e1 : putK [] (Sum.inr ("columns" : Str) : Key) (V.ref lc) = [((Sum.inr ("columns" : Str) : Key), V.ref lc)] := putK_new _ valV_nil
  have e2 : putK [((Sum.inr ("columns" : Str) : Key), V.ref lc)] (Sum.inr ("kinds" : Str)) (V.ref lk) = [((Sum.inr ("columns" : Str) : Key), V.ref lc), (Sum.inr ("kinds" : Str), V.ref lk)] := putK_new _ (by rw [valV_neg n1, valV_nil])
  have e3 : putK [((Sum.inr ("columns" : Str) : Key), V.ref lc), (Sum.inr ("kinds" : Str), V.ref lk)] (Sum.inr ("persons" : Str)) (V.ref lp) = ownD lc lk lp := putK_new _ (by rw [valV_neg n2, valV_neg n3, valV_nil])
  show putK (putK (putK [] (Sum.inr ("columns" : Str) : Key) (V.ref lc)) (Sum.inr ("kinds" : Str)) (V.ref lk)) (Sum.inr ("persons" : Str)) (V.ref lp) = ownD lc lk lp
  rw [e1, e2, e3]
theorem KOk_col {c : Str} {ks : List Knd} (k : KOk c ks) : ∀ o ∈ ks, o.col = c := by
  induction k with
  | nil => intro o h; cases h
  | top => intro o h; rw [List.mem_singleton] at h; subst h; rfl
  | more k ho h hn nd h0 h1 ih =>
    intro o' h'
    rcases List.mem_append.mp h' with h' | h'
    · exact ih o' h'
    · rw [List.mem_singleton] at h'; subst h'; rfl
/-- one column's kinds more -/
theorem KindsOk.more {cs : List (Str × Bool)} {ks ks' : List Knd} {c : Str × Bool} (K : KindsOk cs ks) (nd : ((cs ++ [c]).map (·.1)).Nodup) (hc : c.2 = true) (ok : KOk c.1 ks') (h1 : 1 ≤ ks'.length) (h2 : ks'.length ≤ 60) : KindsOk (cs ++ [c]) (ks ++ ks') := by
  have hne : ∀ d ∈ cs, d.1 ≠ c.1 := fun d hd e => by
    rw [List.map_append, List.nodup_append] at nd
    exact nd.2.2 d.1 (List.mem_map_of_mem hd) c.1 (by simp) e
  have col := KOk_col ok
  refine ⟨fun d hd h => ?_, fun k hk => ?_⟩
  · rcases List.mem_append.mp hd with hd | hd
    · have : (ks'.filter fun k => decide (k.col = d.1)) = [] := List.filter_eq_nil_iff.mpr fun k hk => by
        rw [col k hk]
        intro z
        exact hne d hd (of_decide_eq_true z).symm
      rw [List.filter_append, this, List.append_nil]
      exact K.each d hd h
    · rw [List.mem_singleton] at hd
      subst hd
      have e1 : (ks.filter fun k => decide (k.col = d.1)) = [] := List.filter_eq_nil_iff.mpr fun k hk => by
        intro z
        exact hne _ (K.of k hk) (of_decide_eq_true z)
      have e2 : (ks'.filter fun k => decide (k.col = d.1)) = ks' := List.filter_eq_self.mpr fun k hk => decide_eq_true (col k hk)
      rw [List.filter_append, e1, e2, List.nil_append]
      exact ⟨ok, h1, h2⟩
  · rcases List.mem_append.mp hk with hk | hk
    · exact List.mem_append_left _ (K.of k hk)
    · refine List.mem_append_right _ ?_
      rw [List.mem_singleton, col k hk, ← hc]
/-- a column without kinds more -/
theorem KindsOk.line {cs : List (Str × Bool)} {ks : List Knd} {c : Str × Bool} (K : KindsOk cs ks) (hc : c.2 = false) : KindsOk (cs ++ [c]) ks := by
  refine ⟨fun d hd h => ?_, fun k hk => List.mem_append_left _ (K.of k hk)⟩
  rcases List.mem_append.mp hd with hd | hd
  · exact K.each d hd h
  · rw [List.mem_singleton] at hd; subst hd; rw [hc] at h; cases h
/-! ### data at any depth -/
def vD : V → PyData
  | .int i => .int i
  | .str s => .str s
  | .bl b => .bool b
  | _ => .none
def flat2 : V → Bool
  | .int _ => true
  | .str s => PyData.canLay0 (.str s)
  | .non => true
  | .bl _ => true
  | _ => false
theorem vD_dp {K : PySem.W.Frag} {H : Hp} {v : V} (h : flat2 v = true) : Dp K H v (vD v) := by
  cases v <;> first | exact Dp.non | exact Dp.bl _ | exact Dp.int _ | exact Dp.str _ | cases h
theorem vD_lay {v : V} (h : flat2 v = true) : (vD v).canLay0 = true := by
  cases v <;> first | rfl | exact h | cases h
theorem vD_depth {v : V} (h : flat2 v = true) : (vD v).depth = 0 := by
  cases v <;> first | rfl | cases h
theorem vDs_dp {K : PySem.W.Frag} {H : Hp} : ∀ {vs : List V}, vs.all flat2 = true → DpAll K H vs (vs.map vD)
  | [], _ => .nil
  | v :: r, h => by
    rw [List.all_cons, Bool.and_eq_true] at h
    exact .cons (vD_dp h.1) (vDs_dp h.2)
theorem lay_all : ∀ {ds : List PyData}, (∀ d ∈ ds, d.canLay0 = true) → PyData.canLayAll0 ds = true
  | [], _ => rfl
  | d :: r, h => by
    show (d.canLay0 && PyData.canLayAll0 r) = true
    rw [h d List.mem_cons_self, lay_all fun x hx => h x (List.mem_cons_of_mem _ hx)] <;> rfl
theorem depth_all {m : Nat} : ∀ {ds : List PyData}, (∀ d ∈ ds, d.depth ≤ m) → PyData.depthAll ds ≤ m
  | [], _ => Nat.zero_le _
  | d :: r, h => by
    show max d.depth (PyData.depthAll r) ≤ m
    exact Nat.max_le.mpr ⟨h d List.mem_cons_self, depth_all fun x hx => h x (List.mem_cons_of_mem _ hx)⟩
theorem flats_lay {vs : List V} (h : vs.all flat2 = true) : PyData.canLayAll0 (vs.map vD) = true := lay_all fun d hd => by
  obtain ⟨v, hv, rfl⟩ := List.mem_map.mp hd
  exact vD_lay (List.all_eq_true.mp h v hv)
theorem flats_depth {vs : List V} (h : vs.all flat2 = true) : PyData.depthAll (vs.map vD) ≤ 0 := depth_all fun d hd => by
  obtain ⟨v, hv, rfl⟩ := List.mem_map.mp hd
  rw [vD_depth (List.all_eq_true.mp h v hv)]
  exact Nat.le_refl _
def perD (p : Str × List V) : PyData := .tuple [.str p.1, .tuple (p.2.map vD)]
def perFlat (p : Str × List V) : Prop := PyData.canLay0 (.str p.1) = true ∧ p.2.all flat2 = true
theorem isName_lay {s : Str} (h : isName s = true) : PyData.canLay0 (.str s) = true := by
  show (s.cps.all (· < 0x110000)) = true
  rw [← Array.all_toList]
  refine List.all_eq_true.mpr fun c hc => ?_
  have := (isName_out h).2.2 c hc
  unfold sign at this
  refine decide_eq_true ?_
  simp only [Bool.or_eq_true, Bool.and_eq_true, decide_eq_true_eq] at this
  omega
theorem per_dp {K : PySem.W.Frag} {H : Hp} {v : V} {p : Str × List V} (h : PerAt H v p) (f : perFlat p) : Dp K H v (perD p) := by
  obtain ⟨a, b, rfl, h1, h2⟩ := h
  exact Dp.tup (SqT.of h1) (.cons (Dp.str _) (.cons (Dp.tup (SqT.of h2) (vDs_dp f.2)) .nil))
theorem pers_dp {K : PySem.W.Frag} {H : Hp} : ∀ {vs : List V} {ps : List (Str × List V)}, PerL H vs ps → (∀ p ∈ ps, perFlat p) → DpAll K H vs (ps.map perD)
  | _, _, .nil, _ => .nil
  | _, _, .cons a r, f => .cons (per_dp a (f _ List.mem_cons_self)) (pers_dp r fun p hp => f p (List.mem_cons_of_mem _ hp))
theorem per_lay {p : Str × List V} (f : perFlat p) : (perD p).canLay0 = true := by
  show (PyData.canLay0 (.str p.1) && ((PyData.canLayAll0 (p.2.map vD)) && true)) = true
  rw [f.1, flats_lay f.2] <;> rfl
theorem per_depth {p : Str × List V} (f : perFlat p) : (perD p).depth ≤ 3 := by
  have := flats_depth f.2
  simp only [perD, PyData.depth, PyData.depthAll]
  omega
theorem pers_shaped {ps : List (Str × List V)} (f : ∀ p ∈ ps, perFlat p) : SeqAt.shaped (.list (ps.map perD)) = true := by
  unfold SeqAt.shaped
  rw [Bool.and_eq_true]
  refine ⟨lay_all fun d hd => ?_, decide_eq_true ?_⟩
  · obtain ⟨p, hp, rfl⟩ := List.mem_map.mp hd
    exact per_lay (f p hp)
  · have : PyData.depthAll (ps.map perD) ≤ 3 := depth_all fun d hd => by
      obtain ⟨p, hp, rfl⟩ := List.mem_map.mp hd
      exact per_depth (f p hp)
    simp only [PyData.depth]
    omega
theorem valOk_flat {R : Reg} {c : Str × Bool} {v : V} (hk : ∀ k ∈ R.kinds, isName k.name = true) (h : valOk R c v) : flat2 v = true := by
  unfold valOk at h
  split at h
  · obtain ⟨k, h1, _, rfl⟩ := h
    exact isName_lay (hk k h1)
  · obtain ⟨z, rfl, _⟩ := h
    rfl
theorem valsOk_flat {R : Reg} (hk : ∀ k ∈ R.kinds, isName k.name = true) : ∀ {cs : List (Str × Bool)} {vs : List V}, Paired (valOk R) cs vs → vs.all flat2 = true
  | _, _, .nil => rfl
  | _, _, .cons a r => by rw [List.all_cons, valOk_flat hk a, valsOk_flat hk r] <;> rfl
theorem KOk_name {c : Str} {ks : List Knd} (k : KOk c ks) : ∀ o ∈ ks, isName o.name = true ∧ o.name ≠ "none" := by
  induction k with
  | nil => intro o h; cases h
  | top h hn => intro o h'; rw [List.mem_singleton] at h'; subst h'; exact ⟨h, hn⟩
  | more k ho h hn nd h0 h1 ih =>
    intro o' h'
    rcases List.mem_append.mp h' with h' | h'
    · exact ih o' h'
    · rw [List.mem_singleton] at h'; subst h'; exact ⟨h, hn⟩
theorem KindsOk.name {cs : List (Str × Bool)} {ks : List Knd} (K : KindsOk cs ks) : ∀ k ∈ ks, isName k.name = true ∧ k.name ≠ "none" := fun k hk => by
  have hc := K.of k hk
  have ok := (K.each _ hc rfl).1
  exact KOk_name ok k (List.mem_filter.mpr ⟨hk, decide_eq_true rfl⟩)
/-! ### the text of a register -/
def upS (o : Option Str) : Str := o.getD "none"
def vS : V → Str
  | .int z => (toString z : Str)
  | .str s => s
  | _ => ""
def colLine (c : Str × Bool) : Str := ((("column " : Str) ++ c.1) ++ (" " : Str)) ++ wordOf c.2
def kindWords (k : Knd) : List Str := ["kind", k.col, k.name, upS k.up, (toString k.loss : Str)]
def perWords (p : Str × List V) : List Str := ("person" : Str) :: p.1 :: p.2.map vS
def regLines (R : Reg) : List Str := R.cols.map colLine ++ (R.kinds.map fun k => Txt.join " " (kindWords k)) ++ R.persons.map fun p => Txt.join " " (perWords p)
def regText (R : Reg) : Str := Txt.join "\n" (regLines R)
theorem int_len {z : Int} (h0 : -1000000 ≤ z) (h1 : z ≤ 1000000) : (toString z : Str).length ≤ 30 := by
  have e := int_text_length_le10 (a := z) (k := 7) (by decide) (by omega)
  show (Str.ofString (toString z)).length ≤ 30
  rw [ofString_length]
  omega
theorem wordOf_len (b : Bool) : (wordOf b).length ≤ 5 := by cases b <;> decide +kernel
theorem sum_le {α : Type} {f : α → Nat} {m : Nat} : ∀ {xs : List α}, (∀ x ∈ xs, f x ≤ m) → (xs.map f).sum ≤ xs.length * m
  | [], _ => Nat.zero_le _
  | a :: r, h => by
    rw [List.map_cons, List.sum_cons, List.length_cons, Nat.succ_mul]
    have h1 := h a List.mem_cons_self
    have h2 := sum_le (xs := r) fun x hx => h x (List.mem_cons_of_mem _ hx)
    omega
end M
namespace M
open PySem L2
/-! ### the scales of the program -/
def wayOf (ps : List (Str × List Str)) (n : Str) : List Str := (ps.lookup n).getD []
def wayStep (ps : List (Str × List Str)) (k : Knd) : List Str := k.name :: match k.up with
  | none => []
  | some u => wayOf ps u
/-- each kind with the way up from it, in their order -/
def ways (ks : List Knd) : List (Str × List Str) := ks.foldl (fun ps k => ps ++ [(k.name, wayStep ps k)]) []
theorem ways_snoc (ks : List Knd) (k : Knd) : ways (ks ++ [k]) = ways ks ++ [(k.name, wayStep (ways ks) k)] := by
  unfold ways
  rw [List.foldl_append]
  rfl
theorem snoc_ind {α : Type} {p : List α → Prop} (h0 : p []) (h1 : ∀ l a, p l → p (l ++ [a])) : ∀ l, p l := fun l => by
  have h : ∀ m : List α, p m.reverse := fun m => by
    induction m with
    | nil => exact h0
    | cons a r ih => rw [List.reverse_cons]; exact h1 _ _ ih
  have := h l.reverse
  rwa [List.reverse_reverse] at this
theorem ways_names (ks : List Knd) : (ways ks).map (·.1) = ks.map (·.name) := by
  induction ks using snoc_ind with
  | h0 => rfl
  | h1 l a ih => rw [ways_snoc, List.map_append, List.map_append, ih]; rfl
theorem ways_len (ks : List Knd) : (ways ks).length = ks.length := by
  have := congrArg List.length (ways_names ks)
  rwa [List.length_map, List.length_map] at this
theorem lookup_mem {α β : Type} [BEq α] [LawfulBEq α] {k : α} {v : β} : ∀ {ps : List (α × β)}, ps.lookup k = some v → (k, v) ∈ ps
  | [], h => by cases h
  | (j, w) :: r, h => by
    rw [List.lookup_cons] at h
    cases e : k == j with
    | true =>
      rw [e] at h
      cases h
      rw [eq_of_beq e]
      exact List.mem_cons_self
    | false =>
      rw [e] at h
      exact List.mem_cons_of_mem _ (lookup_mem h)
theorem wayOf_in (ps : List (Str × List Str)) (n : Str) : wayOf ps n = [] ∨ (n, wayOf ps n) ∈ ps := by
  unfold wayOf
  cases e : ps.lookup n with
  | none => exact .inl rfl
  | some w => exact .inr (lookup_mem e)
theorem ways_wlen (ks : List Knd) : ∀ p ∈ ways ks, p.2.length ≤ ks.length := by
  induction ks using snoc_ind with
  | h0 => intro p h; cases h
  | h1 l a ih =>
    intro p h
    rw [ways_snoc] at h
    rw [List.length_append]
    rcases List.mem_append.mp h with h | h
    · have := ih p h; omega
    · rw [List.mem_singleton] at h
      subst h
      show (a.name :: _).length ≤ l.length + 1
      rw [List.length_cons]
      cases e : a.up with
      | none => exact Nat.succ_le_succ (Nat.zero_le _)
      | some u =>
        show (wayOf (ways l) u).length + 1 ≤ _
        rcases wayOf_in (ways l) u with h | h
        · rw [h]; exact Nat.succ_le_succ (Nat.zero_le _)
        · have : (wayOf (ways l) u).length ≤ l.length := ih _ h
          omega
theorem wayOf_len (ks : List Knd) (n : Str) : (wayOf (ways ks) n).length ≤ ks.length := by
  rcases wayOf_in (ways ks) n with h | h
  · rw [h]; exact Nat.zero_le _
  · exact ways_wlen ks _ h
def WayAt (H : Hp) (kv : Key × V) (p : Str × List Str) : Prop := kv.1 = Sum.inr p.1 ∧ TupAt H kv.2 (p.2.map V.str)
theorem g_lenD {K : PySem.W.Frag} {H : Hp} {Q : VK} {d : Addr} {kvs : List (Key × V)} (h : H d = some (.dK kvs)) (q : Q (.int kvs.length) H) : U.uLen K [.ref d] H Q := Or.inr ⟨kvs, h, q⟩
theorem g_sfld {K : PySem.W.Frag} {σ : L2.St} {H : Hp} {D : Ends} {ta tv : TE} {f : Str} (q : tv σ H fun y H1 => ta σ H1 fun x H2 => ∃ a C dx fs, x = .ref a ∧ H2 a = some (.ins C dx fs) ∧ Cls K C ∧ NoAttr K C f ∧ fs.length < 1000 ∧ D.nx σ (upd H2 a (.ins C dx (putF f y fs)))) : sFld K ta tv f D σ H := q
theorem g_fld {K : PySem.W.Frag} {σ : L2.St} {H : Hp} {Q : VK} {ta : TE} {f : Str} (q : ta σ H fun x H1 => ∃ a C dx fs v, x = .ref a ∧ H1 a = some (.ins C dx fs) ∧ Cls K C ∧ NoAttr K C f ∧ fs.lookup f = some v ∧ Q v H1) : tFld K ta f σ H Q := q
def lossD (ks : List Knd) : List (Key × V) := ks.map fun k => (Sum.inr k.name, V.int k.loss)
theorem val_paired {H : Hp} {n : Str} : ∀ {kvs : List (Key × V)} {ps : List (Str × List Str)}, Paired (WayAt H) kvs ps →
    ((n ∉ ps.map (·.1) ∧ valV kvs (Sum.inr n) = none) ∨ (n ∈ ps.map (·.1) ∧ ∃ v, valV kvs (Sum.inr n) = some v ∧ TupAt H v ((wayOf ps n).map V.str)))
  | _, _, .nil => .inl ⟨by simp, valV_nil⟩
  | (k, v) :: kvs, (m, w) :: ps, .cons ⟨e, t⟩ r => by
    have e : k = Sum.inr m := e
    subst e
    by_cases c : n = m
    · subst c
      refine .inr ⟨by simp, v, valV_pos rfl, ?_⟩
      have : wayOf ((n, w) :: ps) n = w := by unfold wayOf; rw [List.lookup_cons_self]; rfl
      rw [this]
      exact t
    · have nk : ¬ ((Sum.inr m : Key) = Sum.inr n) := fun z => c (Sum.inr.inj z).symm
      have eq : wayOf ((m, w) :: ps) n = wayOf ps n := by
        unfold wayOf
        rw [List.lookup_cons, show (n == m) = false from beq_false_of_ne c]
      rw [valV_neg nk, eq]
      rcases val_paired (n := n) r with ⟨h1, h2⟩ | ⟨h1, h2⟩
      · exact .inl ⟨by simp only [List.map_cons, List.mem_cons, not_or]; exact ⟨c, h1⟩, h2⟩
      · exact .inr ⟨List.mem_cons_of_mem _ h1, h2⟩
theorem lk_fst {k : Str} {v : V} {r : List (Str × V)} : ((k, v) :: r).lookup k = some v := by rw [List.lookup_cons_self]
theorem lk_nxt {k j : Str} {v : V} {r : List (Str × V)} (h : (k == j) = false) : ((j, v) :: r).lookup k = r.lookup k := by rw [List.lookup_cons, h]
theorem lk_nil2 {k a b : Str} {x y : V} (h1 : (k == a) = false) (h2 : (k == b) = false) : [(a, x), (b, y)].lookup k = none := by rw [lk_nxt h1, lk_nxt h2]; rfl
/-- a tree of kinds at a: its dict at dx, its ways up at u, its losses at l -/
structure TreeX (CT : Addr) (H : Hp) (a dx u l : Addr) (ks : List Knd) : Prop where
  hi : H a = some (.ins CT dx [("ups", .ref u), ("losses", .ref l)])
  hu : ∃ kvs, H u = some (.dK kvs) ∧ Paired (WayAt H) kvs (ways ks)
  hl : H l = some (.dK (lossD ks))
  hn : l ≠ u
theorem TreeX.ups {K : PySem.W.Frag} {CT : Addr} {H : Hp} {a dx u l : Addr} {ks : List Knd} (tr : TreeX CT H a dx u l ks) (c : Cls K CT) (n : NoAttr K CT "ups") {R : V → Prop} (q : R (.ref u)) :
    ∃ a' C dx fs v, V.ref a = .ref a' ∧ H a' = some (.ins C dx fs) ∧ Cls K C ∧ NoAttr K C "ups" ∧ fs.lookup ("ups" : Str) = some v ∧ R v := ⟨a, CT, dx, _, _, rfl, tr.hi, c, n, lk_fst, q⟩
theorem TreeX.losses {K : PySem.W.Frag} {CT : Addr} {H : Hp} {a dx u l : Addr} {ks : List Knd} (tr : TreeX CT H a dx u l ks) (c : Cls K CT) (n : NoAttr K CT "losses") {R : V → Prop} (q : R (.ref l)) :
    ∃ a' C dx fs v, V.ref a = .ref a' ∧ H a' = some (.ins C dx fs) ∧ Cls K C ∧ NoAttr K C "losses" ∧ fs.lookup ("losses" : Str) = some v ∧ R v := ⟨a, CT, dx, _, _, rfl, tr.hi, c, n, (lk_nxt (by decide +kernel)).trans lk_fst, q⟩
theorem TreeX.looks {CT : Addr} {H : Hp} {a dx u l : Addr} {ks : List Knd} (tr : TreeX CT H a dx u l ks) (n : Str) : ∃ kvs, H u = some (.dK kvs) ∧ kvs.length = ks.length ∧ (valV kvs (Sum.inr n)).isSome = decide (n ∈ ks.map (·.name)) ∧ (n ∈ ks.map (·.name) → ∃ v, valV kvs (Sum.inr n) = some v ∧ TupAt H v ((wayOf (ways ks) n).map V.str)) := by
  obtain ⟨kvs, e, p⟩ := tr.hu
  refine ⟨kvs, e, by rw [prd_len p, ways_len], ?_⟩
  rw [← ways_names]
  rcases val_paired (n := n) p with ⟨h1, h2⟩ | ⟨h1, v, h2, h3⟩
  · exact ⟨by rw [h2, decide_eq_false h1]; rfl, fun z => absurd z h1⟩
  · exact ⟨by rw [h2, decide_eq_true h1]; rfl, fun _ => ⟨v, h2, h3⟩⟩
theorem WayAt.mono {H H' : Hp} (t : TS H H') {kv : Key × V} {p : Str × List Str} (h : WayAt H kv p) : WayAt H' kv p := ⟨h.1, h.2.mono t⟩
theorem prd_snoc {α β : Type} {R : α → β → Prop} {a : α} {b : β} : ∀ {xs : List α} {ys : List β}, Paired R xs ys → R a b → Paired R (xs ++ [a]) (ys ++ [b])
  | _, _, .nil, h => .cons h .nil
  | _, _, .cons p r, h => .cons p (prd_snoc r h)
theorem prd_mono {α β : Type} {R S : α → β → Prop} (h : ∀ a b, R a b → S a b) : ∀ {xs : List α} {ys : List β}, Paired R xs ys → Paired S xs ys
  | _, _, .nil => .nil
  | _, _, .cons p r => .cons (h _ _ p) (prd_mono h r)
theorem TreeX.mono {CT a dx u l : Addr} {ks : List Knd} {H H' : Hp} (s : Same H H') (h : TreeX CT H a dx u l ks) : TreeX CT H' a dx u l ks :=
  ⟨s _ _ h.hi, let ⟨kvs, e, p⟩ := h.hu; ⟨kvs, s _ _ e, prd_mono (fun _ _ => WayAt.mono (TS.of s)) p⟩, s _ _ h.hl, h.hn⟩
/-- a scale: of a line, of a column of kinds -/
def ScaleAt (CL CT : Addr) (H : Hp) (v : V) (c : Str × Bool) (ks : List Knd) : Prop :=
  if c.2 = true then ∃ a dx u l, v = .ref a ∧ TreeX CT H a dx u l ks else ∃ a dx, v = .ref a ∧ H a = some (.ins CL dx [])
theorem ScaleAt.mono {CL CT : Addr} {H H' : Hp} {v : V} {c : Str × Bool} {ks : List Knd} (s : Same H H') (h : ScaleAt CL CT H v c ks) : ScaleAt CL CT H' v c ks := by
  unfold ScaleAt at h ⊢
  split at h
  · rename_i e
    rw [if_pos e]
    obtain ⟨a, dx, u, l, rfl, t⟩ := h
    exact ⟨a, dx, u, l, rfl, t.mono s⟩
  · rename_i e
    rw [if_neg e]
    obtain ⟨a, dx, rfl, t⟩ := h
    exact ⟨a, dx, rfl, s _ _ t⟩
/-- the kinds of a column -/
abbrev ksOf (ks : List Knd) (c : Str) : List Knd := ks.filter fun k => decide (k.col = c)
/-- the dict of the scales of the columns -/
def ScalesAt (CL CT : Addr) (H : Hp) (kvs : List (Key × V)) (cs : List (Str × Bool)) (ks : List Knd) : Prop :=
  Paired (fun kv c => kv.1 = Sum.inr c.1 ∧ ScaleAt CL CT H kv.2 c (ksOf ks c.1)) kvs cs
theorem ScalesAt.mono {CL CT : Addr} {H H' : Hp} {kvs : List (Key × V)} {cs : List (Str × Bool)} {ks : List Knd} (s : Same H H') (h : ScalesAt CL CT H kvs cs ks) : ScalesAt CL CT H' kvs cs ks :=
  prd_mono (fun _ _ q => ⟨q.1, q.2.mono s⟩) h
def isKind (ks : List Knd) (v : V) : Bool := match v with
  | .str n => decide (n ∈ ks.map (·.name))
  | _ => false
theorem TreeX.lock {CT : Addr} {H H' : Hp} {a dx u l d : Addr} {ks : List Knd} {kvs : List (Key × V)} {k : Key} {od : Obj} (hd : H d = some (.dK kvs)) (hx : (k, V.ref a) ∈ kvs) (h : TreeX CT H a dx u l ks) (s : Same (upd H d (.frz od (.dK kvs))) H') : TreeX CT H' a dx u l ks := by
  have ts : TS H H' := fun c xs e => s _ _ ((upd_ne (fun z => by rw [z, hd] at e; cases e)).trans e)
  refine ⟨s _ _ ((upd_ne (fun z => by rw [← z, h.hi] at hd; cases hd)).trans h.hi), ?_, ?_, h.hn⟩
  · obtain ⟨kvs', e, p⟩ := h.hu
    refine ⟨kvs', s _ _ ((upd_ne fun z => ?_).trans e), prd_mono (fun _ _ => WayAt.mono ts) p⟩
    rw [z, hd] at e
    cases e
    obtain ⟨i, hi⟩ := List.getElem?_of_mem hx
    obtain ⟨y, _, _, a', e', t⟩ := prd_at p hi
    cases e'
    rw [h.hi] at t
    cases t
  · refine s _ _ ((upd_ne fun z => ?_).trans h.hl)
    have e := h.hl
    rw [z, hd] at e
    cases e
    obtain ⟨k', _, e'⟩ := List.mem_map.mp hx
    cases e'
theorem ScaleAt.lock {CL CT : Addr} {H H' : Hp} {d : Addr} {c : Str × Bool} {ks : List Knd} {kvs : List (Key × V)} {k : Key} {x : V} {od : Obj} (hd : H d = some (.dK kvs)) (hx : (k, x) ∈ kvs) (h : ScaleAt CL CT H x c ks) (s : Same (upd H d (.frz od (.dK kvs))) H') : ScaleAt CL CT H' x c ks := by
  unfold ScaleAt at h ⊢
  split at h
  · rename_i e
    rw [if_pos e]
    obtain ⟨a, dx, u, l, rfl, t⟩ := h
    exact ⟨a, dx, u, l, rfl, t.lock hd hx s⟩
  · rename_i e
    rw [if_neg e]
    obtain ⟨a, dx, rfl, t⟩ := h
    exact ⟨a, dx, rfl, s _ _ ((upd_ne (fun z => by rw [← z, t] at hd; cases hd)).trans t)⟩
/-- what is a value of a column -/
def isVal (c : Str × Bool) (ks : List Knd) (v : V) : Bool := if c.2 = true then isKind ks v else intIn (-1000000) 1000000 v
/-- None, a truth value, an int, a text -/
def plainV : V → Bool
  | .non => true
  | .bl _ => true
  | .int _ => true
  | .str s => decide (s.length ≤ 1000000)
  | _ => false
def valsStand (cs : List (Str × Bool)) (ks : List Knd) (vals : List V) : Bool := decide (vals.length = cs.length) && (cs.zip vals).all fun p => isVal p.1 (ksOf ks p.1.1) p.2
theorem plain_int {K : PySem.W.Frag} {H : Hp} {v : V} (h : plainV v = true) (h2 : ∀ z, v ≠ .int z) : ∃ (t : String) (b1 b2 : Bool), TyX K H v (.type t) ∧ kitB t "int" = some b1 ∧ kitB t "bool" = some b2 ∧ (b1 && !b2) = false := by
  cases v with
  | non => exact ⟨"NoneType", false, false, U.ty_non, by decide +kernel, by decide +kernel, rfl⟩
  | bl b => exact ⟨"bool", true, true, U.ty_bl, by decide +kernel, by decide +kernel, rfl⟩
  | int z => exact absurd rfl (h2 z)
  | str s => exact ⟨"str", false, false, U.ty_str, by decide +kernel, by decide +kernel, rfl⟩
  | _ => cases h
theorem plain_str {K : PySem.W.Frag} {H : Hp} {v : V} (h : plainV v = true) (h2 : ∀ z, v ≠ .str z) : ∃ (t : String), TyX K H v (.type t) ∧ kitB t "str" = some false := by
  cases v with
  | non => exact ⟨"NoneType", U.ty_non, by decide +kernel⟩
  | bl b => exact ⟨"bool", U.ty_bl, by decide +kernel⟩
  | int z => exact ⟨"int", U.ty_int, by decide +kernel⟩
  | str s => exact absurd rfl (h2 s)
  | _ => cases h
theorem e_isval_line {K : PySem.W.Frag} {H : Hp} {Q : VK} {v : V} (h : plainV v = true) (q : Q (.bl (intIn (-1000000) 1000000 v)) H) : (∃ z : Int, v = .int z ∧ Q (.bl (decide (-1000000 ≤ z) && decide (z ≤ 1000000))) H) ∨ (∃ (t : String) (b1 b2 : Bool), TyX K H v (.type t) ∧ kitB t "int" = some b1 ∧ kitB t "bool" = some b2 ∧ (b1 && !b2) = false ∧ Q (.bl false) H) := by
  by_cases c : ∃ z, v = .int z
  · obtain ⟨z, rfl⟩ := c
    exact .inl ⟨z, rfl, q⟩
  · obtain ⟨t, b1, b2, h1, h2, h3, h4⟩ := plain_int (K := K) (H := H) h fun z e => c ⟨z, e⟩
    refine .inr ⟨t, b1, b2, h1, h2, h3, h4, ?_⟩
    have e : intIn (-1000000) 1000000 v = false := by
      unfold intIn
      split
      · rename_i z; exact absurd ⟨z, rfl⟩ c
      · rfl
    rw [e] at q
    exact q
theorem e_isval_tree {K : PySem.W.Frag} {H : Hp} {Q : VK} {ks : List Knd} {v : V} (h : plainV v = true) (q : Q (.bl (isKind ks v)) H) : (∃ n : Str, v = .str n ∧ Q (.bl (decide (n ∈ ks.map (·.name)))) H) ∨ (∃ t : String, TyX K H v (.type t) ∧ kitB t "str" = some false ∧ Q (.bl false) H) := by
  by_cases c : ∃ z, v = .str z
  · obtain ⟨z, rfl⟩ := c
    exact .inl ⟨z, rfl, q⟩
  · obtain ⟨t, h1, h2⟩ := plain_str (K := K) (H := H) h fun z e => c ⟨z, e⟩
    refine .inr ⟨t, h1, h2, ?_⟩
    have e : isKind ks v = false := by
      unfold isKind
      split
      · rename_i z; exact absurd ⟨z, rfl⟩ c
      · rfl
    rw [e] at q
    exact q
theorem cut_1 (a : V) (r : List V) : cutV (a :: r) (some 1) none = r := by
  have e : cutV (a :: r) (some ((1 : Nat) : Int)) none = r := by
    unfold cutV
    rw [HT.sIx_none, HT.sIx_nat, List.length_cons]
    have m : min 1 (r.length + 1) = 1 := by omega
    rw [m]
    show (r.drop 0).take _ = _
    rw [List.drop_zero, List.take_of_length_le (by omega)]
  exact e
theorem none_of {H H' : Hp} {p : Addr} (s : Same H H') (h : H' p = none) : H p = none := by
  cases e : H p with
  | none => rfl
  | some o => have := s _ _ e; rw [h] at this; cases this
def lossOf (ks : List Knd) (n : Str) : Int := ((ks.find? fun k => decide (k.name = n)).map (·.loss)).getD 0
theorem val_loss (n : Str) : ∀ ks : List Knd, (n ∈ ks.map (·.name) → valV (lossD ks) (Sum.inr n) = some (.int (lossOf ks n))) ∧ (n ∉ ks.map (·.name) → valV (lossD ks) (Sum.inr n) = none)
  | [] => ⟨fun z => (by cases z), fun _ => rfl⟩
  | k :: r => by
    by_cases c : k.name = n
    · refine ⟨fun _ => ?_, fun z => absurd (by rw [List.map_cons, c]; exact List.mem_cons_self) z⟩
      show valV ((Sum.inr k.name, V.int k.loss) :: lossD r) _ = _
      rw [valV_pos (by rw [c])]
      unfold lossOf
      rw [List.find?_cons_of_pos (by simpa using c)]
      rfl
    · have e : lossOf (k :: r) n = lossOf r n := by unfold lossOf; rw [List.find?_cons_of_neg (by simpa using c)]
      have e2 : valV (lossD (k :: r)) (Sum.inr n) = valV (lossD r) (Sum.inr n) := by
        show valV ((Sum.inr k.name, V.int k.loss) :: lossD r) _ = _
        exact valV_neg (fun z => c (Sum.inr.inj z))
      rw [e, e2]
      obtain ⟨h1, h2⟩ := val_loss n r
      refine ⟨fun z => h1 ?_, fun z => h2 fun y => z (List.mem_cons_of_mem _ y)⟩
      rcases List.mem_cons.mp z with z | z
      · exact absurd z.symm c
      · exact z
/-- what can stand above the next kind -/
def canUp (ks : List Knd) (up : V) (loss : Int) : Bool := if ks.isEmpty then decide (up = .non) else isKind ks up && (match up with
  | .str u => decide (loss ≤ lossOf ks u)
  | _ => false)
end M
namespace U
open PySem PySem.Spec PyProof.Rows L2
theorem u_glst {X : Cx} {K : PySem.W.Frag} {es : List Expr} {k : Nat} {t : TGs} {n : Nat} {pos : Pos} (hK : X.K = K) (hc : X.calm = true) (h : PGs X es t) (hn : (assignEach es X.env).length = n := by rfl) (hst : (assignEach es X.env).findIdx? (·.1) = none := by rfl) : PG X (.Tuple es k pos) (gUnl K n t) := by subst hK; exact pg_unl hc h hn hst
theorem u_cls {X : Cx} {x : Str} {C : Addr} {pos : Pos} (hg : Gl X x) (h : X.mg x = some (.ref C)) (hd : (x == ("__debug__" : Str)) = false := by decide) : PE X (.Name x pos) (tC (.ref C)) := pe_glob hg h rfl hd
theorem u_truth {X : Cx} {K : PySem.W.Frag} {a : Expr} {ta : TE} (hK : X.K = K) (ha : PE X a ta) (he : ∀ whole, isTrue a X.env whole = (do let v ← whole; standAt a.pos; holding [v] (truthy v))) : PT X a (fun σ H Q => ta σ H fun x H' => ∃ k, TruV K x H' k ∧ Q k H') := by subst hK; exact pt_truth ha he
theorem g_unl {K : PySem.W.Frag} {σ : L2.St} {H : Hp} {n : Nat} {g : TGs} {a : Addr} {xs : List V} {R : L2.St → Hp → Prop} (h : SqL K H a xs) (e : xs.length = n) (q : g xs σ H R) : gUnl K n g (.ref a) σ H R := ⟨a, xs, rfl, h, e, q⟩
end U
namespace ZV
open PySem PySem.Spec PyProof.Rows L2
/-! C() of a class that has no __init__ of its own -/
structure MkO (K : PySem.W.Frag) (C : Addr) : Prop where
  makes : PySem.W.makesIn K C = true
  init : PySem.W.findIn K (.ref C) "__init__" = some (some (.builtin "object.__init__"))
  kp : PySem.W.keepIn K (.ref C) = true
def tMakeO (C : Addr) : TE := fun _ H Q => ∀ x dx, H x = none → H dx = none → dx ≠ x → Q (.ref x) (upd (upd H dx (.own x)) x (.ins C dx []))
section
variable {X : Cx} {C : Addr} {x : Str} {p pos : Pos}
theorem run_makeO {pins : List (Addr × Obj)} {σ : L2.St} {H : Hp} {s : Shared} {Q : VK} (M : MkO X.K C) (I : Inv X pins σ H s) (h : tMakeO C σ H Q) : wpAny (model X.prog X.w) X.A (call (.ref C) []) (EP X pins σ Q) X.xe s := by
  have hq := h (s.heap.objs.size + 1) s.heap.objs.size (I.hok.fresh (Nat.le_succ _)) (I.hok.fresh (Nat.le_refl _)) (Nat.ne_of_lt (Nat.lt_succ_self _))
  have I2 := Inv.made (C := C) I
  refine wpAny_call ?_
  have KI := I.kIn
  obtain ⟨hh, g, d, t, os⟩ := s
  have Y := PySem.W.makes_of (M := model X.prog X.w) KI M.makes
  refine PySem.W.make_core Y (PySem.W.looks_findIn KI M.init) (fun self => PySem.W.Looks.of_pure (PySem.W.oi_bind self)) (.inr ⟨rfl, rfl⟩) ?_
  have hx : ((hh.push PySem.W.emptyDict).push (PySem.W.instObj C hh.objs.size)).get? (hh.objs.size + 1) = some (PySem.W.instObj C hh.objs.size) := by
    have := Heap.get?_push_size (hh.push PySem.W.emptyDict) (o := PySem.W.instObj C hh.objs.size) rfl
    rwa [Heap.size_push] at this
  have t1 : PySem.W.Looks (model X.prog X.w) ((hh.push PySem.W.emptyDict).push (PySem.W.instObj C hh.objs.size)) (typeOf (.ref (hh.objs.size + 1))) (.ref C) := (PySem.W.Looks.ld hx).andThen .now
  have t2 : PySem.W.Looks (model X.prog X.w) ((hh.push PySem.W.emptyDict).push (PySem.W.instObj C hh.objs.size)) (isInstance (.ref (hh.objs.size + 1)) (.type "object")) true := t1.andThen (Y.top.keeps fun b o e => Heap.get?_push_of_some _ (Heap.get?_push_of_some _ e))
  refine codeAny_call_builtin PySem.W.oi_plain PySem.W.entry_oi (@PySem.W.check_slot (model X.prog X.w) _ _ _ "object.__init__" "object" "__init__" (.ref (hh.objs.size + 1)) [] [] _ PySem.W.oi_kind PySem.W.oi_split t2 (PySem.W.oi_args (.ref (hh.objs.size + 1))) ?_)
  rw [PySem.W.oi_run]
  exact wpAny_pure (And.intro rfl ⟨V.ref (hh.objs.size + 1), _, I2, rfl, hq⟩)
theorem pe_makeO {K : PySem.W.Frag} (hK : X.K = K) (M : MkO K C) (hg : Gl X x) (hm : X.mg x = some (.ref C)) (hdb : (x == ("__debug__" : Str)) = false := by decide) : PE X (.Call (.Name x p) [] [] pos) (tMakeO C) := by
  subst hK
  refine ⟨fun pins s σ H Q I h => ?_⟩
  refine wpAny_Call_Name_kw (ld_glob I hg hm ?_ hdb)
  exact PySem.W.callWith_K0 I.kIn M.kp (run_makeO M I h)
end
end ZV
namespace ZV
open PySem PySem.Spec PyProof.Rows L2
/-! zip(d.values(), list or tuple), d locked -/
section
variable {prog : Program} {w : World} {K : Type} [DecidableEq K] {knd : KeyKind prog w K} {A : Around} {E : Value → Shared → Prop} {s : Shared}
theorem nextOf_values_item {it d : Addr} {i ep : Nat} {kvs : List (K × Value)} {k : K} {v : Value} {Q : Value → Shared → Prop} (hit : s.heap.IsValIter it d i kvs.length ep)
    (hm : s.heap.DictAt knd d kvs ep) (hx : kvs[i]? = some (k, v))
    (hQ : ∀ h', h'.IsValIter it d (i + 1) kvs.length ep → Heap.SameBut it s.heap h' → Q v { s with heap := h' }) :
    wpAny (model prog w) A (Builtin.SmallTypes.nextOf (.ref it)) Q E s := by
  obtain ⟨o, ho, hc, hd⟩ := id hit
  obtain ⟨od, es, hod, hcd, hdd, hk, hp, hn⟩ := id hm
  unfold Builtin.SmallTypes.nextOf
  refine wpAny_bind (wpAny_callSpecial?_slot (name := Str.ofString "__next__") hit.typeIs F.slot_dict_valueiterator_next
    (wpAny_call_entry F.slot_dict_valueiterator_next hit.typeIs F.entry_dict_valueiterator_next ?_ (F.args_dict_valueiterator_next_1 _)))
  refine wpAny_bind (wpAny_pure ?_)
  refine wpAny_bind ?_
  refine wpAny_bind ?_
  first | refine wpAny_bind (wpAny_typeNameOfWhole_valiter hit.typeIs (wpAny_pure ?_)) | refine wpAny_bind (wpAny_typeNameOf_valiter hit.typeIs (wpAny_pure ?_))
  refine wpAny_bind (wpAny_fieldsOf ho hd ?_)
  have hown : Builtin.Dict_items.ownsTuple "dict_valueiterator" = false := by decide
  simp only [hown, Bool.false_eq_true, if_false]
  show wpAny _ _ (if (Value.ref d == Value.none) = true then _ else _) _ _ s
  rw [if_neg (show ¬ ((Value.ref d == Value.none) = true) from Bool.false_ne_true)]
  refine wpAny_bind (wpAny_pure ?_)
  refine wpAny_bind (wpAny_dictEntries hod hdd ?_)
  have hsz : es.size = kvs.length := by rw [← hp.length]; simp
  rw [if_neg (by rw [hsz]; simp)]
  refine wpAny_bind (wpAny_pure ?_)
  refine wpAny_bind (wpAny_dictEpoch hod hdd ?_)
  rw [if_neg (by simp)]
  refine wpAny_pure ?_
  have hlt : i < kvs.length := by
    rcases Nat.lt_or_ge i kvs.length with h | h
    · exact h
    · simp [List.getElem?_eq_none h] at hx
  have hlt' : i < es.size := by rw [hsz]; exact hlt
  have hval : es[i].val = v := (hp.get? (e := es[i]) (by simp [hlt']) hx).2
  simp only [show ¬ ((i : Int) < 0) from by omega, if_false, Int.toNat_natCast, Array.getElem?_eq_getElem hlt']
  refine wpAny_bind ?_
  first | refine wpAny_bind (wpAny_typeNameOfWhole_valiter hit.typeIs (wpAny_pure ?_)) | refine wpAny_bind (wpAny_typeNameOf_valiter hit.typeIs (wpAny_pure ?_))
  refine wpAny_bind (wpAny_isOneOf_valiter hit.typeIs ?_)
  show wpAny _ _ (setField (.ref it) 1 (rawInt ((i : Int) + 1)) >>= _) _ _ s
  refine wpAny_bind (wpAny_setField ho hd (by simp) ?_)
  have hit' : (s.heap.update it (Obj.mapFields (·.setIfInBounds 1 (rawInt ((i : Int) + 1))))).IsValIter it d (i + 1) kvs.length ep :=
    ⟨_, Heap.get?_update_self _ ho (Obj.isFreed_of_fields (Obj.data_mapFields hd _)), (Obj.cls_mapFields ..).trans hc, by rw [Obj.data_mapFields hd]; simp [rawInt]⟩
  refine wpAny_bind (wpAny_holding ?_)
  refine wpAny_bind (wpAny_isOneOf_valiter (s := { s with heap := s.heap.update it (Obj.mapFields (·.setIfInBounds 1 (rawInt ((i : Int) + 1)))) }) hit'.typeIs ?_)
  refine wpAny_bind (wpAny_isOneOf_valiter (s := { s with heap := s.heap.update it (Obj.mapFields (·.setIfInBounds 1 (rawInt ((i : Int) + 1)))) }) hit'.typeIs ?_)
  show wpAny _ _ (pure es[i].val) _ _ _
  exact wpAny_pure (wpAny_pure ⟨_, rfl, wpAny_pure (hval ▸ hQ _ hit' (Heap.SameBut.update ..))⟩)
theorem nextOf_values_end {it d : Addr} {i ep : Nat} {kvs : List (K × Value)} {Q : Value → Shared → Prop} (hh : A.handled = none) (hit : s.heap.IsValIter it d i kvs.length ep)
    (hm : s.heap.DictAt knd d kvs ep) (hx : kvs[i]? = none)
    (hE : ∀ h' e, Heap.ExtBut it s.heap h' → (∃ o, h'.get? e = some o ∧ o.cls = .type "StopIteration") → E (.ref e) { s with heap := h' }) : wpAny (model prog w) A (Builtin.SmallTypes.nextOf (.ref it)) Q E s := by
  obtain ⟨o, ho, hc, hd⟩ := id hit
  obtain ⟨od, es, hod, hcd, hdd, hk, hp, hn⟩ := id hm
  unfold Builtin.SmallTypes.nextOf
  refine wpAny_bind (wpAny_callSpecial?_slot (name := Str.ofString "__next__") hit.typeIs F.slot_dict_valueiterator_next
    (wpAny_call_entry F.slot_dict_valueiterator_next hit.typeIs F.entry_dict_valueiterator_next ?_ (F.args_dict_valueiterator_next_1 _)))
  refine wpAny_bind (wpAny_pure ?_)
  refine wpAny_bind ?_
  refine wpAny_bind ?_
  first | refine wpAny_bind (wpAny_typeNameOfWhole_valiter hit.typeIs (wpAny_pure ?_)) | refine wpAny_bind (wpAny_typeNameOf_valiter hit.typeIs (wpAny_pure ?_))
  refine wpAny_bind (wpAny_fieldsOf ho hd ?_)
  have hown : Builtin.Dict_items.ownsTuple "dict_valueiterator" = false := by decide
  simp only [hown, Bool.false_eq_true, if_false]
  show wpAny _ _ (if (Value.ref d == Value.none) = true then _ else _) _ _ s
  rw [if_neg (show ¬ ((Value.ref d == Value.none) = true) from Bool.false_ne_true)]
  refine wpAny_bind (wpAny_pure ?_)
  refine wpAny_bind (wpAny_dictEntries hod hdd ?_)
  have hsz : es.size = kvs.length := by rw [← hp.length]; simp
  rw [if_neg (by rw [hsz]; simp)]
  refine wpAny_bind (wpAny_pure ?_)
  refine wpAny_bind (wpAny_dictEpoch hod hdd ?_)
  rw [if_neg (by simp)]
  refine wpAny_pure ?_
  have hge : es.size ≤ i := by rw [hsz]; simpa using hx
  simp only [show ¬ ((i : Int) < 0) from by omega, if_false, Int.toNat_natCast, Array.getElem?_eq_none hge]
  refine wpAny_bind ?_
  first | refine wpAny_bind (wpAny_typeNameOfWhole_valiter hit.typeIs (wpAny_pure ?_)) | refine wpAny_bind (wpAny_typeNameOf_valiter hit.typeIs (wpAny_pure ?_))
  show wpAny _ _ (setField (.ref it) 0 .none >>= _) _ _ s
  refine wpAny_bind (wpAny_setField ho hd (by simp) ?_)
  show wpAny _ _ (newExc (.type "StopIteration") [] >>= _) _ _ _
  refine wpAny_bind ?_
  simp only [newExc, newTuple]
  refine wpAny_bind (wpAny_newObj_type ?_ (by size_fits))
  refine wpAny_bind (m := firstArgMember _ _) (wpAny_of_eq (a := Value.none) (by first | rfl | (simp only [firstArgMember]; rfl)) ?_)
  refine wpAny_newObj_type ?_ (by size_fits)
  simp only [raiseNew]
  refine wpAny_bind (wpAny_handled ?_)
  first | rw [show A.in1.handled = none from hh] | rw [hh]
  refine wpAny_bind (wpAny_pure (wpAny_throw ?_))
  exact hE _ _ (((Heap.SameBut.update ..).extBut.push _).push _) ⟨_, Heap.get?_push_size _ rfl, rfl⟩
end
theorem dictAt_keep {prog : Program} {w : World} {K : Type} [DecidableEq K] {knd : KeyKind prog w K} {h h' : Heap} {d : Addr} {kvs : List (K × Value)} {ep : Nat} (x : h.DictAt knd d kvs ep) (k : ∀ o, h.get? d = some o → h'.get? d = some o) : h'.DictAt knd d kvs ep := by
  obtain ⟨od, es, hod, r⟩ := x
  exact ⟨od, es, k _ hod, r⟩
theorem draws_values {prog : Program} {w : World} {K : Type} [DecidableEq K] {knd : KeyKind prog w K} {A : Around} (hh : A.handled = none) (it d : Addr) (hne : d ≠ it) (kvs : List (K × Value)) (ep : Nat) :
    Draws prog w A it [it, d] kvs.length (fun i v => ∃ k, kvs[i]? = some (k, v)) (fun i h => h.IsValIter it d i kvs.length ep ∧ h.DictAt knd d kvs ep) where
  live := fun _ _ st => let ⟨o, ho, _⟩ := st.1; ⟨o, ho⟩
  frame := fun _ _ _ st hk => ⟨st.1.at fun o e => hk it (by simp) o e, dictAt_keep st.2 fun o e => hk d (by simp) o e⟩
  item := fun i s Q E hi st hQ => by
    refine nextOf_values_item st.1 st.2 (k := kvs[i].1) (v := kvs[i].2) (by simp [hi]) fun h' hit' hs' => ?_
    exact hQ _ h' s.toks ⟨kvs[i].1, by simp [hi]⟩ ⟨hit', dictAt_keep st.2 fun o e => hs'.extBut _ _ hne e⟩ hs'
  done := fun s Q E st hE => nextOf_values_end hh st.1 st.2 (by simp) hE
theorem begins_values (v d : Addr) (es : Array DictEntry) (ep : Nat) : Begins (.ref v) { cls := .type "dict_valueiterator", data := .fields #[.ref d, .int 0 0, .int es.size 0, .int ep 0] } fun h => h.IsValuesView v d ∧ h.DictRaw d es ep where
  iter := fun prog w A E s Q h q => wpAny_pyIter_values_raw h.1 h.2 q
  keeps := fun h h' x hk => ⟨let ⟨o, ho, r⟩ := x.1; ⟨o, hk _ _ ho, r⟩, x.2.at fun o e => hk _ _ e⟩
  free := rfl
theorem sep5 {n d b : Addr} (hd : d < n) (hb : b < n) : ZipSep2 (n + 4) (n + 2) (n + 3) n (n + 1) [n, d] [n + 1, b] where
  TIz := by simp [Addr]
  TOz := by simp [Addr]
  TITO := by simp [Addr]
  TIi1 := by simp [Addr]
  mem1 := by simp
  zf1 := by simp only [List.mem_cons, List.not_mem_nil, or_false, not_or]; exact ⟨Nat.ne_of_gt (Nat.lt_add_of_pos_right (by decide)), Nat.ne_of_gt (Nat.lt_of_lt_of_le hd (Nat.le_add_right _ _))⟩
  Tf1 := by simp only [List.mem_cons, List.not_mem_nil, or_false, not_or]; exact ⟨Nat.ne_of_gt (Nat.lt_add_of_pos_right (by decide)), Nat.ne_of_gt (Nat.lt_of_lt_of_le hd (Nat.le_add_right _ _))⟩
  TIi2 := by simp [Addr]
  mem2 := by simp
  zf2 := by simp only [List.mem_cons, List.not_mem_nil, or_false, not_or]; exact ⟨Nat.ne_of_gt (Nat.add_lt_add_left (by decide) n), Nat.ne_of_gt (Nat.lt_of_lt_of_le hb (Nat.le_add_right _ _))⟩
  Tf2 := by simp only [List.mem_cons, List.not_mem_nil, or_false, not_or]; exact ⟨Nat.ne_of_gt (Nat.add_lt_add_left (by decide) n), Nat.ne_of_gt (Nat.lt_of_lt_of_le hb (Nat.le_add_right _ _))⟩
  sep1_2 := by simp only [List.mem_cons, List.not_mem_nil, or_false, not_or]; exact ⟨Nat.ne_of_lt (Nat.lt_add_of_pos_right (by decide)), Nat.ne_of_gt hb⟩
  sep2_1 := by simp only [List.mem_cons, List.not_mem_nil, or_false, not_or]; exact ⟨Nat.ne_of_gt (Nat.lt_add_of_pos_right (by decide)), Nat.ne_of_gt (Nat.lt_of_lt_of_le hd (Nat.le_add_right _ _))⟩
/-- the values of the locked dict d beside the items at b, in new pairs -/
def ItvT (K : PySem.W.Frag) (d : Addr) (o : Obj) (kvs : List (Key × V)) (b : Addr) : It :=
  ⟨fun i H => H d = some (.frz o (.dK kvs)) ∧ i < kvs.length ∧ ∃ (ys : List V), SqT K H b ys ∧ i < ys.length,
    fun i H v H' => ∃ T k x y, v = .ref T ∧ H T = none ∧ H' = upd H T (.tup [x, y]) ∧ kvs[i]? = some (k, x) ∧ ∀ ys, SqT K H b ys → ys[i]? = some y,
    fun i H => H d = some (.frz o (.dK kvs)) ∧ ∃ ys : List V, SqT K H b ys ∧ i ≤ kvs.length ∧ i ≤ ys.length ∧ (i = kvs.length ∨ i = ys.length)⟩
theorem turn_zipVT {P : Program} {w : World} {K : PySem.W.Frag} {elts : List Expr} {kk : Nat} {tpos : Pos} {d b z TI TO i1 i2 : Addr} {o : Obj} {kvs : List (Key × V)} {es : Array DictEntry} {ep : Nat} (hod : o.data = .dict es ep) (S : ZipSep2 z TI TO i1 i2 [i1, d] [i2, b]) (n1 : d ≠ i1) (n2 : b ≠ i2) :
    Turn P w K (.Tuple elts kk tpos) (ItvT K d o kvs b) [z, TI, TO, i1, i2] z (fun i h => IsZip h z TI TO .none ∧ IsTupOf2 h TI (.ref i1) (.ref i2) ∧ (∃ x y, IsTupOf2 h TO x y) ∧ h.IsValIter i1 d i kvs.length ep ∧ h.IsTupleIter i2 b i) where
  mem := by simp
  obj := fun i h st c hc => by
    obtain ⟨hz, hTI, ⟨x, y, hTO⟩, ⟨o1, e1, _, d1⟩, ⟨o2, e2, _, d2⟩⟩ := st
    have e' : c = z ∨ c = TI ∨ c = TO ∨ c = i1 ∨ c = i2 := by simpa using hc
    rcases e' with q | q | q | q | q
    · rw [q]; exact ⟨_, hz, fun v q => nomatch q⟩
    · rw [q]; exact ⟨_, hTI, fun v q => nomatch q⟩
    · rw [q]; exact ⟨_, hTO, fun v q => nomatch q⟩
    · rw [q]; exact ⟨o1, e1, fun v q => by rw [d1] at q; cases q⟩
    · rw [q]; exact ⟨o2, e2, fun v q => by rw [d2] at q; cases q⟩
  keep := fun i h h' st k => by
    obtain ⟨hz, hTI, ⟨x, y, hTO⟩, h1, h2⟩ := st
    exact ⟨k z (by simp) _ hz, k TI (by simp) _ hTI, ⟨x, y, k TO (by simp) _ hTO⟩, h1.at fun o q => k i1 (by simp) o q, h2.at fun o q => k i2 (by simp) o q⟩
  item := by
    intro X hP hw hK hc i pins s σ H E I hf st hg
    subst hP hw hK
    obtain ⟨hz, hTI, ⟨x0, y0, hTO⟩, h1, h2⟩ := st
    obtain ⟨hd, hi, ys, hqy, hiy⟩ := hg
    obtain ⟨hs, hgd, hx, es', ep', vs, hdt, hsz, kv, hm⟩ := I.frzK hd
    obtain ⟨rfl, rfl⟩ := dict_ep hod hdt
    obtain ⟨its2, rv2, p2, _⟩ := I.tuple hqy
    have hl : kvs.length = vs.length := Paired.length kv
    have hl2 := rv2.length
    have hh : X.A.in1.handled = none := I.ok.hd hc
    obtain ⟨⟨k0, x⟩, hkv⟩ : ∃ p, kvs[i]? = some p := ⟨kvs[i], List.getElem?_eq_getElem hi⟩
    obtain ⟨u, hu, ru⟩ := kv_get kv hkv
    have hy : ys[i]? = some ys[i] := List.getElem?_eq_getElem hiy
    obtain ⟨u2, hu2, ru2⟩ := rv2.get hy
    have hzl : z < s.heap.objs.size := Heap.lt_size hz
    rw [hl] at h1
    refine wpAny_pyNext_zipD2_item (A := X.A) S (draws_values (A := X.A.in1) (knd := mixKind X.prog X.w) hh i1 d n1 vs _) (Draws.tuple (A := X.A.in1) hh i2 b n2 its2.toArray) hz hTI hTO ⟨h1, hm⟩ ⟨h2, p2⟩ (by omega) (by simp; omega) fun v v2 h' tk ev ev2 z' TO' st1' st2' hT hsz' hk => ?_
    obtain ⟨k', ev⟩ := ev
    obtain rfl : v = u := by rw [hu] at ev; cases ev; rfl
    obtain rfl : v2 = u2 := by
      have e : its2.toArray[i]? = some u2 := by simpa using hu2
      rw [e] at ev2; cases ev2; rfl
    refine ⟨_, rfl, wpAny_letOwnedTupleGo_zip (s := { s with heap := h', toks := tk }) z' fun h'' z'' sb => ?_⟩
    have hT2 : h''.get? s.heap.objs.size = some { cls := .type "tuple", data := .seq #[v, v2] } := (sb.2 _ (Nat.ne_of_gt hzl)).trans hT
    have new : ObjOk X.prog X.w (upd H s.heap.objs.size (.tup [x, ys[i]])) h'' s.heap.objs.size (.tup [x, ys[i]]) :=
      ⟨by show 2 ≤ sizeLine; decide, [v, v2], .cons ru (.cons ru2 .nil), ⟨_, hT2, rfl, _, rfl⟩⟩
    have I1 : Inv X pins σ (upd H s.heap.objs.size (.tup [x, ys[i]])) { s with heap := h'', toks := tk } :=
      I.turnedNew (t' := tk) (ch := [z, TI, TO, i1, i2]) (fun c o hb q => (sb.2 c (fun q' => hb (by simp [q']))).trans (hk c o (fun q' => hb (by simp [q'])) (fun q' => hb (by simp [q'])) (fun q' => hb (by simp [q'])) (fun q' => hb (by simp [q'])) q)) hf (Nat.le_refl _) new
    refine ⟨.ref s.heap.objs.size, _, I1, rfl, ⟨_, k0, x, _, rfl, I.hok.fresh (Nat.le_refl _), rfl, hkv, fun l hl => by rw [I.tuple_inj hl hqy]; exact hy⟩, ⟨z'', (sb.2 _ S.TIz).trans (hk _ _ S.TIz S.TITO S.TIi1 S.TIi2 hTI), ⟨v, v2, (sb.2 _ S.TOz).trans TO'⟩, ?_, st2'.1.at fun o q => (sb.2 i2 S.zi2.symm).trans q⟩, fun c hcm => ?_⟩
    · rw [hl]
      exact st1'.1.at fun o q => (sb.2 i1 S.zi1.symm).trans q
    · have hlt : c < s.heap.objs.size := by
        have e' : c = z ∨ c = TI ∨ c = TO ∨ c = i1 ∨ c = i2 := by simpa using hcm
        rcases e' with q | q | q | q | q
        · rw [q]; exact hzl
        · rw [q]; exact Heap.lt_size hTI
        · rw [q]; exact Heap.lt_size hTO
        · rw [q]; obtain ⟨_, e1, _⟩ := h1; exact Heap.lt_size e1
        · rw [q]; obtain ⟨_, e2, _⟩ := h2; exact Heap.lt_size e2
      rw [upd_ne (Nat.ne_of_lt hlt)]
      exact (hf c hcm).1
  done := by
    intro X hP hw hK hc i pins s σ H E I hf st hg
    subst hP hw hK
    obtain ⟨hz, hTI, ⟨x0, y0, hTO⟩, h1, h2⟩ := st
    obtain ⟨hd, ys, hqy, hi, hiy, hend⟩ := hg
    obtain ⟨hs, hgd, hx, es', ep', vs, hdt, hsz, kv, hm⟩ := I.frzK hd
    obtain ⟨rfl, rfl⟩ := dict_ep hod hdt
    obtain ⟨its2, rv2, p2, _⟩ := I.tuple hqy
    have hl : kvs.length = vs.length := Paired.length kv
    have hl2 := rv2.length
    have hh : X.A.in1.handled = none := I.ok.hd hc
    rw [hl] at h1
    have z2 : its2.toArray.size = its2.length := by simp
    exact wpAny_pyNext_zipD2_end (A := X.A) S (draws_values (A := X.A.in1) (knd := mixKind X.prog X.w) hh i1 d n1 vs _) (Draws.tuple (A := X.A.in1) hh i2 b n2 its2.toArray) hz hTI hTO ⟨h1, hm⟩ ⟨h2, p2⟩ (by omega) (by omega) (by omega) fun h' tk hk => ⟨rfl, I.turnedL (t' := tk) (ch := [z, TI, TO, i1, i2]) (fun c o hb q =>
      hk c o (fun q' => hb (by simp [q'])) (fun q' => hb (by simp [q'])) (fun q' => hb (by simp [q'])) (fun q' => hb (by simp [q'])) q) hf⟩
  self := fun A i s Q E st h => wpAny_pyIter_zip st.1 h
/-- the values of the locked dict d beside the items at b, in new pairs -/
def ItvL (K : PySem.W.Frag) (d : Addr) (o : Obj) (kvs : List (Key × V)) (b : Addr) : It :=
  ⟨fun i H => H d = some (.frz o (.dK kvs)) ∧ i < kvs.length ∧ ∃ (ys : List V), SqL K H b ys ∧ i < ys.length,
    fun i H v H' => ∃ T k x y, v = .ref T ∧ H T = none ∧ H' = upd H T (.tup [x, y]) ∧ kvs[i]? = some (k, x) ∧ ∀ ys, SqL K H b ys → ys[i]? = some y,
    fun i H => H d = some (.frz o (.dK kvs)) ∧ ∃ ys : List V, SqL K H b ys ∧ i ≤ kvs.length ∧ i ≤ ys.length ∧ (i = kvs.length ∨ i = ys.length)⟩
theorem turn_zipVL {P : Program} {w : World} {K : PySem.W.Frag} {elts : List Expr} {kk : Nat} {tpos : Pos} {d b z TI TO i1 i2 : Addr} {o : Obj} {kvs : List (Key × V)} {es : Array DictEntry} {ep : Nat} (hod : o.data = .dict es ep) (S : ZipSep2 z TI TO i1 i2 [i1, d] [i2, b]) (n1 : d ≠ i1) (n2 : b ≠ i2) :
    Turn P w K (.Tuple elts kk tpos) (ItvL K d o kvs b) [z, TI, TO, i1, i2] z (fun i h => IsZip h z TI TO .none ∧ IsTupOf2 h TI (.ref i1) (.ref i2) ∧ (∃ x y, IsTupOf2 h TO x y) ∧ h.IsValIter i1 d i kvs.length ep ∧ h.IsListIter i2 b i) where
  mem := by simp
  obj := fun i h st c hc => by
    obtain ⟨hz, hTI, ⟨x, y, hTO⟩, ⟨o1, e1, _, d1⟩, ⟨o2, e2, _, d2⟩⟩ := st
    have e' : c = z ∨ c = TI ∨ c = TO ∨ c = i1 ∨ c = i2 := by simpa using hc
    rcases e' with q | q | q | q | q
    · rw [q]; exact ⟨_, hz, fun v q => nomatch q⟩
    · rw [q]; exact ⟨_, hTI, fun v q => nomatch q⟩
    · rw [q]; exact ⟨_, hTO, fun v q => nomatch q⟩
    · rw [q]; exact ⟨o1, e1, fun v q => by rw [d1] at q; cases q⟩
    · rw [q]; exact ⟨o2, e2, fun v q => by rw [d2] at q; cases q⟩
  keep := fun i h h' st k => by
    obtain ⟨hz, hTI, ⟨x, y, hTO⟩, h1, h2⟩ := st
    exact ⟨k z (by simp) _ hz, k TI (by simp) _ hTI, ⟨x, y, k TO (by simp) _ hTO⟩, h1.at fun o q => k i1 (by simp) o q, h2.at fun o q => k i2 (by simp) o q⟩
  item := by
    intro X hP hw hK hc i pins s σ H E I hf st hg
    subst hP hw hK
    obtain ⟨hz, hTI, ⟨x0, y0, hTO⟩, h1, h2⟩ := st
    obtain ⟨hd, hi, ys, hqy, hiy⟩ := hg
    obtain ⟨hs, hgd, hx, es', ep', vs, hdt, hsz, kv, hm⟩ := I.frzK hd
    obtain ⟨rfl, rfl⟩ := dict_ep hod hdt
    obtain ⟨its2, rv2, p2, _⟩ := I.list hqy
    have hl : kvs.length = vs.length := Paired.length kv
    have hl2 := rv2.length
    have hh : X.A.in1.handled = none := I.ok.hd hc
    obtain ⟨⟨k0, x⟩, hkv⟩ : ∃ p, kvs[i]? = some p := ⟨kvs[i], List.getElem?_eq_getElem hi⟩
    obtain ⟨u, hu, ru⟩ := kv_get kv hkv
    have hy : ys[i]? = some ys[i] := List.getElem?_eq_getElem hiy
    obtain ⟨u2, hu2, ru2⟩ := rv2.get hy
    have hzl : z < s.heap.objs.size := Heap.lt_size hz
    rw [hl] at h1
    refine wpAny_pyNext_zipD2_item (A := X.A) S (draws_values (A := X.A.in1) (knd := mixKind X.prog X.w) hh i1 d n1 vs _) (Draws.list (A := X.A.in1) hh i2 b n2 its2.toArray) hz hTI hTO ⟨h1, hm⟩ ⟨h2, p2.isList⟩ (by omega) (by simp; omega) fun v v2 h' tk ev ev2 z' TO' st1' st2' hT hsz' hk => ?_
    obtain ⟨k', ev⟩ := ev
    obtain rfl : v = u := by rw [hu] at ev; cases ev; rfl
    obtain rfl : v2 = u2 := by
      have e : its2.toArray[i]? = some u2 := by simpa using hu2
      rw [e] at ev2; cases ev2; rfl
    refine ⟨_, rfl, wpAny_letOwnedTupleGo_zip (s := { s with heap := h', toks := tk }) z' fun h'' z'' sb => ?_⟩
    have hT2 : h''.get? s.heap.objs.size = some { cls := .type "tuple", data := .seq #[v, v2] } := (sb.2 _ (Nat.ne_of_gt hzl)).trans hT
    have new : ObjOk X.prog X.w (upd H s.heap.objs.size (.tup [x, ys[i]])) h'' s.heap.objs.size (.tup [x, ys[i]]) :=
      ⟨by show 2 ≤ sizeLine; decide, [v, v2], .cons ru (.cons ru2 .nil), ⟨_, hT2, rfl, _, rfl⟩⟩
    have I1 : Inv X pins σ (upd H s.heap.objs.size (.tup [x, ys[i]])) { s with heap := h'', toks := tk } :=
      I.turnedNew (t' := tk) (ch := [z, TI, TO, i1, i2]) (fun c o hb q => (sb.2 c (fun q' => hb (by simp [q']))).trans (hk c o (fun q' => hb (by simp [q'])) (fun q' => hb (by simp [q'])) (fun q' => hb (by simp [q'])) (fun q' => hb (by simp [q'])) q)) hf (Nat.le_refl _) new
    refine ⟨.ref s.heap.objs.size, _, I1, rfl, ⟨_, k0, x, _, rfl, I.hok.fresh (Nat.le_refl _), rfl, hkv, fun l hl => by rw [I.list_inj hl hqy]; exact hy⟩, ⟨z'', (sb.2 _ S.TIz).trans (hk _ _ S.TIz S.TITO S.TIi1 S.TIi2 hTI), ⟨v, v2, (sb.2 _ S.TOz).trans TO'⟩, ?_, st2'.1.at fun o q => (sb.2 i2 S.zi2.symm).trans q⟩, fun c hcm => ?_⟩
    · rw [hl]
      exact st1'.1.at fun o q => (sb.2 i1 S.zi1.symm).trans q
    · have hlt : c < s.heap.objs.size := by
        have e' : c = z ∨ c = TI ∨ c = TO ∨ c = i1 ∨ c = i2 := by simpa using hcm
        rcases e' with q | q | q | q | q
        · rw [q]; exact hzl
        · rw [q]; exact Heap.lt_size hTI
        · rw [q]; exact Heap.lt_size hTO
        · rw [q]; obtain ⟨_, e1, _⟩ := h1; exact Heap.lt_size e1
        · rw [q]; obtain ⟨_, e2, _⟩ := h2; exact Heap.lt_size e2
      rw [upd_ne (Nat.ne_of_lt hlt)]
      exact (hf c hcm).1
  done := by
    intro X hP hw hK hc i pins s σ H E I hf st hg
    subst hP hw hK
    obtain ⟨hz, hTI, ⟨x0, y0, hTO⟩, h1, h2⟩ := st
    obtain ⟨hd, ys, hqy, hi, hiy, hend⟩ := hg
    obtain ⟨hs, hgd, hx, es', ep', vs, hdt, hsz, kv, hm⟩ := I.frzK hd
    obtain ⟨rfl, rfl⟩ := dict_ep hod hdt
    obtain ⟨its2, rv2, p2, _⟩ := I.list hqy
    have hl : kvs.length = vs.length := Paired.length kv
    have hl2 := rv2.length
    have hh : X.A.in1.handled = none := I.ok.hd hc
    rw [hl] at h1
    have z2 : its2.toArray.size = its2.length := by simp
    exact wpAny_pyNext_zipD2_end (A := X.A) S (draws_values (A := X.A.in1) (knd := mixKind X.prog X.w) hh i1 d n1 vs _) (Draws.list (A := X.A.in1) hh i2 b n2 its2.toArray) hz hTI hTO ⟨h1, hm⟩ ⟨h2, p2.isList⟩ (by omega) (by omega) (by omega) fun h' tk hk => ⟨rfl, I.turnedL (t' := tk) (ch := [z, TI, TO, i1, i2]) (fun c o hb q =>
      hk c o (fun q' => hb (by simp [q'])) (fun q' => hb (by simp [q'])) (fun q' => hb (by simp [q'])) (fun q' => hb (by simp [q'])) q) hf⟩
  self := fun A i s Q E st h => wpAny_pyIter_zip st.1 h
def iZipV (K : PySem.W.Frag) (td : TE) (t2 : TA) : TI := fun σ H R => td σ H fun x H1 => ∃ d o kvs, x = .ref d ∧ H1 d = some (.frz o (.dK kvs)) ∧ t2 σ H1 fun vs H2 => ∃ b, vs = [.ref b] ∧ H2 d = some (.frz o (.dK kvs)) ∧ ((∃ ys, SqT K H2 b ys ∧ R (ItvT K d o kvs b) H2) ∨ ∃ ys, SqL K H2 b ys ∧ R (ItvL K d o kvs b) H2)
theorem pi_zipV {X : Cx} {K : PySem.W.Frag} {e e2 : Expr} {td : TE} {t2 : TA} {p pos tpos apos cpos : Pos} {elts : List Expr} {kk : Nat} (hK : X.K = K) (hg : Gl X "zip") (hm : X.mg "zip" = none) (he : PE X e td) (h2 : PA X [e2] t2) (hbase : attributeBase e "values" X.env (eval e X.env) = eval e X.env := by rfl) (hline : (apos.endLine == cpos.line) = true := by rfl)
    (hs : starEach [.Call (.Attribute e "values" apos) [] [] cpos, e2] X.env = (false, eval (.Call (.Attribute e "values" apos) [] [] cpos) X.env) :: starEach [e2] X.env := by rfl) (hpl : (backTo pos (starEach [e2] X.env)).any (·.1) = false := by rfl) :
    PI X (.Tuple elts kk tpos) (.Call (.Name "zip" p) [.Call (.Attribute e "values" apos) [] [] cpos, e2] [] pos) (iZipV K td t2) := by
  subst hK
  refine ⟨fun pins s σ H R I h => ?_⟩
  refine Call_ (ld_blt I hg hm PyProof.Rows.boot_zip (PyProof.Rows.callWith_type1 ?_ hs hpl))
  rw [hs]
  show wpAny _ _ (spliced ((false, eval (.Call (.Attribute e "values" apos) [] [] cpos) X.env) :: backTo pos (starEach [e2] X.env))) _ _ s
  refine Calls.spliced_cons ?_
  refine wpAny_Call_method (T := "dict") (id := "dict.values") hbase rfl hline F.plainAttrs_dict F.slot_dict_values F.type_dict_values (thn (he.run pins s σ H _ I h) fun u s1 ⟨x, H1, I1, rx, d, o, kvs, ex, hd, q⟩ => ?_)
  subst ex
  obtain rfl : u = Value.ref d := rx
  obtain ⟨hs', hgd, hx, es, ep, vs, hdt, hsz, kv, hm'⟩ := I1.frzK hd
  refine ⟨hm'.dictOf.typeIs, hm'.dictOf.mapOf.noDict, ?_⟩
  have I2 : Inv X pins σ H1 { s1 with heap := s1.heap.push { cls := .type "dict_values", data := .fields #[.ref d] } } := I1.kept (t' := s1.toks) fun b ob q => Heap.get?_push_of_some _ q
  have I3 : Inv X ((s1.heap.objs.size, { cls := .type "dict_values", data := .fields #[.ref d] }) :: pins) σ H1 { s1 with heap := s1.heap.push { cls := .type "dict_values", data := .fields #[.ref d] } } :=
    I2.pins_of fun p hp => by
      rcases List.mem_cons.mp hp with rfl | hp
      · exact ⟨Heap.get?_push_size _ rfl, I1.hok.fresh (Nat.le_refl _), Nat.ne_of_gt I1.lt, I1.nofs (Nat.le_refl _), fun v z => nomatch z⟩
      · exact I2.pin p (List.mem_append_right _ hp)
  have fin : wpAny (model X.prog X.w) X.A (spliced (backTo pos (starEach [e2] X.env))) (fun us s2 => wpAny (model X.prog X.w) X.A (call (.type "zip") (.ref s1.heap.objs.size :: us)) (fun v s3 => wpAny (model X.prog X.w) X.A (pyIter v) (PIE X pins σ (.Tuple elts kk tpos) R) X.xe s3) X.xe s2) X.xe { s1 with heap := s1.heap.push { cls := .type "dict_values", data := .fields #[.ref d] } } := by
    refine thn (h2.run pos _ _ σ H1 _ I3 q) fun us s2 ⟨ys, H2, I4, r2, b, eb, hd2, qq⟩ => ?_
    subst eb
    cases r2 with
    | cons r rr =>
      cases rr
      cases r
      have hv := (I4.pin (s1.heap.objs.size, { cls := .type "dict_values", data := .fields #[.ref d] }) (List.mem_append_right _ (List.mem_cons_self ..))).1
      have I5 : Inv X pins σ H2 s2 := I4.pins_of fun p hp => I4.pin p (List.mem_append_right _ (List.mem_cons_of_mem _ hp))
      obtain ⟨hs2, hgd2, hx2, es2, ep2, vs2, hdt2, hsz2, kv2, hm2⟩ := I5.frzK hd2
      obtain ⟨rfl, rfl⟩ := dict_ep hdt hdt2
      have fresh5 : ∀ c, c ∈ [s2.heap.objs.size + 4, s2.heap.objs.size + 2, s2.heap.objs.size + 3, s2.heap.objs.size, s2.heap.objs.size + 1] → FpOk X pins H2 c := fun c hcm => by
        have e' : c = s2.heap.objs.size + 4 ∨ c = s2.heap.objs.size + 2 ∨ c = s2.heap.objs.size + 3 ∨ c = s2.heap.objs.size ∨ c = s2.heap.objs.size + 1 := by simpa using hcm
        have hle : s2.heap.objs.size ≤ c := by
          rcases e' with z | z | z | z | z
          · rw [z]; exact Nat.le_add_right _ _
          · rw [z]; exact Nat.le_add_right _ _
          · rw [z]; exact Nat.le_add_right _ _
          · rw [z]; exact Nat.le_refl _
          · rw [z]; exact Nat.le_add_right _ _
        exact I5.fpOk hle (I5.hok.fresh hle)
      have ld : d < s2.heap.objs.size := Heap.lt_size hgd2
      rcases qq with ⟨ys, hq, qR⟩ | ⟨ys, hq, qR⟩
      · obtain ⟨its, rv, p2, _⟩ := I5.tuple hq
        obtain ⟨ob, hob, _⟩ := id p2
        have lb := Heap.lt_size hob
        refine zip_begins2 (begins_values s1.heap.objs.size d _ _) (begins_tuple b its.toArray) ⟨⟨_, hv, rfl, rfl⟩, ⟨o, hgd2, hx2, hdt2⟩⟩ p2 fun h' hz hTI hTO g1 g2 hsz' hk => wpAny_pyIter_zip hz ?_
        exact ⟨s2.heap.objs.size + 4, [s2.heap.objs.size + 4, s2.heap.objs.size + 2, s2.heap.objs.size + 3, s2.heap.objs.size, s2.heap.objs.size + 1], _, _, H2, rfl, I5.kept (t' := s2.toks) hk, turn_zipVT hdt2 (sep5 ld lb) (Nat.ne_of_lt ld) (Nat.ne_of_lt (Nat.lt_succ_of_lt lb)), ⟨hz, hTI, ⟨_, _, hTO⟩, ⟨_, g1, rfl, by rw [hsz2]; rfl⟩, ⟨_, g2, rfl, rfl⟩⟩, fresh5, qR⟩
      · obtain ⟨its, rv, p2, _⟩ := I5.list hq
        have lb : b < s2.heap.objs.size := p2.lt
        refine zip_begins2 (begins_values s1.heap.objs.size d _ _) (begins_list b its.toArray) ⟨⟨_, hv, rfl, rfl⟩, ⟨o, hgd2, hx2, hdt2⟩⟩ p2.isList fun h' hz hTI hTO g1 g2 hsz' hk => wpAny_pyIter_zip hz ?_
        exact ⟨s2.heap.objs.size + 4, [s2.heap.objs.size + 4, s2.heap.objs.size + 2, s2.heap.objs.size + 3, s2.heap.objs.size, s2.heap.objs.size + 1], _, _, H2, rfl, I5.kept (t' := s2.toks) hk, turn_zipVL hdt2 (sep5 ld lb) (Nat.ne_of_lt ld) (Nat.ne_of_lt (Nat.lt_succ_of_lt lb)), ⟨hz, hTI, ⟨_, _, hTO⟩, ⟨_, g1, rfl, by rw [hsz2]; rfl⟩, ⟨_, g2, rfl, rfl⟩⟩, fresh5, qR⟩
  show wpAny _ _ (callWith cpos (.builtin "dict.values") [.ref d] [] []) _ X.xe s1
  exact method_meetsIn F.slot_dict_values F.entry_dict_values rfl (PySem.evalArgs_none ⟨rfl, hm'.dictOf.typeIs, F.args_dict_values_1 _, _, meets_dict_values (mixKind X.prog X.w) d hs', ⟨vs, hm'.dictOf⟩, fin⟩)
theorem walk_zipVT {K : PySem.W.Frag} {d b : Addr} {o : Obj} {kvs : List (Key × V)} {ys : List V} (hn : kvs.length = ys.length) : Walk (ItvT K d o kvs b) kvs.length (fun H => H d = some (.frz o (.dK kvs)) ∧ SqT K H b ys) (YPair (fun i => kvs[i]?.map Prod.snd) (fun i => ys[i]?)) :=
  ⟨fun i H hi q => ⟨q.1, hi, ys, q.2, by omega⟩, fun H q => ⟨q.1, ys, q.2, Nat.le_refl _, by omega, .inl rfl⟩, fun i H x H' hi q ⟨T, k, x, y, e1, e2, e3, e4, e5⟩ => ⟨T, x, y, e1, e2, e3, by dsimp only; rw [e4]; rfl, e5 ys q.2⟩⟩
theorem walk_zipVL {K : PySem.W.Frag} {d b : Addr} {o : Obj} {kvs : List (Key × V)} {ys : List V} (hn : kvs.length = ys.length) : Walk (ItvL K d o kvs b) kvs.length (fun H => H d = some (.frz o (.dK kvs)) ∧ SqL K H b ys) (YPair (fun i => kvs[i]?.map Prod.snd) (fun i => ys[i]?)) :=
  ⟨fun i H hi q => ⟨q.1, hi, ys, q.2, by omega⟩, fun H q => ⟨q.1, ys, q.2, Nat.le_refl _, by omega, .inl rfl⟩, fun i H x H' hi q ⟨T, k, x, y, e1, e2, e3, e4, e5⟩ => ⟨T, x, y, e1, e2, e3, by dsimp only; rw [e4]; rfl, e5 ys q.2⟩⟩
theorem same_unlock {H H' : Hp} {d : Addr} {u : HO} {od : Obj} (h : H d = some u) (s : Same (upd H d (.frz od u)) H') : Same H (upd H' d u) := fun c o e => by
  by_cases q : c = d
  · subst q
    rw [h] at e
    cases e
    exact upd_same
  · rw [upd_ne q]
    exact s c o ((upd_ne q).trans e)
section
variable {σ : L2.St} {H : Hp} {Q : VK} {K : PySem.W.Frag}
theorem lcI_zipT {g : TG} {tt : TT} {te : TE} {vs : List Nat} {d b : Addr} {o : Obj} {kvs : List (Key × V)} {ys : List V} (hd : H d = some (.frz o (.dK kvs))) (hb : ∀ H', Same H H' → SqT K H' b ys) (hl : kvs.length = ys.length) (hn : kvs.length ≤ 1000000) (f : Nat → Option V)
    (turn : ∀ i k x y T H' (A : VK) (B : Hp → Prop), kvs[i]? = some (k, x) → ys[i]? = some y → Same H H' → H' T = some (.tup [x, y]) → (∀ v H4, f i = some v → Same H' H4 → A v H4) → (f i = none → ∀ H3, Same H' H3 → B H3) →
      g (.ref T) (wipe σ vs) H' fun σ2 H2 => wipe σ2 vs = wipe σ vs ∧ tt σ2 H2 fun b H3 => if b = true then te σ2 H3 A else B H3)
    (k : ∀ E H', H E = none → Same H H' → H' E = some (.lst ((List.range kvs.length).filterMap f)) → Q (.ref E) H') : U.lcI σ vs g tt te Q (ItvT K d o kvs b) H := by
  refine U.lcI_same (walk_zipVT hl) hn f (fun H' s => ⟨s _ _ hd, hb H' s⟩) (fun i H' x H'' y => ?_) (fun i x H' H'' A B hi s y kA kB => ?_) k
  · obtain ⟨T, x1, y1, _, nT, rfl, _⟩ := y
    exact U.same_new nT
  · obtain ⟨T, x1, y1, rfl, nT, rfl, e1, e2⟩ := y
    dsimp only at e1 e2
    cases e : kvs[i]? with
    | none => rw [e] at e1; cases e1
    | some p =>
      rw [e] at e1
      cases e1
      exact turn i p.1 p.2 y1 T _ A B e e2 (s.trans (U.same_new nT)) upd_same kA kB
theorem lcI_zipL {g : TG} {tt : TT} {te : TE} {vs : List Nat} {d b : Addr} {o : Obj} {kvs : List (Key × V)} {ys : List V} (hd : H d = some (.frz o (.dK kvs))) (hb : SqL K H b ys) (hl : kvs.length = ys.length) (hn : kvs.length ≤ 1000000) (f : Nat → Option V)
    (turn : ∀ i k x y T H' (A : VK) (B : Hp → Prop), kvs[i]? = some (k, x) → ys[i]? = some y → Same H H' → H' T = some (.tup [x, y]) → (∀ v H4, f i = some v → Same H' H4 → A v H4) → (f i = none → ∀ H3, Same H' H3 → B H3) →
      g (.ref T) (wipe σ vs) H' fun σ2 H2 => wipe σ2 vs = wipe σ vs ∧ tt σ2 H2 fun b H3 => if b = true then te σ2 H3 A else B H3)
    (k : ∀ E H', H E = none → Same H H' → H' E = some (.lst ((List.range kvs.length).filterMap f)) → Q (.ref E) H') : U.lcI σ vs g tt te Q (ItvL K d o kvs b) H := by
  refine U.lcI_same (walk_zipVL hl) hn f (fun H' s => ⟨s _ _ hd, s.seq hb⟩) (fun i H' x H'' y => ?_) (fun i x H' H'' A B hi s y kA kB => ?_) k
  · obtain ⟨T, x1, y1, _, nT, rfl, _⟩ := y
    exact U.same_new nT
  · obtain ⟨T, x1, y1, rfl, nT, rfl, e1, e2⟩ := y
    dsimp only at e1 e2
    cases e : kvs[i]? with
    | none => rw [e] at e1; cases e1
    | some p =>
      rw [e] at e1
      cases e1
      exact turn i p.1 p.2 y1 T _ A B e e2 (s.trans (U.same_new nT)) upd_same kA kB
theorem g_lockE {te : TE} {d : Addr} {kvs : List (Key × V)} (h : H d = some (.dK kvs)) (q : ∀ od, te σ (upd H d (.frz od (.dK kvs))) fun v H' => H' d = some (.frz od (.dK kvs)) ∧ Q v (upd H' d (.dK kvs))) : tLockE te σ H Q := ⟨d, .dK kvs, h, trivial, q⟩
theorem g_lockS {t : TS} {D : Ends} {d : Addr} {kvs : List (Key × V)} (h : H d = some (.dK kvs)) (q : ∀ od, t ⟨fun σ' H' => H' d = some (.frz od (.dK kvs)) ∧ D.nx σ' (upd H' d (.dK kvs)), fun v H' => H' d = some (.frz od (.dK kvs)) ∧ D.rt v (upd H' d (.dK kvs)), fun σ' H' => H' d = some (.frz od (.dK kvs)) ∧ D.bk σ' (upd H' d (.dK kvs)), fun σ' H' => H' d = some (.frz od (.dK kvs)) ∧ D.ct σ' (upd H' d (.dK kvs))⟩ σ (upd H d (.frz od (.dK kvs)))) : tLock t D σ H := ⟨d, .dK kvs, h, trivial, q⟩
theorem g_iZipV {td : TE} {t2 : TA} {R : It → Hp → Prop} (q : td σ H fun x H1 => ∃ d o kvs, x = .ref d ∧ H1 d = some (.frz o (.dK kvs)) ∧ t2 σ H1 fun vs H2 => ∃ b, vs = [.ref b] ∧ H2 d = some (.frz o (.dK kvs)) ∧ ((∃ ys, SqT K H2 b ys ∧ R (ItvT K d o kvs b) H2) ∨ ∃ ys, SqL K H2 b ys ∧ R (ItvL K d o kvs b) H2)) : iZipV K td t2 σ H R := q
theorem g_or {te tf : TE} (q : te σ H Q ∨ tf σ H Q) : (fun σ H Q => te σ H Q ∨ tf σ H Q : TE) σ H Q := q
theorem g_meth {C : Addr} {m : Str} {sp : Sp} {dvs : List V} {E : XK} {ta : TE} {t : TA} (q : ta σ H fun x H1 => ∃ a dx fs, x = .ref a ∧ H1 a = some (.ins C dx fs) ∧ fs.lookup m = none ∧ t σ H1 fun vs H2 => sp (x :: (vs ++ dvs)) H2 Q E) : tMeth C m sp dvs E ta t σ H Q := q
end
end ZV
namespace M
open PySem L2
/-- a scale, with the dicts that it owns -/
def ScaleX (CL CT : Addr) (H : Hp) (v : V) (c : Str × Bool) (ks : List Knd) (g : List Addr) : Prop :=
  if c.2 = true then ∃ a dx u l, v = .ref a ∧ TreeX CT H a dx u l ks ∧ g = [u, l] else ∃ a dx, v = .ref a ∧ H a = some (.ins CL dx []) ∧ g = []
theorem ScaleX.at {CL CT : Addr} {H : Hp} {v : V} {c : Str × Bool} {ks : List Knd} {g : List Addr} (h : ScaleX CL CT H v c ks g) : ScaleAt CL CT H v c ks := by
  unfold ScaleX at h
  unfold ScaleAt
  split at h
  · rename_i e
    rw [if_pos e]
    obtain ⟨a, dx, u, l, rfl, t, _⟩ := h
    exact ⟨a, dx, u, l, rfl, t⟩
  · rename_i e
    rw [if_neg e]
    obtain ⟨a, dx, rfl, t, _⟩ := h
    exact ⟨a, dx, rfl, t⟩
abbrev Col := (Str × Bool) × List Addr
abbrev flatG (gs : List Col) : List Addr := gs.flatMap (·.2)
def SclX (CL CT : Addr) (H : Hp) (kvs : List (Key × V)) (gs : List Col) (ks : List Knd) : Prop :=
  Paired (fun kv (g : Col) => kv.1 = Sum.inr g.1.1 ∧ ScaleX CL CT H kv.2 g.1 (ksOf ks g.1.1) g.2) kvs gs
theorem SclX.at {CL CT : Addr} {H : Hp} {ks : List Knd} : ∀ {kvs : List (Key × V)} {gs : List Col}, SclX CL CT H kvs gs ks → ScalesAt CL CT H kvs (gs.map (·.1)) ks
  | _, _, .nil => .nil
  | _, _, .cons h r => .cons ⟨h.1, h.2.at⟩ (SclX.at r)
def numD : Nat → List (Str × List V) → List (Key × V)
  | _, [] => []
  | i, p :: r => (Sum.inr p.1, V.int i) :: numD (i + 1) r
def draftF (lc lk lp ds dn : Addr) : List (Str × V) := [("columns", .ref lc), ("kinds", .ref lk), ("persons", .ref lp), ("scales", .ref ds), ("numbers", .ref dn)]
structure DraftX (CL CT CD : Addr) (H : Hp) (a dx lc lk lp ds dn : Addr) (gs : List Col) (ks : List Knd) (ps : List (Str × List V)) : Prop where
  hi : H a = some (.ins CD dx (draftF lc lk lp ds dn))
  hc : ∃ cv, H lc = some (.lst cv) ∧ TupL H cv (gs.map fun g => colV g.1)
  hk : ∃ kv, H lk = some (.lst kv) ∧ TupL H kv (ks.map kindV)
  hp : ∃ pv, H lp = some (.lst pv) ∧ PerL H pv ps
  hs : ∃ kvs, H ds = some (.dK kvs) ∧ SclX CL CT H kvs gs ks
  hn : H dn = some (.dK (numD 0 ps))
  ne1 : lc ≠ lk
  ne2 : lc ≠ lp
  ne3 : lk ≠ lp
  nd : (ds :: dn :: flatG gs).Nodup
theorem fld_look {f g : Str} (h : (f == g) = false) {v : V} {r : List (Str × V)} {o : Option V} (q : r.lookup f = o) : ((g, v) :: r).lookup f = o := (lk_nxt h).trans q
theorem dr_columns (lc lk lp ds dn : Addr) : (draftF lc lk lp ds dn).lookup ("columns" : Str) = some (.ref lc) := lk_fst
theorem dr_kinds (lc lk lp ds dn : Addr) : (draftF lc lk lp ds dn).lookup ("kinds" : Str) = some (.ref lk) := fld_look (by decide +kernel) lk_fst
theorem dr_persons (lc lk lp ds dn : Addr) : (draftF lc lk lp ds dn).lookup ("persons" : Str) = some (.ref lp) := fld_look (by decide +kernel) (fld_look (by decide +kernel) lk_fst)
theorem dr_scales (lc lk lp ds dn : Addr) : (draftF lc lk lp ds dn).lookup ("scales" : Str) = some (.ref ds) := fld_look (by decide +kernel) (fld_look (by decide +kernel) (fld_look (by decide +kernel) lk_fst))
theorem dr_numbers (lc lk lp ds dn : Addr) : (draftF lc lk lp ds dn).lookup ("numbers" : Str) = some (.ref dn) := fld_look (by decide +kernel) (fld_look (by decide +kernel) (fld_look (by decide +kernel) (fld_look (by decide +kernel) lk_fst)))
theorem dr_no {f : Str} (h : [("columns" : Str), "kinds", "persons", "scales", "numbers"].contains f = false) (lc lk lp ds dn : Addr) : (draftF lc lk lp ds dn).lookup f = none := by
  have e : ∀ g ∈ [("columns" : Str), "kinds", "persons", "scales", "numbers"], (f == g) = false := fun g hg => by
    cases e : f == g with
    | false => rfl
    | true =>
      have q := eq_of_beq e
      subst q
      have : [("columns" : Str), "kinds", "persons", "scales", "numbers"].contains f = true := List.contains_iff_mem.mpr hg
      rw [h] at this
      cases this
  refine fld_look (e _ (by simp)) (fld_look (e _ (by simp)) (fld_look (e _ (by simp)) (fld_look (e _ (by simp)) (fld_look (e _ (by simp)) rfl))))
/-- no column of kinds lacks kinds -/
def bareOf (gs : List Col) (ks : List Knd) : List Col := gs.filter fun g => g.1.2 && (ksOf ks g.1.1).isEmpty
end M
namespace M
open PySem L2
section
variable {K : PySem.W.Frag} {σ : L2.St} {H : Hp} {D : Ends} {a C dx : Addr} {fs : List (Str × V)} {f : Str}
theorem g_newL (hσ : σ[0]? = some (some (.ref a))) (ha : H a = some (.ins C dx fs)) (c : Cls K C) (n : NoAttr K C f) (hl : fs.length < 1000)
    (q : ∀ p H', H p = none → H' p = some (.lst []) → H' a = some (.ins C dx (putF f (.ref p) fs)) → (∀ c o, c ≠ a → H c = some o → H' c = some o) → D.nx σ H') : sFld K (tVar 0) (tLst tNil) f D σ H := by
  refine g_sfld (U.g_lst (U.g_nil ⟨Nat.zero_le _, fun p np => ?_⟩))
  refine U.g_var hσ ?_
  have ap := ne_of_none ha np
  refine ⟨a, C, dx, fs, rfl, (upd_ne ap).trans ha, c, n, hl, q p _ np ((upd_ne (Ne.symm ap)).trans upd_same) upd_same fun b o hb e => ?_⟩
  rw [upd_ne hb, upd_ne (ne_of_none e np)]
  exact e
theorem g_newD (hσ : σ[0]? = some (some (.ref a))) (ha : H a = some (.ins C dx fs)) (c : Cls K C) (n : NoAttr K C f) (hl : fs.length < 1000)
    (q : ∀ p H', H p = none → H' p = some (.dK []) → H' a = some (.ins C dx (putF f (.ref p) fs)) → (∀ c o, c ≠ a → H c = some o → H' c = some o) → D.nx σ H') : sFld K (tVar 0) tDNewK f D σ H := by
  refine g_sfld (U.g_dnewK fun p np => ?_)
  refine U.g_var hσ ?_
  have ap := ne_of_none ha np
  refine ⟨a, C, dx, fs, rfl, (upd_ne ap).trans ha, c, n, hl, q p _ np ((upd_ne (Ne.symm ap)).trans upd_same) upd_same fun b o hb e => ?_⟩
  rw [upd_ne hb, upd_ne (ne_of_none e np)]
  exact e
end
theorem putF_skip {f g : Str} {v x : V} {r : List (Str × V)} (h : ¬ g = f) : putF f v ((g, x) :: r) = (g, x) :: putF f v r := by
  show (if g = f then _ else _) = _
  rw [if_neg h]
end M
namespace M
open PySem L2
theorem bare_nil {α γ : Type} (gs : List α) (b : α → Bool) (f : Nat → Option γ) (hf : ∀ i g, gs[i]? = some g → (f i).isSome = b g) : decide (((List.range gs.length).filterMap f).length = 0) = (gs.filter b).isEmpty := by
  rw [Bool.eq_iff_iff, decide_eq_true_eq, List.isEmpty_iff, List.length_eq_zero_iff, List.filterMap_eq_nil_iff, List.filter_eq_nil_iff]
  constructor
  · intro h g hg
    obtain ⟨i, hi⟩ := List.getElem?_of_mem hg
    have e := hf i g hi
    have lt : i < gs.length := by
      rcases Nat.lt_or_ge i gs.length with q | q
      · exact q
      · rw [List.getElem?_eq_none q] at hi; cases hi
    rw [h i (List.mem_range.mpr lt)] at e
    rw [← e]
    exact Bool.false_ne_true
  · intro h i hi
    have lt := List.mem_range.mp hi
    have e := hf i _ (List.getElem?_eq_getElem lt)
    cases q : f i with
    | none => rfl
    | some v =>
      rw [q] at e
      exact absurd e.symm (h _ (List.getElem_mem lt))
end M
namespace M
open PySem L2
/-! ### what stays when lists and dicts in S change -/
structure Keep (S : List Addr) (H H' : Hp) : Prop where
  k : ∀ c o, c ∉ S → H c = some o → H' c = some o
  s : ∀ c ∈ S, (∃ xs, H c = some (.lst xs)) ∨ ∃ kvs, H c = some (.dK kvs)
theorem Keep.tup {S : List Addr} {H H' : Hp} (q : Keep S H H') : TS H H' := fun a xs e => q.k a _ (fun z => by
  rcases q.s a z with ⟨ys, h⟩ | ⟨kvs, h⟩ <;> rw [e] at h <;> cases h) e
theorem Keep.ins {S : List Addr} {H H' : Hp} (q : Keep S H H') {a C dx : Addr} {fs : List (Str × V)} (e : H a = some (.ins C dx fs)) : H' a = some (.ins C dx fs) := q.k a _ (fun z => by
  rcases q.s a z with ⟨ys, h⟩ | ⟨kvs, h⟩ <;> rw [e] at h <;> cases h) e
theorem TreeX.keep {CT : Addr} {H H' : Hp} {a dx u l : Addr} {ks : List Knd} {S : List Addr} (q : Keep S H H') (hu : u ∉ S) (hl : l ∉ S) (h : TreeX CT H a dx u l ks) : TreeX CT H' a dx u l ks :=
  ⟨q.ins h.hi, let ⟨kvs, e, p⟩ := h.hu; ⟨kvs, q.k _ _ hu e, prd_mono (fun _ _ => WayAt.mono q.tup) p⟩, q.k _ _ hl h.hl, h.hn⟩
theorem ScaleX.keep {CL CT : Addr} {H H' : Hp} {v : V} {c : Str × Bool} {ks : List Knd} {g : List Addr} {S : List Addr} (q : Keep S H H') (hg : ∀ c ∈ g, c ∉ S) (h : ScaleX CL CT H v c ks g) : ScaleX CL CT H' v c ks g := by
  unfold ScaleX at h ⊢
  split at h
  · rename_i e
    rw [if_pos e]
    obtain ⟨a, dx, u, l, rfl, t, rfl⟩ := h
    exact ⟨a, dx, u, l, rfl, t.keep q (hg u (by simp)) (hg l (by simp)), rfl⟩
  · rename_i e
    rw [if_neg e]
    obtain ⟨a, dx, rfl, t, rfl⟩ := h
    exact ⟨a, dx, rfl, q.ins t, rfl⟩
theorem SclX.keep {CL CT : Addr} {H H' : Hp} {S : List Addr} {ks : List Knd} (q : Keep S H H') : ∀ {kvs : List (Key × V)} {gs : List Col}, (∀ c ∈ flatG gs, c ∉ S) → SclX CL CT H kvs gs ks → SclX CL CT H' kvs gs ks
  | _, _, _, .nil => .nil
  | _, _, hg, .cons h r => .cons ⟨h.1, h.2.keep q fun c hc => hg c (List.mem_append_left _ hc)⟩ (SclX.keep q (fun c hc => hg c (List.mem_append_right _ hc)) r)
/-- the keys of the scales -/
theorem SclX.val {CL CT : Addr} {H : Hp} {ks : List Knd} {n : Str} : ∀ {kvs : List (Key × V)} {gs : List Col}, SclX CL CT H kvs gs ks →
    ((n ∉ gs.map (fun g => g.1.1) ∧ valV kvs (Sum.inr n) = none) ∨ ∃ g ∈ gs, g.1.1 = n ∧ ∃ v, valV kvs (Sum.inr n) = some v ∧ ScaleX CL CT H v g.1 (ksOf ks g.1.1) g.2)
  | _, _, .nil => .inl ⟨by simp, valV_nil⟩
  | (k, v) :: kvs, g :: gs, .cons ⟨e, t⟩ r => by
    have e : k = Sum.inr g.1.1 := e
    subst e
    by_cases c : g.1.1 = n
    · exact .inr ⟨g, List.mem_cons_self, c, v, valV_pos (by show (Sum.inr g.1.1 : Key) = _; rw [c]), t⟩
    · have nk : ¬ ((Sum.inr g.1.1 : Key) = Sum.inr n) := fun z => c (Sum.inr.inj z)
      rw [valV_neg nk]
      rcases SclX.val (n := n) r with ⟨h1, h2⟩ | ⟨g', h1, h2⟩
      · exact .inl ⟨by simp only [List.map_cons, List.mem_cons, not_or]; exact ⟨fun z => c z.symm, h1⟩, h2⟩
      · exact .inr ⟨g', List.mem_cons_of_mem _ h1, h2⟩
end M
namespace M
open PySem L2
theorem SclX.flat {CL CT : Addr} {H : Hp} {ks : List Knd} : ∀ {kvs : List (Key × V)} {gs : List Col}, SclX CL CT H kvs gs ks → ∀ c ∈ flatG gs, ∃ m, H c = some (.dK m)
  | _, _, .nil, c, hc => by cases hc
  | _, _, .cons h r, c, hc => by
    rcases List.mem_append.mp hc with z | z
    · have t := h.2
      unfold ScaleX at t
      split at t
      · obtain ⟨a, dx, u, l, _, tr, e⟩ := t
        dsimp only at z
        rw [e] at z
        simp only [List.mem_cons, List.not_mem_nil, or_false] at z
        rcases z with rfl | rfl
        · obtain ⟨m, e, _⟩ := tr.hu; exact ⟨m, e⟩
        · exact ⟨_, tr.hl⟩
      · obtain ⟨a, dx, _, _, e⟩ := t
        dsimp only at z
        rw [e] at z
        cases z
    · exact SclX.flat r c z
end M
namespace G
open PySem PySem.Spec PyProof.Rows L2
/-! ### defs that are called where nothing is being shown: so repr of things may be reckoned -/
/-- what a def promises, called where no guard stands -/
structure FnG (P : Program) (w : World) (K : PySem.W.Frag) (mg : Str → Option Value) (base : Heap) (k : Nat) (f : Addr) (fd : FuncData) (ps : List Str) (sp : Sp) : Prop where
  plen : ∀ us H Q E, sp us H Q E → us.length = ps.length
  go : ∀ (A : Around) (outer : List Env) (s : Shared) (H : Hp) (args : Args) (us : List Value) (vs : List V) (Q : VK) (E : XK), Room k A → A.guards = some [] → Env0 P w K mg base A outer s H →
    BindsTo s fd args (ps.zip us) → Vals vs us → sp vs H Q E → codeAny (model P w) A (.call (.ref f) args) (CR CX0 outer P w H s Q E) s
theorem gd_deeper {A : Around} (env : Env) (h : A.guards = some []) : (A.deeper env).guards = some [] := by
  first | exact h | (simpa [Around.deeper] using h)
section
variable {X : Cx} {k : Nat} {f : Addr} {fd : FuncData} {ps ks : List Str} {sp : Sp} {dvs : List V} {ds : List Value} {E : XK} {x : Str} {p pos : Pos} {e : Expr} {es : List Expr} {kws : List Keyword} {t tk : TA}
theorem run_g {pins : List (Addr × Obj)} {σ : L2.St} {H : Hp} {s : Shared} {Q : VK} {us : List Value} {vs : List V} (F : FnG X.prog X.w X.K X.mg X.base k f fd ps sp) (hr : Room k X.A) (hgd : X.A.guards = some []) (hb : Binds X.K fd ps ds) (hd : Vals dvs ds)
    (I : Inv X pins σ H s) (r : Vals vs us) (h : sp (vs ++ dvs) H Q E) : wpAny (model X.prog X.w) X.A (call (.ref f) us) (EP X pins σ Q) X.xe s := by
  have both := r.append hd
  have n : (us ++ ds).length = ps.length := both.length ▸ F.plen _ _ _ _ h
  have c := F.go X.A X.stack s H ⟨us, []⟩ (us ++ ds) (vs ++ dvs) Q E hr hgd I.env0 (hb s us I.kIn n) both h
  refine wpAny_call (codeAny_mono c fun res s2 z => ?_)
  match res, z with
  | .ok (.ret _), z => exact I.after z
theorem pe_callG (F : FnG X.prog X.w X.K X.mg X.base k f fd ps sp) (hr : Room k X.A) (hgd : X.A.guards = some []) (hg : Gl X x) (hm : X.mg x = some (.ref f)) (hk : PySem.W.keepIn X.K (.ref f) = true) (hb : Binds X.K fd ps ds) (hd : Vals dvs ds)
    (ha : PA X (e :: es) t) (hdb : (x == ("__debug__" : Str)) = false := by decide) (he : starEach (e :: es) X.env = (false, eval e X.env) :: starEach es X.env := by rfl) (hpl : (backTo pos (starEach es X.env)).any (·.1) = false := by rfl) :
    PE X (.Call (.Name x p) (e :: es) [] pos) (tCall sp dvs E0 t) := ⟨fun pins s σ H Q I h =>
  wpAny_Call_Name_kw (ld_glob I hg hm (PySem.W.callWith_K (h₀ := X.base) I.ok.mod.kin hk (thn (ha.run pos pins s σ H _ I h) fun _ _ ⟨_, _, I1, r, q⟩ => ⟨I1.kIn, run_g F hr hgd hb hd I1 r q⟩) he hpl) hdb)⟩
end
section
variable {P : Program} {w : World} {K : PySem.W.Frag} {mg : Str → Option Value} {base : Heap} {k : Nat} {f : Addr} {fd : FuncData} {N ps : List Str} {sp : Sp}
theorem FnG.of (F : FnOk P w K mg base CX0 k f fd ps sp) : FnG P w K mg base k f fd ps sp := ⟨F.len, fun A outer s H args us vs Q E hr _ => F.run A outer s H args us vs Q E hr⟩
/-- a def by its body -/
theorem okG {x qual : Str} {st : Stmt} (F : Fun K x qual st f fd) (S : FnScope N ps (defScope st)) (plen : ∀ us H Q E, sp us H Q E → us.length = ps.length)
    (body : ∀ (cdv : Value) (A : Around) (outer : List Env) (s : Shared) (H : Hp) (vs : List V) (Q : VK) (E : XK), Room k (A.deeper (envOfC qual (defScope st) s.heap.objs.size f cdv)) →
      (A.deeper (envOfC qual (defScope st) s.heap.objs.size f cdv)).guards = some [] → sp vs H Q E →
      ∃ t, PSs (cxOf CX0 P w K mg base N qual (defScope st) f cdv A outer s H E).nox (defBody st) t ∧ t { nx := fun _ H' => Q .non H', rt := Q } (start N vs) H) : FnG P w K mg base (k + 1) f fd ps sp := by
  obtain ⟨oc, od, kV, doc, pm, an, cdv, ct, osl, rfl, lk, hcd⟩ := F.ex
  constructor
  · exact plen
  intro A outer s H args us vs Q E hr hgd e0 hb r hsp
  have old : K.In s.heap := e0.mod.kin.keeps fun b o z => (e0.bs b o z).1
  have nolim : s.heap.NoLimit := e0.mod.nolimit.keeps fun b o z => (e0.bs b o z).1
  have kinds : ∀ y ∈ ps.zip us, (defScope st).names.lookup y.1 = some .local ∨ ((defScope st).names.lookup y.1 = some .cell ∧ ((cellsFrom (s.heap.objs.size + 1) (defScope st).names []).lookup y.1).isSome = true) := by
    rintro ⟨n, v⟩ hy
    rcases S.par n (List.of_mem_zip hy).1 with q | q
    · exact Or.inl q
    · exact Or.inr ⟨q, PySem.W.cellsFrom_some _ _ _ (Or.inl q)⟩
  obtain ⟨t, ht, hq⟩ := body cdv A outer s H vs Q E (hr.deeper _) (gd_deeper _ hgd) hsp
  refine codeAny_call_function hr.depth (old _ _ lk) rfl S.co S.gen rfl (PySem.W.codeRec_of old hcd) (hb _ _ _ _ (wpAny_newFunctionEnv_cells S.kind kinds fun env he s1 x => ?_))
  cases he
  have I : Inv (cxOf CX0 P w K mg base N qual (defScope st) f cdv A outer s H E) [] (start N vs) H s1 := inv_start S hr.hd e0 (plen _ _ _ _ hsp) r x
  refine ⟨nolim.keeps x.toInCall.keep, codeAny_func (wpAny_mono (ht.nox.run [] s1 (start N vs) H _ I hq) ?_ fun _ _ z => z)⟩
  intro fl s2 z
  cases fl with
  | ret u =>
    obtain ⟨v, _, H2, J, rv, q⟩ := z
    exact ⟨v, H2, J.os, J.bare, J.base, J.hok, rv, q⟩
  | next =>
    obtain ⟨_, H2, J, q⟩ := z
    exact ⟨V.non, H2, J.os, J.bare, J.base, J.hok, rfl, q⟩
  | brk => obtain ⟨_, _, _, q⟩ := z; exact q.elim
  | cont => obtain ⟨_, _, _, q⟩ := z; exact q.elim
end
end G
namespace G
open PySem PySem.Spec PyProof.Rows L2
/-! ### the law's end: the def of the law, called where the top has run -/
theorem guards_caller : callerA.guards = some [] := rfl
section
variable {P : Program} {w : World} {K : PySem.W.Frag} {mg mb : Str → Option Value} {k : Nat} {fa a : Addr} {fd : FuncData} {x : Str} {sp : Sp} {s : Shared} {vs : List Value} {ns : List Int}
/-- what is tracked at the law's call: the script, where it is none of the top's own objects -/
def scrH (K : PySem.W.Frag) (a : Addr) (vs : List Value) (ns : List Int) : Hp := fun b => if b = a ∧ K.lookup a = none then some (.frz { cls := .type "list", data := .seq vs.toArray } (.lst (ns.map V.int))) else none
theorem scr_some {b : Addr} {o : HO} (h : scrH K a vs ns b = some o) : b = a ∧ K.lookup a = none ∧ o = .frz { cls := .type "list", data := .seq vs.toArray } (.lst (ns.map V.int)) := by
  unfold scrH at h
  split at h
  · rename_i c
    exact ⟨c.1, c.2, (Option.some.inj h).symm⟩
  · cases h
theorem scr_none {b : Addr} (h : b ≠ a) : scrH K a vs ns b = none := if_neg fun c => h c.1
theorem scr_K {b : Addr} {o : Obj} (h : K.lookup b = some o) : scrH K a vs ns b = none := if_neg fun c => by
  rw [c.1, c.2] at h
  cases h
theorem scr_dict {b : Addr} {o : Obj} {es : Array DictEntry} {ep : Nat} (ha : s.heap.get? a = some { cls := .type "list", data := .seq vs.toArray }) (h : s.heap.get? b = some o) (d : o.data = .dict es ep) : scrH K a vs ns b = none := by
  refine scr_none fun e => ?_
  rw [e, ha] at h
  cases h
  cases d
theorem endG (KX : K.In s.heap) (gm : s.heap.Ns mainGlobals mg) (gb : s.heap.Ns builtinsNs mb) (hbb : ∀ x : Str, x ≠ "__name__" → mb x = bootBuiltins x) (lim : s.heap.NoLimit) (gens : s.gens = #[])
    (ha : s.heap.get? a = some { cls := .type "list", data := .seq vs.toArray }) (hi : IntsAre vs ns) (hl : ns.length ≤ sizeLine) (hr : Room k callerA)
    (F : ∀ base : Heap, K.In base → base.Ns mainGlobals mg → FnG P w K mg base k fa fd [x] sp) (bind : ∀ (s : Shared) (u : Value), BindsTo s fd ⟨[u], []⟩ [(x, u)])
    (hsp : ∀ H : Hp, SqL K H a (ns.map V.int) → sp [.ref a] H (fun v _ => v = .bl true) fun _ _ _ => False) :
    codeAny (model P w) callerA (.call (.ref fa) ⟨[.ref a], []⟩) (fun r s' => r = .ok (.ret (.bool true)) ∧ OldK s.heap s'.heap ∧ s'.os = s.os ∧ AllBare s'.gens) s := by
  have rv := vals_ints hi
  have nl := hi.length
  let H := scrH K a vs ns
  have hok : HOk P w H s.heap := fun b u z => by
    obtain ⟨rfl, _, rfl⟩ := scr_some z
    exact ⟨ha, by rw [List.length_map]; exact hl, vs, _, rv, ha⟩
  have hS : SqL K H a (ns.map V.int) := by
    cases q : K.lookup a with
    | none => exact Or.inl (Or.inr ⟨_, if_pos ⟨rfl, q⟩⟩)
    | some o =>
      have e := KX a o q
      rw [ha] at e
      cases e
      exact Or.inr ⟨_, vs.toArray, _, q, rfl, rfl, rfl, by rw [List.size_toArray, nl]; exact hl, by simpa using rv⟩
  have names : ∀ {b : Addr} {m : Str → Option Value}, s.heap.Ns b m → (hidT s.heap H).Ns b m := by
    rintro b m ⟨o, es, ep, e, d, r⟩
    exact ⟨o, es, ep, hidT_get e (scr_dict ha e d), d, r⟩
  have KB : K.In (hidT s.heap H) := fun b o e => hidT_get (KX b o e) (scr_K e)
  have M : Mod K mg (hidT s.heap H) := by
    obtain ⟨mc, h1, h2⟩ := lim
    exact ⟨KB, names gm, ⟨mb, names gb, hbb⟩, ⟨mc, names h1, h2⟩⟩
  have e0 : Env0 P w K mg (hidT s.heap H) callerA [] s H := by
    refine ⟨rfl, M, fun b o e => of_hidT e, Nat.le_of_eq (hidT_size _ _), trivial, fun b hb => ?_, hok, .of_eq gens⟩
    exact absurd (show b ∈ ([] : List Addr) from hb) (by simp)
  have run := (F _ KB (names gm)).go callerA [] s H ⟨[.ref a], []⟩ [.ref a] [.ref a] _ _ hr guards_caller e0 (bind s (.ref a)) (.cons rfl .nil) (hsp H hS)
  refine codeAny_mono run fun r s2 z => ?_
  match r, z with
  | .ok (.ret u), z =>
    obtain ⟨v, H2, os, bare, un, hok2, rv2, q⟩ := z
    cases (show v = .bl true from q)
    cases (show u = Value.bool true from rv2)
    refine ⟨rfl, OldK.of_keep fun b o e => ?_, os, bare⟩
    cases q : H b with
    | none => exact un.keep b o e q (fun z => absurd (show b ∈ ([] : List Addr) from z) (by simp)) (by simp)
    | some u =>
      obtain ⟨rfl, _, rfl⟩ := scr_some q
      obtain ⟨e2, _⟩ := hok2 b _ (un.frzs b _ _ q)
      rw [ha] at e
      cases e
      exact e2
/-- the goal that the head leaves -/
theorem walkG {l : PySem.W.OpenLaw} {n k : Nat} {q : Program} {loose : List Str} {XP : (Str → Option Value) → Heap → Prop} {YP : World → Heap → Prop} {d : DefRec} {K : Params → PySem.W.Frag} {sp : PySem.W.Frag → Sp} {x : Str}
    (hn : l.most = some n) (hn2 : n ≤ sizeLine) (hdf : d.params.defaults = []) (hr : Room k callerA)
    (hY : ∀ (w : World) (h : Heap), YP w h → (K w.params).In h)
    (F : ∀ (w : World) (mg : Str → Option Value) (fa : Addr) (h : Heap), (K w.params).In h → h.Ns mainGlobals mg → mg d.name = some (.ref fa) →
      ∃ fd : FuncData, (∀ (s : Shared) (u : Value), BindsTo s fd ⟨[u], []⟩ [(x, u)]) ∧
        ∀ base : Heap, (K w.params).In base → base.Ns mainGlobals mg → FnG l.prog w (K w.params) mg base k fa fd [x] (sp (K w.params)))
    (hsp : ∀ (K : PySem.W.Frag) (H : Hp) (a : Addr) (ns : List Int), ns.length ≤ n → SqL K H a (ns.map V.int) → sp K [.ref a] H (fun v _ => v = .bl true) fun _ _ _ => False) :
    PySem.W.WalkO q loose XP YP l.row.toRowW d [] (fun f vs => PySem.call f vs) := by
  refine Att.attach_call hn hdf fun w s₀ s₁ mg mb fa o pm cd doc a vs ns T Y ho hd hcd hmg hobj hints hlen hg => ?_
  obtain ⟨fd, hb, hF⟩ := F w mg fa _ (hY w _ Y) T.T.g hmg
  exact endG (hY w _ Y) T.T.g T.T.b T.T.builtins T.T.nolimit hg hobj hints (Nat.le_trans hlen hn2) hr hF hb fun H => hsp _ H a ns hlen
end
end G
namespace QD
open PySem PySem.Spec PyProof.Rows L2
/-! ### repr, != and count of data; small dicts among them -/
/-- v is the datum d -/
inductive Dq (K : PySem.W.Frag) (H : Hp) : V → PyData → Prop
  | dp {v : V} {d : PyData} (h : Dp K H v d) : Dq K H v d
  | d0 {a : Addr} (h : H a = some (.dK [])) : Dq K H (.ref a) (.dict [])
  | d1 {a : Addr} {x : Str} {i : Int} (h : H a = some (.dK [(Sum.inr x, .int i)])) : Dq K H (.ref a) (.dict [(.str x, .int i)])
theorem seqT {K : PySem.W.Frag} {H H' : Hp} {a : Addr} {xs : List V} (s : Same H H') (h : SqT K H a xs) : SqT K H' a xs := by
  rcases h with (h | ⟨o, h⟩) | h
  · exact Or.inl (Or.inl (s _ _ h))
  · exact Or.inl (Or.inr ⟨o, s _ _ h⟩)
  · exact Or.inr h
mutual
theorem dp_mono {K : PySem.W.Frag} {H H' : Hp} (s : Same H H') : ∀ (d : PyData) (v : V), Dp K H v d → Dp K H' v d
  | .none, _, h => by cases h; exact .non
  | .bool b, _, h => by cases h; exact .bl b
  | .int i, _, h => by cases h; exact .int i
  | .str x, _, h => by cases h; exact .str x
  | .list ds, _, h => by
    cases h with
    | lst hs ha => exact .lst (s.seq hs) (dpa_mono s ds _ ha)
  | .tuple ds, _, h => by
    cases h with
    | tup hs ha => exact .tup (seqT s hs) (dpa_mono s ds _ ha)
  | .dict _, _, h => by cases h
theorem dpa_mono {K : PySem.W.Frag} {H H' : Hp} (s : Same H H') : ∀ (ds : List PyData) (vs : List V), DpAll K H vs ds → DpAll K H' vs ds
  | [], _, h => by cases h; exact .nil
  | d :: ds, _, h => by
    cases h with
    | cons h1 h2 => exact .cons (dp_mono s d _ h1) (dpa_mono s ds _ h2)
end
theorem Dq.mono {K : PySem.W.Frag} {H H' : Hp} {v : V} {d : PyData} (s : Same H H') (h : Dq K H v d) : Dq K H' v d := by
  cases h with
  | dp h => exact .dp (dp_mono s d v h)
  | d0 h => exact .d0 (s _ _ h)
  | d1 h => exact .d1 (s _ _ h)
mutual
theorem dp_noDict {K : PySem.W.Frag} {H : Hp} : ∀ (d : PyData) (v : V), Dp K H v d → d.hasDict = false
  | .none, _, _ => by simp only [PyData.hasDict]
  | .bool _, _, _ => by simp only [PyData.hasDict]
  | .int _, _, _ => by simp only [PyData.hasDict]
  | .str _, _, _ => by simp only [PyData.hasDict]
  | .list ds, _, h => by
    cases h with
    | lst _ ha => simp only [PyData.hasDict]; exact dpa_noDict ds _ ha
  | .tuple ds, _, h => by
    cases h with
    | tup _ ha => simp only [PyData.hasDict]; exact dpa_noDict ds _ ha
  | .dict _, _, h => by cases h
theorem dpa_noDict {K : PySem.W.Frag} {H : Hp} : ∀ (ds : List PyData) (vs : List V), DpAll K H vs ds → PyData.hasDictAll ds = false
  | [], _, _ => by simp only [PyData.hasDictAll]
  | d :: ds, _, h => by
    cases h with
    | cons h1 h2 => simp only [PyData.hasDictAll, dp_noDict d _ h1, dpa_noDict ds _ h2, Bool.or_false]
end
section
variable {X : Cx} {K : PySem.W.Frag}
theorem Dq.reads {pins : List (Addr × Obj)} {σ : L2.St} {H : Hp} {s : Shared} (I : Inv X pins σ H s) {v : V} {d : PyData} {u : Value} (h : Dq X.K H v d) (r : RelV v u) : ∃ as, Reads s.heap u d as ∧ (d.hasDict = true → sysModules ∉ as) := by
  cases h with
  | dp h =>
    obtain ⟨as, q⟩ := Dp.reads I d v u h r
    refine ⟨as, q, fun hd => ?_⟩
    exact absurd hd (by rw [dp_noDict d v h]; exact Bool.false_ne_true)
  | @d0 a h =>
    cases (show u = Value.ref a from r)
    obtain ⟨_, ns, vs, kv, o, es, ep, e1, ex, e2, ko, pr, nd⟩ := (show ObjOk X.prog X.w H s.heap a (.dK []) from I.hok a _ h)
    cases kv
    generalize hl : es.toList = l at pr
    cases pr
    refine ⟨_, .dict e1 ex.1 e2 (as := []) (bs := []) (by rw [hl]; exact .nil) (by rw [hl]; exact .nil), fun _ hm => ?_⟩
    have hm : sysModules ∈ [a] := by simpa using hm
    rw [List.mem_singleton] at hm
    rw [← hm] at ns
    cases ns
  | @d1 a x i h =>
    cases (show u = Value.ref a from r)
    obtain ⟨_, ns, vs, kv, o, es, ep, e1, ex, e2, ko, pr, nd⟩ := (show ObjOk X.prog X.w H s.heap a (.dK [(Sum.inr x, .int i)]) from I.hok a _ h)
    cases kv with
    | @cons _ p _ ps h1 h2 =>
      cases h2
      obtain ⟨k', u'⟩ := p
      obtain ⟨z1, z2⟩ := h1
      have z1 : (Sum.inr x : Key) = k' := z1
      subst z1
      obtain ⟨t, z2⟩ := (show ∃ t, u' = Value.int i t from z2)
      subst z2
      generalize hl : es.toList = l at pr
      cases pr with
      | @cons e kv es2 kvs hk hv p2 =>
        cases p2
        obtain ⟨tx, ek⟩ : ∃ t, e.key = Value.str x t := by
          rcases keyIs_shape (show keyIs (Sum.inr x) e.key = true from hk) with ⟨i2, t2, q, _⟩ | ⟨x2, t2, q, q2⟩
          · cases q
          · cases q; exact ⟨t2, q2⟩
        have ev : e.val = Value.int i t := hv
        refine ⟨_, .dict e1 ex.1 e2 (as := [] ++ []) (bs := [] ++ []) ?_ ?_, fun _ hm => ?_⟩
        · rw [hl]
          show ReadsAll s.heap [e.key] [.str x] _
          rw [ek]
          exact .cons (.str x tx) .nil
        · rw [hl]
          show ReadsAll s.heap [e.val] [.int i] _
          rw [ev]
          exact .cons (.int i t) .nil
        · have hm : sysModules ∈ [a] := by simpa using hm
          rw [List.mem_singleton] at hm
          rw [← hm] at ns
          cases ns
/-- repr(x) -/
def rRep (K : PySem.W.Frag) : List V → Hp → VK → Prop := fun xs H Q => ∃ x d, xs = [x] ∧ Dq K H x d ∧ d.showable = true ∧ d.depth ≤ 50 ∧ d.shown.length ≤ sizeLine ∧ Q (.str d.shown) H
theorem call_rep (hK : X.K = K) (hgd : X.A.guards = some []) (hu : X.A.units + 64 < cLine) : CallR X (.builtin "repr") (rRep K) := by
  subst hK
  intro pins s σ H xs us Q I r h
  obtain ⟨x, d, rfl, hx, hs, hdp, hz, q⟩ := h
  obtain ⟨u, rfl, ru⟩ := r.one
  have rf : ∀ a, x = V.ref a → wpAny (model X.prog X.w) X.A (call (.builtin "repr") [u]) (EP X pins σ Q) X.xe s := by
    intro a ex
    subst ex
    cases (show u = Value.ref a from ru)
    obtain ⟨as, rd, hsm⟩ := hx.reads I (u := Value.ref a) rfl
    exact repr_of_reads' rd hs hsm hgd (by omega) (fun _ _ e => e) (fun h' u tk hk => ⟨.str d.shown, H, I.kept (t' := tk) hk, ⟨u, rfl⟩, q⟩) hz
  cases hx with
  | d0 h => exact rf _ rfl
  | d1 h => exact rf _ rfl
  | dp h =>
    cases h with
    | lst h1 h2 => exact rf _ rfl
    | tup h1 h2 => exact rf _ rfl
    | non => cases (show u = Value.none from ru); simp only [PyData.shown] at q; exact P.repr_of_none ⟨.str "None", H, I.tok _, ⟨_, rfl⟩, q⟩
    | bl b => cases (show u = Value.bool b from ru); simp only [PyData.shown] at q; exact P.repr_of_bool ⟨.str (if b then "True" else "False"), H, I.tok _, ⟨_, rfl⟩, q⟩
    | int i =>
      obtain ⟨t, rfl⟩ := (show ∃ t, u = Value.int i t from ru)
      simp only [PyData.shown] at q
      simp only [PyData.showable] at hs
      exact P.repr_of_int (of_decide_eq_true hs) ⟨.str (toString i), H, I.tok _, ⟨_, rfl⟩, q⟩
    | str z =>
      obtain ⟨t, rfl⟩ := (show ∃ t, u = Value.str z t from ru)
      simp only [PyData.shown] at q hz
      exact P.repr_of_str ⟨.str (reprText z), H, I.tok _, ⟨_, rfl⟩, q⟩ hz
/-- l.count(y) of flat values -/
def rCntF (K : PySem.W.Frag) : V → List V → Hp → VK → Prop := fun x xs H Q => ∃ (p : Addr) (ys : List V) (y : V), x = .ref p ∧ xs = [y] ∧ SqL K H p ys ∧ flatV y = true ∧ ys.all flatV = true ∧ Q (.int ((ys.countP fun z => eqV z y : Nat) : Int)) H
theorem cnt_rel {y : V} : ∀ {ys : List V} {its : List Value}, Vals ys its → ys.all flatV = true → its.countP (eqU y) = ys.countP fun z => eqV z y
  | _, _, .nil, _ => rfl
  | z :: ys, u :: its, .cons r t, f => by
    rw [List.all_cons, Bool.and_eq_true] at f
    rw [List.countP_cons, List.countP_cons, cnt_rel t f.2, eqU_of r f.1]
theorem mt_cntF (hK : X.K = K) : MtR X "list.count" (rCntF K) := by
  subst hK
  intro pins s σ H x xs v us Q I rx rxs h
  obtain ⟨p, ys, y, rfl, rfl, hs, fy, fys, q⟩ := h
  cases rx
  obtain ⟨u, rfl, ru⟩ := rxs.one
  obtain ⟨its, rv, ⟨⟨cls, dd, data, sl⟩, n, ho, hc, hdn, hd⟩, hlen⟩ := I.list hs
  simp only at hc hd
  subst hc hd
  refine call_meets PySem.F.slot_list_count ⟨_, ho, rfl⟩ PySem.F.entry_list_count (PySem.F.args_list_count_2 _ _)
    (SeqAt.list_countAt p its.toArray n dd sl u (eqU y)) ⟨ho, fun u' hu' => mem_eqAt ru fy rv fys u' (by simpa using hu'), ?_⟩
  exact ⟨.int ((ys.countP fun z => eqV z y : Nat) : Int), H, I.tok _, ⟨s.toks, by rw [← cnt_rel (y := y) rv fys]⟩, q⟩
end
end QD
namespace KW
open PySem PySem.Spec PyProof.Rows L2
/-! ### f(k = v, ..): every parameter by its name -/
/-- these places of a list, in this order -/
def pk {α : Type} (ix : List Nat) (l : List α) : List α := ix.filterMap fun i => l[i]?
theorem pk_vals {zs : List V} {ws : List Value} (r : Vals zs ws) : ∀ ix : List Nat, Vals (pk ix zs) (pk ix ws)
  | [] => .nil
  | i :: ix => by
    unfold pk
    rw [List.filterMap_cons, List.filterMap_cons]
    cases e : zs[i]? with
    | some z =>
      obtain ⟨w, h, rw'⟩ := r.get e
      rw [h]
      exact .cons rw' (pk_vals r ix)
    | none =>
      have l := r.length
      have : ws[i]? = none := by
        rw [List.getElem?_eq_none_iff] at e ⊢
        omega
      rw [this]
      exact pk_vals r ix
def tK0 (m : Nat) (sp : Sp) (ix : List Nat) (E : XK) (tk : TA) : TE := fun σ H Q => tk σ H fun zs H2 => zs.length = m ∧ sp (pk ix zs) H2 Q E
theorem g_K0 {m : Nat} {sp : Sp} {ix : List Nat} {E : XK} {tk : TA} {σ : L2.St} {H : Hp} {Q : VK} (q : tk σ H fun zs H2 => zs.length = m ∧ sp (pk ix zs) H2 Q E) : tK0 m sp ix E tk σ H Q := q
section
variable {K : PySem.W.Frag} {fd : FuncData} {ps ks : List Str} {x qual : Str} {st : Stmt} {f : Addr}
theorem kb0 (F : Fun K x qual st f fd) (ix : List Nat) (h : ∀ (kV doc pm : Value) (an : Option Addr) (cdv ct : Value) (ws : List Value), ws.length = ks.length → bindArgs (PySem.W.fnOf x qual (defArgs st) (defBody st) (defScope st) .none kV doc pm an cdv ct) ⟨[], ks.zip ws⟩ = pure (ps.zip (pk ix ws))) :
    KBn K fd ps 0 ks (fun _ ws => pk ix ws) (fun _ zs => pk ix zs) := by
  obtain ⟨oc, od, kV, doc, pm, an, cdv, ct, osl, rfl, lk, hcd⟩ := F.ex
  refine ⟨fun s us ws X l1 l2 => ?_, fun r1 r2 => pk_vals r2 ix⟩
  cases us with
  | nil => exact BindsTo.of_eq (h kV doc pm an cdv ct ws l2)
  | cons a r => simp at l1
end
section
variable {X : Cx} {CX : CXT} {k : Nat} {f : Addr} {fd : FuncData} {ps ks : List Str} {sp : Sp} {E : XK} {x : Str} {p pos : Pos} {kws : List Keyword} {tk : TA} {ix : List Nat}
theorem pe_callK0 (F : FnOk X.prog X.w X.K X.mg X.base CX k f fd ps sp) (hr : Room k X.A) (hg : Gl X x) (hm : X.mg x = some (.ref f)) (hk : PySem.W.keepIn X.K (.ref f) = true) (hb : KBn X.K fd ps 0 ks (fun _ ws => pk ix ws) (fun _ zs => pk ix zs)) (hx : Passes CX X E)
    (hkw : PK X kws tk) (hall : (backToKw pos (keywordEach kws X.env)).all (·.1.isSome) = true := by rfl) (hks : (backToKw pos (keywordEach kws X.env)).filterMap (·.1) = ks := by rfl) (hdb : (x == ("__debug__" : Str)) = false := by decide)
    (hpl : ((backTo pos (starEach [] X.env)).any (·.1) || (backToKw pos (keywordEach kws X.env)).any (·.1.isNone)) = false := by rfl) : PE X (.Call (.Name x p) [] kws pos) (tK0 ks.length sp ix E tk) := by
  refine ⟨fun pins s σ H Q I h => ?_⟩
  refine wpAny_Call_Name_kw (ld_glob I hg hm ?_ hdb)
  refine PySem.W.callWith_KW0 (h₀ := X.base) I.ok.mod.kin hk hall ?_ hpl
  refine thn (hkw.run pos pins s σ H _ I h) fun ws s2 ⟨zs, H2, I2, rz, l2, q2⟩ => ⟨I2.kIn, ?_⟩
  rw [hks]
  exact run_fnN (us := []) (vs := []) F hr hb hx I2 .nil rz rfl l2 q2
end
end KW
namespace HX
open PySem PySem.Spec PyProof.Rows L2 He
/-! ### the head's facts, with a look of one's own at the written part -/
/-- what the names stand for, and what these objects name: twice over -/
def nmA (g : Addr → Option Obj) (nm : List Str) : List Addr := nm.map fun x => ga (frG g [mainGlobals]) x
def nxt (g : Addr → Option Obj) (as : List Addr) : List Addr := as.flatMap fun a => match g a with
  | some o => (match o.data with
    | .dict es _ => es.toList.flatMap fun e => refV e.val
    | .func fd => refV fd.code
    | .cls cd => [cd.ns]
    | _ => [])
  | none => []
def asX (g : Addr → Option Obj) (nm : List Str) : List Addr :=
  let a1 := nmA g nm
  let a2 := nxt g a1
  let a3 := nxt g a2
  let a4 := nxt g a3
  mainGlobals :: (a1 ++ (a2 ++ (a3 ++ a4)))
def obsX (nm : List Str) (fa : List Fa) (fn : List FnD) (xb : PySem.W.Frag → Bool) (g : Addr → Option Obj) : Al × Bool := (fun K : PySem.W.Frag => (obsE fa fn K, xb K)) (frG g (asX g nm))
def hookX (nm : List Str) (fa : List Fa) (fn : List FnD) (xb : PySem.W.Frag → Bool) : PySem.W.Hook where
  α := Al × Bool
  obs := fun s => obsX nm fa fn xb s.heap.get?
  val := fun _ => (valE fn, true)
  says := fun _ h => ∃ K : PySem.W.Frag, K.In h ∧ SaysE fa fn K ∧ xb K = true
  of := fun _ _ e => ⟨_, frG_in, congrArg Prod.fst e, congrArg Prod.snd e⟩
  keeps := fun _ _ _ ⟨K, hK, c⟩ k => ⟨K, PySem.W.Frag.In.keeps hK k, c⟩
theorem obsX_eq {nm : List Str} {fa : List Fa} {fn : List FnD} {xb : PySem.W.Frag → Bool} {g : Addr → Option Obj} {s : Shared} (h : ∀ a, g a = s.heap.get? a) : obsX nm fa fn xb g = (hookX nm fa fn xb).obs s := by
  have e : g = s.heap.get? := funext h
  rw [e] <;> rfl
/-- the end over such a head -/
theorem walkGE {l : PySem.W.OpenLaw} {n k : Nat} {q : Program} {loose : List Str} {XP : (Str → Option Value) → Heap → Prop} {YP : World → Heap → Prop} {d : DefRec} {sp : PySem.W.Frag → Sp} {x : Str}
    (hn : l.most = some n) (hn2 : n ≤ sizeLine) (hdf : d.params.defaults = []) (hr : Room k callerA)
    (F : ∀ (w : World) (mg : Str → Option Value) (fa : Addr) (h : Heap), YP w h → h.Ns mainGlobals mg → mg d.name = some (.ref fa) →
      ∃ (K : PySem.W.Frag) (fd : FuncData), K.In h ∧ (∀ (s : Shared) (u : Value), BindsTo s fd ⟨[u], []⟩ [(x, u)]) ∧
        ∀ base : Heap, K.In base → base.Ns mainGlobals mg → G.FnG l.prog w K mg base k fa fd [x] (sp K))
    (hsp : ∀ (K : PySem.W.Frag) (H : Hp) (a : Addr) (ns : List Int), ns.length ≤ n → SqL K H a (ns.map V.int) → sp K [.ref a] H (fun v _ => v = .bl true) fun _ _ _ => False) :
    PySem.W.WalkO q loose XP YP l.row.toRowW d [] (fun f vs => PySem.call f vs) := by
  refine Att.attach_call hn hdf fun w s₀ s₁ mg mb fa o pm cd doc a vs ns T Y ho hd hcd hmg hobj hints hlen hg => ?_
  obtain ⟨K, fd, KX, hb, hF⟩ := F w mg fa _ Y T.T.g hmg
  exact G.endG KX T.T.g T.T.b T.T.builtins T.T.nolimit hg hobj hints (Nat.le_trans hlen hn2) hr hF hb fun H => hsp K H a ns hlen
end HX
namespace LM
/-! ### sums over places -/
def sm (f : Nat → Int) : Nat → Int
  | 0 => 0
  | n + 1 => sm f n + f n
def sg (f : Nat → Int) (b e : Nat) : Int := sm f e - sm f b
theorem sg_self (f : Nat → Int) (b : Nat) : sg f b b = 0 := by unfold sg; omega
theorem sg_succ (f : Nat → Int) (b e : Nat) : sg f b (e + 1) = sg f b e + f e := by
  unfold sg
  have : sm f (e + 1) = sm f e + f e := rfl
  omega
theorem sg_add (f : Nat → Int) (b m e : Nat) : sg f b m + sg f m e = sg f b e := by unfold sg; omega
theorem sg_one (f : Nat → Int) (b : Nat) : sg f b (b + 1) = f b := by rw [sg_succ, sg_self]; omega
theorem sg_le {f g : Nat → Int} {b : Nat} : ∀ {e : Nat}, b ≤ e → (∀ i, b ≤ i → i < e → f i ≤ g i) → sg f b e ≤ sg g b e
  | 0, h, _ => by
    have : b = 0 := by omega
    subst this
    rw [sg_self, sg_self]
    exact Int.le_refl _
  | e + 1, h, q => by
    by_cases c : b = e + 1
    · rw [c, sg_self, sg_self]
      exact Int.le_refl _
    · have ih := sg_le (f := f) (g := g) (b := b) (e := e) (by omega) fun i h1 h2 => q i h1 (by omega)
      have := q e (by omega) (by omega)
      rw [sg_succ, sg_succ]
      omega
theorem sg_congr {f g : Nat → Int} {b e : Nat} (h : b ≤ e) (q : ∀ i, b ≤ i → i < e → f i = g i) : sg f b e = sg g b e := by
  have h1 := sg_le h fun i a c => Int.le_of_eq (q i a c)
  have h2 := sg_le h fun i a c => Int.le_of_eq (q i a c).symm
  omega
theorem sg_subc (f : Nat → Int) (c : Int) {b : Nat} : ∀ {e : Nat}, b ≤ e → sg (fun i => f i - c) b e = sg f b e - c * ((e : Int) - (b : Int))
  | 0, h => by
    have : b = 0 := by omega
    subst this
    rw [sg_self, sg_self]
    simp
  | e + 1, h => by
    by_cases q : b = e + 1
    · rw [q, sg_self, sg_self, Int.sub_self]
      omega
    · have ih := sg_subc f c (b := b) (e := e) (by omega)
      rw [sg_succ, sg_succ, ih]
      have : c * (((e + 1 : Nat) : Int) - (b : Int)) = c * ((e : Int) - (b : Int)) + c := by
        rw [show ((e + 1 : Nat) : Int) - (b : Int) = ((e : Int) - (b : Int)) + 1 by omega, Int.mul_add, Int.mul_one]
      omega
theorem sg_neg (f : Nat → Int) {b : Nat} : ∀ {e : Nat}, b ≤ e → sg (fun i => - f i) b e = - sg f b e
  | 0, h => by
    have : b = 0 := by omega
    subst this
    rw [sg_self, sg_self]
    rfl
  | e + 1, h => by
    by_cases q : b = e + 1
    · rw [q, sg_self, sg_self]; rfl
    · have ih := sg_neg f (b := b) (e := e) (by omega)
      rw [sg_succ, sg_succ, ih]
      omega
/-- y - f -/
theorem sg_rsubc (f : Nat → Int) (c : Int) {b e : Nat} (h : b ≤ e) : sg (fun i => c - f i) b e = c * ((e : Int) - (b : Int)) - sg f b e := by
  have h1 := sg_neg (fun i => f i - c) h
  rw [sg_subc f c h] at h1
  rw [show (fun i => c - f i) = fun i => -(f i - c) by funext i; omega, h1]
  omega
def ab (x : Int) : Int := if x < 0 then -x else x
theorem ab_ge (x : Int) : x ≤ ab x ∧ -x ≤ ab x ∧ 0 ≤ ab x := by
  unfold ab
  split <;> omega
theorem ab_pos {x : Int} (h : 0 ≤ x) : ab x = x := by unfold ab; rw [if_neg (by omega)]
theorem ab_neg {x : Int} (h : x ≤ 0) : ab x = -x := by
  unfold ab
  split <;> omega
def Mon (a : Nat → Int) (n : Nat) : Prop := ∀ i j, i ≤ j → j < n → a i ≤ a j
/-- what the values from b to e lose if c is shown -/
def lossAt (a : Nat → Int) (c : Int) (b e : Nat) : Int := sg (fun i => ab (a i - c)) b e
/-- the least loss of a stretch -/
def cs (a : Nat → Int) (b e : Nat) : Int := lossAt a (a ((b + e) / 2)) b e
theorem lossAt_add (a : Nat → Int) (c : Int) (b m e : Nat) : lossAt a c b m + lossAt a c m e = lossAt a c b e := sg_add _ b m e
theorem lossAt_nonneg (a : Nat → Int) (c : Int) {b e : Nat} (h : b ≤ e) : 0 ≤ lossAt a c b e := by
  have := sg_le (f := fun _ => 0) (g := fun i => ab (a i - c)) h fun i _ _ => (ab_ge _).2.2
  have z := sg_subc (fun _ => (0 : Int)) 0 h
  simp at z
  have z2 : sg (fun _ => (0 : Int)) b e = 0 := by
    have : ∀ n, sm (fun _ => (0 : Int)) n = 0 := by
      intro n
      induction n with
      | zero => rfl
      | succ n ih =>
        show sm _ n + 0 = 0
        rw [ih]; rfl
    unfold sg
    rw [this, this]; rfl
  unfold lossAt
  omega
theorem loss_up {a : Nat → Int} {n : Nat} (M : Mon a n) {m e : Nat} (h : m ≤ e) (he : e ≤ n) : lossAt a (a m) m e = sg a m e - a m * ((e : Int) - (m : Int)) := by
  unfold lossAt
  rw [← sg_subc a (a m) h]
  exact sg_congr h fun i h1 h2 => ab_pos (by have := M m i h1 (by omega); omega)
theorem loss_dn {a : Nat → Int} {n : Nat} (M : Mon a n) {b m : Nat} (h : b ≤ m) (he : m < n) : lossAt a (a m) b m = a m * ((m : Int) - (b : Int)) - sg a b m := by
  unfold lossAt
  rw [← sg_rsubc a (a m) h]
  refine sg_congr h fun i h1 h2 => ?_
  have := M i m (by omega) he
  rw [ab_neg (by omega)]
  omega
theorem mid_bd {b e : Nat} (h : b < e) : b ≤ (b + e) / 2 ∧ (b + e) / 2 < e := by omega
/-- the program's sums -/
theorem cs_sums {a : Nat → Int} {n : Nat} (M : Mon a n) {b e : Nat} (h : b < e) (he : e ≤ n) :
    cs a b e = (sm a e - sm a ((b + e) / 2) - a ((b + e) / 2) * ((e : Int) - ((b + e) / 2 : Nat))) + (a ((b + e) / 2) * (((b + e) / 2 : Nat) - (b : Int)) - sm a ((b + e) / 2) + sm a b) := by
  obtain ⟨h1, h2⟩ := mid_bd h
  unfold cs
  generalize (b + e) / 2 = m at *
  rw [← lossAt_add a (a m) b m e, loss_up M (by omega) he, loss_dn M h1 (by omega)]
  unfold sg
  omega
theorem cs_le {a : Nat → Int} {n : Nat} (M : Mon a n) {b e : Nat} (h : b < e) (he : e ≤ n) (y : Int) : cs a b e ≤ lossAt a y b e := by
  obtain ⟨h1, h2⟩ := mid_bd h
  have hk : (e - (b + e) / 2 = (b + e) / 2 - b) ∨ (e - (b + e) / 2 = (b + e) / 2 - b + 1) := by omega
  unfold cs
  generalize (b + e) / 2 = m at *
  rw [← lossAt_add a (a m) b m e, loss_up M (by omega) he, loss_dn M h1 (by omega), ← lossAt_add a y b m e]
  have u1 : sg a m e - y * ((e : Int) - (m : Int)) ≤ lossAt a y m e := by
    rw [← sg_subc a y (by omega)]
    exact sg_le (by omega) fun i _ _ => (ab_ge _).1
  have u2 : y * ((m : Int) - (b : Int)) - sg a b m ≤ lossAt a y b m := by
    rw [← sg_rsubc a y h1]
    exact sg_le h1 fun i _ _ => by have := (ab_ge (a i - y)).2.1; omega
  obtain ⟨q, hq⟩ : ∃ q : Nat, m = b + q := ⟨m - b, by omega⟩
  have e1 : (m : Int) - (b : Int) = (q : Int) := by omega
  rw [e1] at u2 ⊢
  rcases hk with hk | hk
  · have e2 : (e : Int) - (m : Int) = (q : Int) := by omega
    rw [e2] at u1 ⊢
    omega
  · have e2 : (e : Int) - (m : Int) = (q : Int) + 1 := by omega
    rw [e2, Int.mul_add, Int.mul_one] at u1 ⊢
    by_cases c : y ≤ a m
    · omega
    · have u3 : sg a m e - y * ((q : Int) + 1) + 2 * (y - a m) ≤ lossAt a y m e := by
        have z1 : lossAt a y m e = ab (a m - y) + lossAt a y (m + 1) e := by
          rw [← lossAt_add a y m (m + 1) e]
          unfold lossAt
          rw [sg_one]
        have z2 : sg a m e = a m + sg a (m + 1) e := by rw [← sg_add a m (m + 1) e, sg_one]
        have z3 : sg a (m + 1) e - y * ((e : Int) - ((m + 1 : Nat) : Int)) ≤ lossAt a y (m + 1) e := by
          rw [← sg_subc a y (by omega)]
          exact sg_le (by omega) fun i _ _ => (ab_ge _).1
        have z4 := (ab_ge (a m - y)).2.1
        have e3 : (e : Int) - ((m + 1 : Nat) : Int) = (q : Int) := by omega
        rw [e3] at z3
        rw [Int.mul_add, Int.mul_one]
        omega
      rw [Int.mul_add, Int.mul_one] at u3
      omega
/-- a stretch cut into two loses no more -/
theorem cs_cut {a : Nat → Int} {n : Nat} (M : Mon a n) {b m e : Nat} (h1 : b < m) (h2 : m < e) (he : e ≤ n) : cs a b m + cs a m e ≤ cs a b e := by
  have z1 := cs_le M h1 (by omega) (a ((b + e) / 2))
  have z2 := cs_le M h2 he (a ((b + e) / 2))
  have z3 := lossAt_add a (a ((b + e) / 2)) b m e
  unfold cs at *
  omega
theorem cs_nonneg (a : Nat → Int) {b e : Nat} (h : b ≤ e) : 0 ≤ cs a b e := lossAt_nonneg a _ h
/-! ### the least of some -/
def lmin : List Int → Option Int
  | [] => none
  | x :: r => match lmin r with
    | none => some x
    | some y => some (if y < x then y else x)
theorem lmin_none {xs : List Int} : lmin xs = none ↔ xs = [] := by
  cases xs with
  | nil => exact ⟨fun _ => rfl, fun _ => rfl⟩
  | cons x r =>
    refine ⟨fun h => ?_, fun h => by cases h⟩
    unfold lmin at h
    split at h <;> cases h
theorem lmin_out : ∀ {xs : List Int} {v : Int}, lmin xs = some v → v ∈ xs ∧ ∀ w ∈ xs, v ≤ w
  | [], v, h => by cases h
  | x :: r, v, h => by
    unfold lmin at h
    split at h
    · rename_i e
      cases h
      rw [lmin_none] at e
      subst e
      simp
    · rename_i y e
      obtain ⟨h1, h2⟩ := lmin_out e
      cases h
      refine ⟨?_, fun w hw => ?_⟩
      · split
        · exact List.mem_cons_of_mem _ h1
        · exact List.mem_cons_self
      · rcases List.mem_cons.mp hw with rfl | hw
        · split <;> omega
        · have := h2 w hw
          split <;> omega
theorem lmin_in {xs : List Int} {v : Int} (h1 : v ∈ xs) (h2 : ∀ w ∈ xs, v ≤ w) : lmin xs = some v := by
  cases e : lmin xs with
  | none => rw [lmin_none] at e; subst e; cases h1
  | some u =>
    obtain ⟨h3, h4⟩ := lmin_out e
    have := h2 u h3
    have := h4 v h1
    congr 1
    omega
/-- two lists of which each has one below each of the other -/
theorem lmin_eq {xs ys : List Int} (h1 : ∀ x ∈ xs, ∃ y ∈ ys, y ≤ x) (h2 : ∀ y ∈ ys, ∃ x ∈ xs, x ≤ y) : lmin xs = lmin ys := by
  cases e : lmin ys with
  | none =>
    rw [lmin_none] at e ⊢
    subst e
    cases xs with
    | nil => rfl
    | cons x r => obtain ⟨y, hy, _⟩ := h1 x List.mem_cons_self; cases hy
  | some v =>
    obtain ⟨h3, h4⟩ := lmin_out e
    obtain ⟨x, hx, hxv⟩ := h2 v h3
    have e2 : x = v := by
      obtain ⟨y, hy, hyx⟩ := h1 x hx
      have := h4 y hy
      omega
    subst e2
    refine lmin_in hx fun w hw => ?_
    obtain ⟨y, hy, hyw⟩ := h1 w hw
    have := h4 y hy
    omega
/-! ### the least losses of the first values -/
def put (t : List (Option Int)) (b : Nat) : Option Int := (t[b]?).getD none
/-- what each begin gives -/
def cand (c : Nat → Nat → Int) (t : List (Option Int)) (lo hi e : Nat) : List Int := (List.range' lo (hi - lo)).filterMap fun b => (put t b).map (· + c b e)
def tab (c : Nat → Nat → Int) (s : Nat) : Nat → List (Option Int)
  | 0 => [some 0]
  | n + 1 => tab c s n ++ [lmin (cand c (tab c s n) 0 (n + 2 - s) (n + 1))]
theorem tab_len (c : Nat → Nat → Int) (s n : Nat) : (tab c s n).length = n + 1 := by
  induction n with
  | zero => rfl
  | succ n ih =>
    show (tab c s n ++ [_]).length = _
    rw [List.length_append, ih]
    rfl
def F (c : Nat → Nat → Int) (s e : Nat) : Option Int := put (tab c s e) e
theorem tab_at (c : Nat → Nat → Int) (s : Nat) : ∀ {n i : Nat}, i ≤ n → (tab c s n)[i]? = some (F c s i)
  | 0, i, h => by
    have : i = 0 := by omega
    subst this
    rfl
  | n + 1, i, h => by
    by_cases e : i = n + 1
    · subst e
      have l := tab_len c s (n + 1)
      unfold F put
      rw [List.getElem?_eq_getElem (by omega)]
      rfl
    · show (tab c s n ++ [_])[i]? = _
      rw [List.getElem?_append_left (by rw [tab_len]; omega)]
      exact tab_at c s (by omega)
theorem put_tab (c : Nat → Nat → Int) (s : Nat) {n i : Nat} (h : i ≤ n) : put (tab c s n) i = F c s i := by
  unfold put
  rw [tab_at c s h]
  rfl
theorem mem_cand {c : Nat → Nat → Int} {t : List (Option Int)} {lo hi e : Nat} {x : Int} : x ∈ cand c t lo hi e ↔ ∃ b u, lo ≤ b ∧ b < hi ∧ put t b = some u ∧ x = u + c b e := by
  unfold cand
  rw [List.mem_filterMap]
  constructor
  · rintro ⟨b, hb, h⟩
    rw [List.mem_range'_1] at hb
    cases q : put t b with
    | none => rw [q] at h; cases h
    | some u =>
      rw [q] at h
      cases h
      exact ⟨b, u, hb.1, by omega, q, rfl⟩
  · rintro ⟨b, u, h1, h2, h3, rfl⟩
    exact ⟨b, List.mem_range'_1.mpr ⟨h1, by omega⟩, by rw [h3]; rfl⟩
theorem F_zero (c : Nat → Nat → Int) (s : Nat) : F c s 0 = some 0 := rfl
theorem F_succ (c : Nat → Nat → Int) (s n : Nat) : F c s (n + 1) = lmin (cand c (tab c s n) 0 (n + 2 - s) (n + 1)) := by
  show put (tab c s n ++ [_]) (n + 1) = _
  unfold put
  rw [List.getElem?_append_right (by rw [tab_len]; omega), tab_len, Nat.sub_self]
  rfl
section
variable {c : Nat → Nat → Int} {s : Nat} (hs : 1 ≤ s)
include hs
theorem F_mem {e : Nat} {v : Int} (h0 : 0 < e) (h : F c s e = some v) : ∃ b u, b + s ≤ e ∧ F c s b = some u ∧ v = u + c b e := by
  obtain ⟨n, rfl⟩ : ∃ n, e = n + 1 := ⟨e - 1, by omega⟩
  rw [F_succ] at h
  obtain ⟨b, u, h1, h2, h3, h4⟩ := mem_cand.mp (lmin_out h).1
  rw [put_tab c s (by omega)] at h3
  exact ⟨b, u, by omega, h3, h4⟩
theorem F_le {b e : Nat} {u : Int} (h : b + s ≤ e) (hb : F c s b = some u) : ∃ v, F c s e = some v ∧ v ≤ u + c b e := by
  obtain ⟨n, rfl⟩ : ∃ n, e = n + 1 := ⟨e - 1, by omega⟩
  rw [F_succ]
  have m : u + c b (n + 1) ∈ cand c (tab c s n) 0 (n + 2 - s) (n + 1) := mem_cand.mpr ⟨b, u, Nat.zero_le _, by omega, by rw [put_tab c s (by omega)]; exact hb, rfl⟩
  cases q : lmin (cand c (tab c s n) 0 (n + 2 - s) (n + 1)) with
  | none => rw [lmin_none] at q; rw [q] at m; cases m
  | some v => exact ⟨v, rfl, (lmin_out q).2 _ m⟩
/-- stretches of fewer than twice the size are enough -/
theorem F_near {n N : Nat} (hc : ∀ b m e, b < m → m < e → e ≤ N → c b m + c m e ≤ c b e) (hn : n + 1 ≤ N) : lmin (cand c (tab c s n) (n + 2 - 2 * s) (n + 2 - s) (n + 1)) = F c s (n + 1) := by
  rw [F_succ]
  refine lmin_eq (fun x hx => ?_) (fun y hy => ?_)
  · obtain ⟨b, u, h1, h2, h3, h4⟩ := mem_cand.mp hx
    exact ⟨x, mem_cand.mpr ⟨b, u, Nat.zero_le _, h2, h3, h4⟩, Int.le_refl _⟩
  · obtain ⟨b, u, h1, h2, h3, rfl⟩ := mem_cand.mp hy
    by_cases q : n + 2 - 2 * s ≤ b
    · exact ⟨_, mem_cand.mpr ⟨b, u, q, h2, h3, rfl⟩, Int.le_refl _⟩
    · rw [put_tab c s (by omega)] at h3
      obtain ⟨v, hv, hle⟩ := F_le hs (e := n + 1 - s) (by omega) h3
      refine ⟨v + c (n + 1 - s) (n + 1), mem_cand.mpr ⟨n + 1 - s, v, by omega, by omega, by rw [put_tab c s (by omega)]; exact hv, rfl⟩, ?_⟩
      have := hc b (n + 1 - s) (n + 1) (by omega) (by omega) hn
      omega
/-- more persons a crowd: no less loss -/
theorem F_mono : ∀ (e : Nat) {v : Int}, F c (s + 1) e = some v → ∃ w, F c s e = some w ∧ w ≤ v := by
  intro e
  induction e using Nat.strongRecOn with
  | _ e ih =>
    intro v h
    by_cases h0 : e = 0
    · subst h0
      exact ⟨v, h, Int.le_refl _⟩
    · obtain ⟨b, u, h1, h2, rfl⟩ := F_mem (by omega) (by omega) h
      obtain ⟨w, h3, h4⟩ := ih b (by omega) h2
      obtain ⟨x, h5, h6⟩ := F_le hs (b := b) (e := e) (by omega) h3
      exact ⟨x, h5, by omega⟩
theorem F_one {n : Nat} (h : n = 0 ∨ s ≤ n) : ∃ v, F c s n = some v := by
  by_cases h0 : n = 0
  · subst h0; exact ⟨0, rfl⟩
  · obtain ⟨v, h1, _⟩ := F_le (c := c) hs (b := 0) (e := n) (by omega) (F_zero c s)
    exact ⟨v, h1⟩
theorem F_pos (hc : ∀ b e, b ≤ e → 0 ≤ c b e) : ∀ (e : Nat) {v : Int}, F c s e = some v → 0 ≤ v := by
  intro e
  induction e using Nat.strongRecOn with
  | _ e ih =>
    intro v h
    by_cases h0 : e = 0
    · subst h0
      cases h
      exact Int.le_refl _
    · obtain ⟨b, u, h1, h2, rfl⟩ := F_mem hs (by omega) h
      have := ih b (by omega) h2
      have := hc b e (by omega)
      omega
theorem F_bd {B : Int} (hb : ∀ e, c 0 e ≤ B) (hB : 0 ≤ B) {e : Nat} {v : Int} (h : F c s e = some v) : v ≤ B := by
  by_cases h0 : e = 0
  · subst h0
    cases h
    exact hB
  · obtain ⟨b, u, h1, _⟩ := F_mem hs (by omega) h
    obtain ⟨w, h3, h4⟩ := F_le (c := c) hs (b := 0) (e := e) (by omega) (F_zero c s)
    rw [h] at h3
    cases h3
    have := hb e
    omega
end
/-! ### in how many ways -/
def wcond (c : Nat → Nat → Int) (s : Nat) (b e : Nat) : Bool := match F c s b with
  | none => false
  | some u => decide (some (u + c b e) = F c s e)
def wtab (c : Nat → Nat → Int) (s : Nat) : Nat → List Int
  | 0 => [1]
  | n + 1 => wtab c s n ++ [(((List.range (n + 2 - s)).filter fun b => wcond c s b (n + 1)).map fun b => ((wtab c s n)[b]?).getD 0).sum]
theorem wtab_len (c : Nat → Nat → Int) (s n : Nat) : (wtab c s n).length = n + 1 := by
  induction n with
  | zero => rfl
  | succ n ih =>
    show (wtab c s n ++ [_]).length = _
    rw [List.length_append, ih]
    rfl
theorem sum_pow : ∀ (n : Nat), ((List.range n).map fun b => (2 : Int) ^ b).sum + 1 = 2 ^ n
  | 0 => rfl
  | n + 1 => by
    have ih := sum_pow n
    rw [List.range_succ, List.map_append, List.sum_append]
    simp only [List.map_cons, List.map_nil, List.sum_cons, List.sum_nil]
    rw [Int.pow_succ]
    omega
theorem sum_le_f {f : Nat → Int} {p : Nat → Bool} (g : Nat → Int) : ∀ (n : Nat), (∀ b, b < n → 0 ≤ f b ∧ f b ≤ g b) → 0 ≤ (((List.range n).filter p).map f).sum ∧ (((List.range n).filter p).map f).sum ≤ ((List.range n).map g).sum
  | 0, _ => ⟨Int.le_refl _, Int.le_refl _⟩
  | n + 1, h => by
    have ih := sum_le_f (f := f) (p := p) g n fun b hb => h b (by omega)
    have hn := h n (by omega)
    rw [List.range_succ, List.filter_append, List.map_append, List.map_append, List.sum_append, List.sum_append]
    by_cases c : p n = true
    · rw [List.filter_cons_of_pos c]
      simp only [List.filter_nil, List.map_cons, List.map_nil, List.sum_cons, List.sum_nil]
      omega
    · rw [List.filter_cons_of_neg c]
      simp only [List.filter_nil, List.map_cons, List.map_nil, List.sum_cons, List.sum_nil]
      omega
theorem wtab_bd (c : Nat → Nat → Int) {s : Nat} (hs : 1 ≤ s) : ∀ (n i : Nat), i ≤ n → ∃ v, (wtab c s n)[i]? = some v ∧ 0 ≤ v ∧ v ≤ 2 ^ i
  | 0, i, h => by
    have : i = 0 := by omega
    subst this
    exact ⟨1, rfl, by decide, by decide⟩
  | n + 1, i, h => by
    by_cases e : i = n + 1
    · subst e
      have ih := wtab_bd c hs n
      have q : ∀ b, b < n + 2 - s → 0 ≤ ((wtab c s n)[b]?).getD 0 ∧ ((wtab c s n)[b]?).getD 0 ≤ (2 : Int) ^ b := fun b hb => by
        obtain ⟨v, h1, h2, h3⟩ := ih b (by omega)
        rw [h1]
        exact ⟨h2, h3⟩
      have z := sum_le_f (p := fun b => wcond c s b (n + 1)) (fun b => (2 : Int) ^ b) (n + 2 - s) q
      have z2 := sum_pow (n + 2 - s)
      refine ⟨(((List.range (n + 2 - s)).filter fun b => wcond c s b (n + 1)).map fun b => ((wtab c s n)[b]?).getD 0).sum, ?_, z.1, ?_⟩
      · show (wtab c s n ++ [_])[n + 1]? = _
        rw [List.getElem?_append_right (by rw [wtab_len]; omega), wtab_len, Nat.sub_self]
        rfl
      · have : (2 : Int) ^ (n + 2 - s) ≤ 2 ^ (n + 1) := by
          have := Nat.pow_le_pow_right (n := 2) (by decide) (show n + 2 - s ≤ n + 1 by omega)
          exact_mod_cast this
        omega
    · obtain ⟨v, h1, h2⟩ := wtab_bd c hs n i (by omega)
      refine ⟨v, ?_, h2⟩
      show (wtab c s n ++ [_])[i]? = _
      rw [List.getElem?_append_left (by rw [wtab_len]; omega)]
      exact h1
/-! ### how many are at most so much, of rising ones -/
theorem count_max {xs : List Int} {L : Int} (p : xs.Pairwise (· ≤ ·)) (m : Int) (hm : m ∈ (0 : Int) :: (((List.range xs.length).filterMap fun i : Nat => (xs[i]?).bind fun x : Int => if x ≤ L then some ((i : Int) + 1) else none))) (hle : ∀ y ∈ (0 : Int) :: (((List.range xs.length).filterMap fun i : Nat => (xs[i]?).bind fun x : Int => if x ≤ L then some ((i : Int) + 1) else none)), y ≤ m) : m = (xs.filter fun x => decide (x ≤ L)).length := by
  -- the first k are, no others
  have key : ∃ k : Nat, k ≤ xs.length ∧ (xs.filter fun x => decide (x ≤ L)).length = k ∧ ∀ i x, xs[i]? = some x → (x ≤ L ↔ i < k) := by
    clear hm hle
    induction xs with
    | nil => exact ⟨0, Nat.le_refl _, rfl, fun i x h => by simp at h⟩
    | cons a r ih =>
      obtain ⟨k, h1, h2, h3⟩ := ih (List.pairwise_cons.mp p).2
      by_cases c : a ≤ L
      · refine ⟨k + 1, by rw [List.length_cons]; omega, by rw [List.filter_cons_of_pos (by simpa using c), List.length_cons, h2], fun i x h => ?_⟩
        cases i with
        | zero => simp at h; subst h; exact ⟨fun _ => Nat.succ_pos _, fun _ => c⟩
        | succ i =>
          have := h3 i x (by simpa using h)
          rw [this]
          omega
      · have none : ∀ x ∈ r, ¬ x ≤ L := fun x hx => by
          have := (List.pairwise_cons.mp p).1 x hx
          omega
        refine ⟨0, Nat.zero_le _, ?_, fun i x h => ?_⟩
        · rw [List.filter_cons_of_neg (by simpa using c), List.filter_eq_nil_iff.mpr fun x hx => by simpa using none x hx]
          rfl
        · have : ¬ x ≤ L := by
            cases i with
            | zero => simp at h; subst h; exact c
            | succ i => exact none x (List.mem_of_getElem? (by simpa using h))
          exact ⟨fun q => absurd q this, fun q => absurd q (Nat.not_lt_zero _)⟩
  obtain ⟨k, h1, h2, h3⟩ := key
  rw [h2]
  have lo : (k : Int) ≤ m := by
    cases k with
    | zero => exact hle 0 List.mem_cons_self
    | succ k =>
      have hk : k < xs.length := by omega
      refine hle _ (List.mem_cons_of_mem _ (List.mem_filterMap.mpr ⟨k, List.mem_range.mpr hk, ?_⟩))
      rw [List.getElem?_eq_getElem hk]
      show (if xs[k] ≤ L then some ((k : Int) + 1) else none) = _
      rw [if_pos ((h3 k xs[k] (List.getElem?_eq_getElem hk)).mpr (Nat.lt_succ_self _))]
      rfl
  have hi : m ≤ (k : Int) := by
    rcases List.mem_cons.mp hm with rfl | hm
    · omega
    · obtain ⟨i, hi, e⟩ := List.mem_filterMap.mp hm
      rw [List.mem_range] at hi
      rw [List.getElem?_eq_getElem hi] at e
      have e : (if xs[i] ≤ L then some ((i : Int) + 1) else none) = some m := e
      by_cases q : xs[i] ≤ L
      · rw [if_pos q] at e
        cases e
        have := (h3 i xs[i] (List.getElem?_eq_getElem hi)).mp q
        omega
      · rw [if_neg q] at e
        cases e
  omega
end LM
namespace ET
open PySem PySem.Spec PyProof.Rows L2
/-! ### enumerate of a tuple -/
set_option maxHeartbeats 1000000 in
theorem newB1 {u : Value} {ob : Obj} {Hh : Heap → Prop} (B : Begins u ob Hh) :
    Meets (Builtin.«enumerate.__new__» ⟨[.type "enumerate", u], []⟩) (fun _ R s => Hh s.heap ∧
      R (.ok (.ret (.ref (s.heap.push ob).objs.size))) { s with heap := (s.heap.push ob).push { cls := .type "enumerate", data := .fields #[.none, .bool false, .ref s.heap.objs.size, rawInt 0, .none, .none] } }) :=
  .of_wp fun prog w A R s hh => by
    obtain ⟨hp, gg, dd, tk, os⟩ := s; obtain ⟨h1, h⟩ := hh
    have hsub := sub_enumerate
    have hbeg : ∀ {A' : Around} {E : Value → Shared → Prop} {Q : Value → Shared → Prop}, Q (.ref hp.objs.size) ⟨hp.push ob, gg, dd, tk, os⟩ → wpAny (model prog w) A' (pyIter u) Q E ⟨hp, gg, dd, tk, os⟩ :=
      fun q => B.iter prog w _ _ ⟨hp, gg, dd, tk, os⟩ _ h1 q
    wp_walk using hbeg
    refine wpAny_stack_any fun st => wpAny_pure ?_
    split
    · rename_i cl _ _ _ _ _
      cases (cl == Value.type "enumerate")
      · wp_walk using hbeg
        exact ⟨_, rfl, h⟩
      · wp_walk using hbeg
        exact ⟨_, rfl, h⟩
    · wp_walk using hbeg
      exact ⟨_, rfl, h⟩
theorem call_enumB {prog : Program} {w : World} {A : Around} {E : Value → Shared → Prop} {s : Shared} {u : Value} {ob : Obj} {Hh : Heap → Prop} {Q : Value → Shared → Prop} (B : Begins u ob Hh) (h1 : Hh s.heap)
    (h : ∀ h', IsEnum h' (s.heap.objs.size + 1) s.heap.objs.size 0 .none → h'.get? s.heap.objs.size = some ob → (∀ b o, s.heap.get? b = some o → h'.get? b = some o) → Q (.ref (s.heap.objs.size + 1)) { s with heap := h' }) :
    wpAny (model prog w) A (call (.type "enumerate") [u]) Q E s := by
  refine callType_new F.called_enumerate (by decide) (F.typeCall_enumerate_1 _) (F.newCall_enumerate_1 _) (fun oo => F.args_object_init_2 oo _) F.entry_enumerate_new (newB1 B) ⟨h1, ?_⟩
  have sz : (s.heap.push ob).objs.size = s.heap.objs.size + 1 := Heap.size_push ..
  show _ ∧ _
  rw [sz]
  have en : IsEnum ((s.heap.push ob).push { cls := .type "enumerate", data := .fields #[.none, .bool false, .ref s.heap.objs.size, rawInt 0, .none, .none] }) (s.heap.objs.size + 1) s.heap.objs.size 0 .none := by
    have z := Heap.get?_push_size (s.heap.push ob) (o := { cls := .type "enumerate", data := .fields #[.none, .bool false, .ref s.heap.objs.size, rawInt 0, .none, .none] }) rfl
    rw [sz] at z; exact z
  refine ⟨⟨_, en, rfl⟩, h _ en (Heap.get?_push_of_some _ (Heap.get?_push_size _ B.free)) fun b o e => Heap.get?_push_of_some _ (Heap.get?_push_of_some _ e)⟩
def IteT (K : PySem.W.Frag) (a : Addr) : It :=
  ⟨fun i H => ∃ (xs : List V) (x : V), SqT K H a xs ∧ xs[i]? = some x, fun i H v H' => ∃ T x, v = .ref T ∧ H T = none ∧ H' = upd H T (.tup [.int ((i : Nat) : Int), x]) ∧ ∀ xs, SqT K H a xs → xs[i]? = some x, fun i H => ∃ xs : List V, SqT K H a xs ∧ xs.length = i⟩
theorem turn_enumT {P : Program} {w : World} {K : PySem.W.Frag} {elts : List Expr} {kk : Nat} {tpos : Pos} (a e it : Addr) :
    Turn P w K (.Tuple elts kk tpos) (IteT K a) [e, it] e (fun i h => (∃ old, IsEnum h e it ((i : Nat) : Int) old) ∧ h.IsTupleIter it a i ∧ e ≠ it ∧ a ≠ it ∧ a ≠ e) where
  mem := List.mem_cons_self
  obj := by
    intro i h st b hb
    obtain ⟨⟨old, he⟩, ⟨o, ho, hc, hd⟩, _⟩ := st
    rcases List.mem_cons.mp hb with z | hb
    · subst z; exact ⟨_, he, fun v q => nomatch q⟩
    · rw [List.mem_singleton] at hb
      subst hb; exact ⟨o, ho, fun v q => by rw [hd] at q; cases q⟩
  keep := by
    intro i h h' st k
    obtain ⟨⟨old, he⟩, hi, hne⟩ := st
    exact ⟨⟨old, k e List.mem_cons_self _ he⟩, hi.at fun o q => k it (List.mem_cons_of_mem _ List.mem_cons_self) o q, hne⟩
  item := by
    intro X hP hw hK hc i pins s σ H E I hf st hg
    subst hP hw hK
    obtain ⟨⟨old, he⟩, hit, hne, hai, hae⟩ := st
    obtain ⟨xs, x, hq, hx⟩ := hg
    obtain ⟨its, rv, pt, hz⟩ := I.tuple hq
    obtain ⟨u, hu, ru⟩ := rv.get hx
    have hel : e < s.heap.objs.size := Heap.lt_size he
    have hil : it < s.heap.objs.size := by obtain ⟨_, q, _⟩ := hit; exact Heap.lt_size q
    have ilt : i < its.toArray.size := by
      obtain ⟨z, _⟩ := List.getElem?_eq_some_iff.mp hu
      simpa using z
    have pt' : s.heap.IsTuple a its.toArray := pt
    refine wpAny_pyNext_enum_itemC (A := X.A) (Draws.tuple (A := X.A.in1) (I.ok.hd hc) it a hai its.toArray) he ⟨hit, pt'⟩ ilt hne (by simp [hne, Ne.symm hae]) fun v h' tk ev ho hst hT hsz hk => ?_
    obtain rfl : v = u := by
      have e2 : its.toArray[i]? = some u := by simpa using hu
      rw [e2] at ev; cases ev; rfl
    refine ⟨_, rfl, wpAny_letOwnedTupleGo_enum (s := { s with heap := h', toks := tk + 1 }) ho fun h'' he' sb => ?_⟩
    have hT2 : h''.get? s.heap.objs.size = some { cls := .type "tuple", data := .seq #[.int ((i : Nat) : Int) tk, v] } := (sb.2 _ (Nat.ne_of_gt hel)).trans hT
    have new : ObjOk X.prog X.w (upd H s.heap.objs.size (.tup [.int ((i : Nat) : Int), x])) h'' s.heap.objs.size (.tup [.int ((i : Nat) : Int), x]) :=
      ⟨by show 2 ≤ sizeLine; decide, [.int ((i : Nat) : Int) tk, v], .cons ⟨_, rfl⟩ (.cons ru .nil), ⟨_, hT2, rfl, _, rfl⟩⟩
    have I1 : Inv X pins σ (upd H s.heap.objs.size (.tup [.int ((i : Nat) : Int), x])) { s with heap := h'', toks := tk + 1 } :=
      I.turnedNew (t' := tk + 1) (ch := [e, it]) (fun b ob hb q => (sb.2 b (fun z => hb (by simp [z]))).trans (hk b ob (fun z => hb (by simp [z])) (fun z => hb (by simp [z])) q)) hf (Nat.le_refl _) new
    refine ⟨.ref s.heap.objs.size, _, I1, rfl, ⟨_, x, rfl, I.hok.fresh (Nat.le_refl _), rfl, fun ys hy => by rw [I.tuple_inj hy hq]; exact hx⟩, ⟨⟨v, ?_⟩, hst.1.at fun o q => (sb.2 it (Ne.symm hne)).trans q, hne, hai, hae⟩, fun b hb => ?_⟩
    · have e1 : ((i + 1 : Nat) : Int) = (i : Int) + 1 := by omega
      rw [e1]; exact he'
    · have hb' : b < s.heap.objs.size := by
        rcases List.mem_cons.mp hb with z | hb
        · rw [z]; exact hel
        · rw [List.mem_singleton] at hb
          rw [hb]; exact hil
      rw [upd_ne (Nat.ne_of_lt hb')]
      exact (hf b hb).1
  done := by
    intro X hP hw hK hc i pins s σ H E I hf st hg
    subst hP hw hK
    obtain ⟨⟨old, he⟩, hit, hne, hai, hae⟩ := st
    obtain ⟨xs, hq, hx⟩ := hg
    obtain ⟨its, rv, pt, hz⟩ := I.tuple hq
    obtain ⟨f0, f1, f2, f3, f4, f5⟩ := hf it (List.mem_cons_of_mem _ List.mem_cons_self)
    have hl := rv.length
    have z : i = its.toArray.size := by simp; omega
    rw [z] at hit
    have pt' : s.heap.IsTuple a its.toArray := pt
    exact wpAny_pyNext_enum_endD (A := X.A) (Draws.tuple (A := X.A.in1) (I.ok.hd hc) it a hai its.toArray) he ⟨hit, pt'⟩ fun h' eb => ⟨rfl, I.turned (t' := s.toks) (fun b o hb q => eb b o hb q) f0 f1 f3 f4 f5⟩
  self := fun A i s Q E st h => by
    obtain ⟨⟨_, he⟩, _⟩ := st
    exact wpAny_pyIter_enum he h
def iEnumT (K : PySem.W.Frag) (ta : TA) : TI := fun σ H R => ta σ H fun vs H1 => ∃ a xs, vs = [.ref a] ∧ SqT K H1 a xs ∧ R (IteT K a) H1
theorem pi_enumT {X : Cx} {K : PySem.W.Frag} {e : Expr} {ta : TA} {p pos tpos : Pos} {elts : List Expr} {kk : Nat} (hK : X.K = K) (hg : Gl X "enumerate") (hm : X.mg "enumerate" = none) (ha : PA X [e] ta) (hs : starEach [e] X.env = [(false, eval e X.env)] := by rfl) :
    PI X (.Tuple elts kk tpos) (.Call (.Name "enumerate" p) [e] [] pos) (iEnumT K ta) := by
  subst hK
  constructor
  intro pins s σ H R I h
  refine Call_ (ld_blt I hg hm boot_enumerate (PyProof.Rows.callWith_type1 (thn (ha.run pos pins s σ H _ I h) fun us s1 hh => ?_) hs rfl))
  obtain ⟨vs, H1, I1, r1, a, xs, ex, hq, q⟩ := hh
  subst ex
  obtain ⟨u, rfl, ru⟩ := r1.one
  cases (show u = Value.ref a from ru)
  obtain ⟨its, rv, pt, hz⟩ := I1.tuple hq
  have la : a < s1.heap.objs.size := by obtain ⟨o, q, _⟩ := (show s1.heap.IsTuple a its.toArray from pt); exact Heap.lt_size q
  refine call_enumB (begins_tuple a its.toArray) pt fun h' he hit hk => wpAny_pyIter_enum he ?_
  have I3 : Inv X pins σ H1 { s1 with heap := h' } := I1.kept (t' := s1.toks) hk
  refine ⟨s1.heap.objs.size + 1, [s1.heap.objs.size + 1, s1.heap.objs.size], _, _, H1, rfl, I3, turn_enumT a (s1.heap.objs.size + 1) s1.heap.objs.size, ⟨⟨.none, he⟩, ⟨_, hit, rfl, rfl⟩, Nat.succ_ne_self _, Nat.ne_of_lt la, Nat.ne_of_lt (Nat.lt_succ_of_lt la)⟩, fun b hb => ?_, q⟩
  have hle : s1.heap.objs.size ≤ b := by
    rcases List.mem_cons.mp hb with z | hb
    · rw [z]; exact Nat.le_add_right _ _
    · rw [List.mem_singleton] at hb
      rw [hb]; exact Nat.le_refl _
  exact I1.fpOk hle (I1.hok.fresh hle)
theorem walk_enumT {K : PySem.W.Frag} {a : Addr} {xs : List V} : Walk (IteT K a) xs.length (fun H => SqT K H a xs) (YPair (fun i => some (.int ((i : Nat) : Int))) (fun i => xs[i]?)) := by
  refine ⟨fun i _ hi q => ⟨xs, xs[i], q, List.getElem?_eq_getElem hi⟩, fun _ q => ⟨xs, q, rfl⟩, fun i H v H' _ q y => ?_⟩
  obtain ⟨T, x, h1, h2, h3, h4⟩ := y
  exact ⟨T, .int ((i : Nat) : Int), x, h1, h2, h3, rfl, h4 xs q⟩
theorem g_iEnumT {K : PySem.W.Frag} {σ : L2.St} {H : Hp} {ta : TA} {R : It → Hp → Prop} (q : ta σ H fun vs H1 => ∃ a xs, vs = [.ref a] ∧ SqT K H1 a xs ∧ R (IteT K a) H1) : iEnumT K ta σ H R := q
end ET
namespace MD
open PySem PySem.Spec PyProof.Rows L2
/-! ### min(list, default = ..) of whole numbers -/
def rMinD (K : PySem.W.Frag) : List V → List V → Hp → VK → Prop := fun xs zs H Q => ∃ (a : Addr) (ns : List Int) (d : V), xs = [V.ref a] ∧ zs = [d] ∧ SqL K H a (ns.map V.int) ∧ (ns = [] → Q d H) ∧ ∀ m, m ∈ ns → (∀ y ∈ ns, m ≤ y) → Q (.int m) H
theorem reads_ints {h : Heap} : ∀ {ns : List Int} {its : List Value}, Vals (ns.map V.int) its → ∃ as, ReadsAll h its (ns.map PyData.int) as
  | [], _, r => by cases r; exact ⟨_, .nil⟩
  | n :: ns, _, r => by
    cases r with
    | cons r1 r2 =>
      obtain ⟨t, rfl⟩ := r1
      obtain ⟨as, q⟩ := reads_ints r2
      exact ⟨_, .cons (.int n t) q⟩
theorem foldl_min : ∀ (ns : List Int) (n : Int), ns.foldl min n ∈ n :: ns ∧ ∀ y ∈ n :: ns, ns.foldl min n ≤ y
  | [], n => ⟨List.mem_cons_self, fun y h => by rw [List.mem_singleton] at h; rw [h]; exact Int.le_refl _⟩
  | k :: r, n => by
    obtain ⟨h2, h3⟩ := foldl_min r (min n k)
    rw [List.foldl_cons]
    have z := h3 _ List.mem_cons_self
    refine ⟨?_, fun y hy => ?_⟩
    · rcases List.mem_cons.mp h2 with q | q
      · rw [q]
        rcases (show min n k = n ∨ min n k = k by omega) with e | e
        · rw [e]; exact List.mem_cons_self
        · rw [e]; exact List.mem_cons_of_mem _ List.mem_cons_self
      · exact List.mem_cons_of_mem _ (List.mem_cons_of_mem _ q)
    · rcases List.mem_cons.mp hy with rfl | hy
      · omega
      · rcases List.mem_cons.mp hy with rfl | hy
        · omega
        · exact h3 y (List.mem_cons_of_mem _ hy)
theorem alike_ints (ns : List Int) : PySem.W.AlikeAll (ns.map PyData.int) := by
  refine ⟨fun x hx y hy => ?_, fun x hx => ?_⟩
  · obtain ⟨i, _, rfl⟩ := List.mem_map.mp hx
    obtain ⟨j, _, rfl⟩ := List.mem_map.mp hy
    rfl
  · obtain ⟨i, _, rfl⟩ := List.mem_map.mp hx
    intro z
    cases z
theorem depth_ints : ∀ ns : List Int, PyData.depthAll (ns.map PyData.int) ≤ 1
  | [] => by simp [PyData.depthAll]
  | n :: r => by
    have := depth_ints r
    simp only [List.map_cons, PyData.depthAll, PyData.depth]
    omega
theorem cr_minD {X : Cx} {K : PySem.W.Frag} (hK : X.K = K) (hc : X.calm = true) (hu : X.A.units + 64 < cLine) : CallRK X (.builtin "min") [Str.ofString "default"] (rMinD K) := by
  subst hK
  intro pins s σ H xs zs us ws Q I r rz h
  obtain ⟨a, ns, d, rfl, rfl, hs, h0, h1⟩ := h
  obtain ⟨u, rfl, ru⟩ := r.one
  cases (show u = Value.ref a from ru)
  obtain ⟨w, rfl, rw1⟩ := rz.one
  obtain ⟨its, rv, hl, _⟩ := I.list hs
  obtain ⟨as, rd⟩ := reads_ints (h := s.heap) rv
  have dd := depth_ints ns
  refine PySem.W.min_list_default (xs := ns.map PyData.int) (as := as) (I.ok.hd hc) hl.isList rd (alike_ints ns) (by omega) (fun e h' tk hk => ?_) fun y ys i v h' tk bs e hv hrd hk => ?_
  · have e : ns = [] := by
      cases ns with
      | nil => rfl
      | cons => cases e
    exact ⟨d, H, I.kept (t' := tk) hk, rw1, h0 e⟩
  · cases ns with
    | nil => cases e
    | cons n r =>
      rw [List.map_cons] at e
      injection e with e1 e2
      subst e1 e2
      rw [PySem.W.minD_ints] at hrd
      obtain ⟨m1, m2⟩ := foldl_min r n
      generalize r.foldl min n = m at hrd m1 m2
      obtain ⟨t, rfl⟩ : ∃ t, v = Value.int m t := by cases hrd; exact ⟨_, rfl⟩
      exact ⟨.int m, H, I.kept (t' := tk) hk, ⟨t, rfl⟩, h1 m m1 m2⟩
theorem g_minD {K : PySem.W.Frag} {a : Addr} {ns : List Int} {H : Hp} {Q : VK} {d : V} (hs : SqL K H a (ns.map V.int)) (q0 : ns = [] → Q d H) (q1 : ∀ m, m ∈ ns → (∀ y ∈ ns, m ≤ y) → Q (.int m) H) : rMinD K [V.ref a] [d] H Q := ⟨a, ns, d, rfl, rfl, hs, q0, q1⟩
theorem g_ckw {r : List V → List V → Hp → VK → Prop} {t tk : TA} {σ : L2.St} {H : Hp} {Q : VK} (q : t σ H fun vs H1 => tk σ H1 fun zs H2 => r vs zs H2 Q) : tCKw r t tk σ H Q := q
end MD
namespace U
open PySem PySem.Spec PyProof.Rows L2
/-! ### range from a begin, sorted, slices -/
section
variable {σ : L2.St} {H : Hp} {Q : VK} {D : Ends} {K : PySem.W.Frag}
theorem g_iRng2 {ta : TA} {R : It → Hp → Prop} (q : ta σ H fun vs H1 => ∃ i j : Int, vs = [.int i, .int j] ∧ (-(2 ^ 62) ≤ i ∧ i < 2 ^ 62 ∧ -(2 ^ 62) ≤ j ∧ j < 2 ^ 62) ∧ R (Itr i (j - i).toNat) H1) : iRng2 ta σ H R := q
theorem e_rng2 {i j : Int} {R : It → Hp → Prop} (h : -1000000 ≤ i ∧ i ≤ 1000000 ∧ -1000000 ≤ j ∧ j ≤ 1000000) (q : R (Itr i (j - i).toNat) H) : ∃ a b : Int, [V.int i, V.int j] = [.int a, .int b] ∧ (-(2 ^ 62) ≤ a ∧ a < 2 ^ 62 ∧ -(2 ^ 62) ≤ b ∧ b < 2 ^ 62) ∧ R (Itr a (b - a).toNat) H := ⟨i, j, rfl, by omega, q⟩
theorem lcI_rg {g : TG} {tt : TT} {te : TE} {vs : List Nat} {lo : Int} {n : Nat} (hn : n ≤ 1000000) (f : Nat → Option V)
    (turn : ∀ i H' (A : VK) (B : Hp → Prop), i < n → Same H H' → (∀ y H4, f i = some y → Same H' H4 → A y H4) → (f i = none → ∀ H3, Same H' H3 → B H3) →
      g (.int (lo + (i : Int))) (wipe σ vs) H' fun σ2 H2 => wipe σ2 vs = wipe σ vs ∧ tt σ2 H2 fun b H3 => if b = true then te σ2 H3 A else B H3)
    (k : ∀ E H', H E = none → Same H H' → H' E = some (.lst ((List.range n).filterMap f)) → Q (.ref E) H') : lcI σ vs g tt te Q (Itr lo n) H := by
  refine lcI_same walk_range hn f (fun _ _ => trivial) (fun i H' x H'' y => by rw [y.1]; exact Same.refl _) (fun i x H' H'' A B hi s y kA kB => ?_) k
  obtain ⟨rfl, rfl⟩ := y
  exact turn i H'' A B hi s kA kB
theorem call_uSortI {X : Cx} (hK : X.K = K) : CallR X (.builtin "sorted") (rSortedI K) := by subst hK; exact cr_sortedI
theorem call_uSortP {X : Cx} (hK : X.K = K) : CallR X (.builtin "sorted") (rSortedPO K) := by subst hK; exact cr_sortedPO
theorem call_uMaxL {X : Cx} (hK : X.K = K) (hc : X.calm = true) : CallR X (.builtin "max") (rMax K) := by subst hK; exact cr_max hc
theorem call_uMinL {X : Cx} (hK : X.K = K) (hc : X.calm = true) : CallR X (.builtin "min") (rMin K) := by subst hK; exact cr_min hc
theorem g_sortI {p : Addr} {ns : List Int} (h : SqL K H p (ns.map V.int)) (q : ∀ (ns' : List Int) (l : Addr), ns'.Perm ns → ns'.Pairwise (· ≤ ·) → H l = none → Q (.ref l) (upd H l (.lst (ns'.map V.int)))) : rSortedI K [.ref p] H Q := ⟨p, ns, rfl, h, q⟩
theorem g_maxL {p : Addr} {ns : List Int} (h : SqL K H p (ns.map V.int)) (hl : 0 < ns.length) (q : ∀ m, m ∈ ns → (∀ y, y ∈ ns → y ≤ m) → Q (.int m) H) : rMax K [.ref p] H Q := ⟨p, ns, rfl, h, hl, q⟩
theorem g_minL {p : Addr} {ns : List Int} (h : SqL K H p (ns.map V.int)) (hl : 0 < ns.length) (q : ∀ m, m ∈ ns → (∀ y, y ∈ ns → m ≤ y) → Q (.int m) H) : rMin K [.ref p] H Q := ⟨p, ns, rfl, h, hl, q⟩
theorem g_cat {a b : Addr} {xs zs : List V} (h : H a = some (.lst xs)) (hb : H b = some (.lst zs)) (hl : xs.length + zs.length ≤ 1000000) (q : ∀ p, H p = none → Q (.ref p) (upd H p (.lst (xs ++ zs)))) : uAdd K (.ref a) (.ref b) H Q := Or.inl ⟨a, b, xs, zs, rfl, rfl, h, hb, Nat.le_trans hl (by decide), q⟩
theorem g_par3 {i j l : Nat} {ta : TA} (q : ta σ H fun vs H1 => ∃ u v w, vs = [u, v, w] ∧ D.nx (((σ.set i (some u)).set j (some v)).set l (some w)) H1) : tPar3 i j l ta D σ H := q
theorem e_three {u v w : V} {R : V → V → V → Prop} (q : R u v w) : ∃ x y z, [u, v, w] = [x, y, z] ∧ R x y z := ⟨u, v, w, rfl, q⟩
end
theorem cut_mid {xs : List V} {b e : Nat} (he : e ≤ xs.length) (hb : b ≤ e) : cutV xs (some (b : Int)) (some (e : Int)) = (xs.drop b).take (e - b) := by
  unfold cutV
  rw [HT.sIx_nat, HT.sIx_nat, show min b xs.length = b by omega, show min e xs.length = e by omega]
theorem cut_from {xs : List V} {b : Nat} (hb : b ≤ xs.length) : cutV xs (some (b : Int)) none = xs.drop b := by
  unfold cutV
  rw [HT.sIx_nat, HT.sIx_none, show min b xs.length = b by omega, List.take_of_length_le (by rw [List.length_drop]; omega)]
theorem at_end {α : Type} {xs ys : List α} {v : α} (e : xs = ys ++ [v]) : atI xs (-1) = some v := by
  rw [e]
  exact atI_last ys v
end U
namespace LM
open PySem L2
theorem fm_some {α β : Type} (f : α → β) : ∀ xs : List α, xs.filterMap (fun a => some (f a)) = xs.map f
  | [] => rfl
  | a :: r => by rw [List.filterMap_cons, List.map_cons, ← fm_some f r]
/-! ### pairs sorted -/
def keyAt (H : Hp) (v : V) : Int × Int := match v with
  | .ref t => match H t with
    | some (.tup [.int i, .int j]) => (i, j)
    | _ => (0, 0)
  | _ => (0, 0)
theorem keyAt_of {H : Hp} {t : Addr} {i j : Int} (h : H t = some (.tup [.int i, .int j])) : keyAt H (.ref t) = (i, j) := by
  unfold keyAt
  dsimp only
  rw [h]
/-- pairs of ints -/
def pairV (p : Int × Int) : List V := [.int p.1, .int p.2]
theorem key_prd {H : Hp} : ∀ {vs : List V} {ps : List (Int × Int)}, M.TupL H vs (ps.map pairV) → vs.map (keyAt H) = ps ∧ ∀ v ∈ vs, ∃ t, v = V.ref t ∧ H t = some (.tup [.int (keyAt H v).1, .int (keyAt H v).2])
  | [], [], _ => ⟨rfl, fun v h => by cases h⟩
  | v :: vs, p :: ps, .cons h r => by
    obtain ⟨a, rfl, h⟩ := h
    obtain ⟨e1, e2⟩ := key_prd (ps := ps) r
    have k := keyAt_of (i := p.1) (j := p.2) h
    refine ⟨by rw [List.map_cons, e1, k], fun w hw => ?_⟩
    rcases List.mem_cons.mp hw with rfl | hw
    · exact ⟨a, rfl, by rw [k]; exact h⟩
    · exact e2 w hw
theorem srt_fst {k : V → Int × Int} {ys : List V} (h : SrtO.Srtd (ltP k) ys) : (ys.map fun v => (k v).1).Pairwise (· ≤ ·) := by
  rw [List.pairwise_map]
  refine List.Pairwise.imp (fun {a b} q => ?_) h
  have q : SrtO.lexB (k b) (k a) = false := q
  refine Int.not_lt.mp fun c => ?_
  rw [SrtO.lexB_iff.mpr (.inl c)] at q
  cases q
/-- values with their places -/
def idx (ns : List Int) : List (Int × Int) := (List.range ns.length).map fun i : Nat => ((ns[i]?).getD 0, (i : Int))
theorem idx_len (ns : List Int) : (idx ns).length = ns.length := by unfold idx; rw [List.length_map, List.length_range]
theorem idx_fst (ns : List Int) : (idx ns).map (·.1) = ns := by
  unfold idx
  rw [List.map_map]
  refine List.ext_getElem? fun i => ?_
  rw [List.getElem?_map]
  by_cases h : i < ns.length
  · rw [List.getElem?_range h]
    show some ((ns[i]?).getD 0) = ns[i]?
    rw [List.getElem?_eq_getElem h]; rfl
  · rw [List.getElem?_eq_none (by rw [List.length_range]; omega), List.getElem?_eq_none (by omega)]; rfl
/-- a row of values in ascending order, and their places -/
structure RowOk (ns row pl : List Int) : Prop where
  up : row.Pairwise (· ≤ ·)
  len : row.length = ns.length
  pln : pl.length = ns.length
  perm : (row.zip pl).Perm (idx ns)
theorem zip_maps {α : Type} (f g : α → Int) : ∀ xs : List α, (xs.map f).zip (xs.map g) = xs.map fun x => (f x, g x)
  | [] => rfl
  | x :: r => by rw [List.map_cons, List.map_cons, List.zip_cons_cons, zip_maps f g r, List.map_cons]
theorem zip_fst : ∀ {xs ys : List Int}, xs.length = ys.length → (xs.zip ys).map (·.1) = xs
  | [], [], _ => rfl
  | x :: xs, y :: ys, h => by
    rw [List.zip_cons_cons, List.map_cons, zip_fst (by simpa using h)]
theorem RowOk.rp {ns row pl : List Int} (h : RowOk ns row pl) : row.Perm ns := by
  have := h.perm.map (·.1)
  rw [zip_fst (by rw [h.len, h.pln]), idx_fst] at this
  exact this
theorem RowOk.of {ns : List Int} {k : V → Int × Int} {xs ys : List V} (hx : xs.map k = idx ns) (hs : SrtO.Srtd (ltP k) ys) (hp : ys.Perm xs) : RowOk ns (ys.map fun v => (k v).1) (ys.map fun v => (k v).2) := by
  have l := hp.length_eq
  have l2 : xs.length = ns.length := by rw [← idx_len ns, ← hx, List.length_map]
  refine ⟨srt_fst hs, by rw [List.length_map]; omega, by rw [List.length_map]; omega, ?_⟩
  rw [zip_maps]
  have := hp.map k
  rw [hx] at this
  exact this
/-! ### a ladder -/
def rowF (row : List Int) (i : Nat) : Int := (row[i]?).getD 0
theorem rowF_at {row : List Int} {i : Nat} (h : i < row.length) : row[i]? = some (rowF row i) := by
  unfold rowF
  rw [List.getElem?_eq_getElem h]; rfl
theorem rowF_mon {row : List Int} (h : row.Pairwise (· ≤ ·)) : Mon (rowF row) row.length := fun i j hij hj => by
  rcases Nat.eq_or_lt_of_le hij with e | e
  · rw [e]; exact Int.le_refl _
  · have := (List.pairwise_iff_getElem.mp h) i j (by omega) hj e
    unfold rowF
    rw [List.getElem?_eq_getElem (by omega), List.getElem?_eq_getElem hj]
    exact this
def sumsL (row : List Int) (n : Nat) : List Int := (List.range (n + 1)).map (sm (rowF row))
theorem sumsL_at {row : List Int} {n i : Nat} (h : i ≤ n) : (sumsL row n)[i]? = some (sm (rowF row) i) := by
  unfold sumsL
  rw [List.getElem?_map, List.getElem?_range (by omega)]; rfl
theorem sumsL_succ (row : List Int) (n : Nat) : sumsL row (n + 1) = sumsL row n ++ [sm (rowF row) n + rowF row n] := by
  unfold sumsL
  rw [List.range_succ (n := n + 1), List.map_append]; rfl
theorem sumsL_end (row : List Int) : ∀ n : Nat, ∃ ys, sumsL row n = ys ++ [sm (rowF row) n]
  | 0 => ⟨[], rfl⟩
  | n + 1 => ⟨sumsL row n, sumsL_succ row n⟩
def ladF (la lp ls : Addr) : List (Str × V) := [("ascending", .ref la), ("places", .ref lp), ("sums", .ref ls)]
structure LadX (CL : Addr) (H : Hp) (x dx la lp ls : Addr) (row pl : List Int) : Prop where
  hi : H x = some (.ins CL dx (ladF la lp ls))
  ha : H la = some (.lst (row.map V.int))
  hp : H lp = some (.lst (pl.map V.int))
  hs : H ls = some (.lst ((sumsL row row.length).map V.int))
theorem LadX.same {CL : Addr} {H H' : Hp} {x dx la lp ls : Addr} {row pl : List Int} (s : Same H H') (h : LadX CL H x dx la lp ls row pl) : LadX CL H' x dx la lp ls row pl := ⟨s _ _ h.hi, s _ _ h.ha, s _ _ h.hp, s _ _ h.hs⟩
theorem lad_a (la lp ls : Addr) : (ladF la lp ls).lookup ("ascending" : Str) = some (.ref la) := M.lk_fst
theorem lad_p (la lp ls : Addr) : (ladF la lp ls).lookup ("places" : Str) = some (.ref lp) := (M.lk_nxt (by decide +kernel)).trans M.lk_fst
theorem lad_s (la lp ls : Addr) : (ladF la lp ls).lookup ("sums" : Str) = some (.ref ls) := (M.lk_nxt (by decide +kernel)).trans ((M.lk_nxt (by decide +kernel)).trans M.lk_fst)
theorem lad_no {f : Str} (h1 : (f == ("ascending" : Str)) = false) (h2 : (f == ("places" : Str)) = false) (h3 : (f == ("sums" : Str)) = false) (la lp ls : Addr) : (ladF la lp ls).lookup f = none := (M.lk_nxt h1).trans ((M.lk_nxt h2).trans ((M.lk_nxt h3).trans rfl))
theorem LadX.fa {K : PySem.W.Frag} {CL : Addr} {H : Hp} {x dx la lp ls : Addr} {row pl : List Int} (h : LadX CL H x dx la lp ls row pl) (c : Cls K CL) (n : NoAttr K CL "ascending") {R : V → Prop} (q : R (.ref la)) :
    ∃ a C dx fs v, V.ref x = .ref a ∧ H a = some (.ins C dx fs) ∧ Cls K C ∧ NoAttr K C "ascending" ∧ fs.lookup ("ascending" : Str) = some v ∧ R v := ⟨x, CL, dx, _, _, rfl, h.hi, c, n, lad_a la lp ls, q⟩
theorem LadX.fp {K : PySem.W.Frag} {CL : Addr} {H : Hp} {x dx la lp ls : Addr} {row pl : List Int} (h : LadX CL H x dx la lp ls row pl) (c : Cls K CL) (n : NoAttr K CL "places") {R : V → Prop} (q : R (.ref lp)) :
    ∃ a C dx fs v, V.ref x = .ref a ∧ H a = some (.ins C dx fs) ∧ Cls K C ∧ NoAttr K C "places" ∧ fs.lookup ("places" : Str) = some v ∧ R v := ⟨x, CL, dx, _, _, rfl, h.hi, c, n, lad_p la lp ls, q⟩
theorem LadX.fs {K : PySem.W.Frag} {CL : Addr} {H : Hp} {x dx la lp ls : Addr} {row pl : List Int} (h : LadX CL H x dx la lp ls row pl) (c : Cls K CL) (n : NoAttr K CL "sums") {R : V → Prop} (q : R (.ref ls)) :
    ∃ a C dx fs v, V.ref x = .ref a ∧ H a = some (.ins C dx fs) ∧ Cls K C ∧ NoAttr K C "sums" ∧ fs.lookup ("sums" : Str) = some v ∧ R v := ⟨x, CL, dx, _, _, rfl, h.hi, c, n, lad_s la lp ls, q⟩
/-- a number, or None -/
def oV : Option Int → V
  | none => .non
  | some i => .int i
theorem tab_end (c : Nat → Nat → Int) (s : Nat) : ∀ n : Nat, ∃ ys, tab c s n = ys ++ [F c s n]
  | 0 => ⟨[], rfl⟩
  | n + 1 => ⟨tab c s n, by rw [F_succ]; rfl⟩
theorem map_end {α β : Type} (f : α → β) {xs ys : List α} {v : α} (e : xs = ys ++ [v]) : xs.map f = ys.map f ++ [f v] := by rw [e, List.map_append]; rfl
theorem tab_succ (c : Nat → Nat → Int) (s n : Nat) : tab c s (n + 1) = tab c s n ++ [F c s (n + 1)] := by rw [F_succ]; rfl
def hB (c : Nat → Nat → Int) (t : List (Option Int)) (e : Nat) (v : V) : Option V := match v with
  | .int z => some (.int ((put t z.toNat).getD 0 + c z.toNat e))
  | _ => none
def fB (t : List (Option Int)) (lo : Nat) (j : Nat) : Option V := if (put t (lo + j)).isSome = true then some (.int ((lo : Int) + (j : Int))) else none
theorem cand_two (c : Nat → Nat → Int) (t : List (Option Int)) (lo hi e : Nat) : ((List.range (hi - lo)).filterMap (fB t lo)).filterMap (hB c t e) = (cand c t lo hi e).map V.int := by
  unfold cand
  rw [List.range'_eq_map_range, List.filterMap_map, List.filterMap_filterMap, List.map_filterMap]
  congr 1
  funext j
  show (fB t lo j).bind (hB c t e) = (((put t (lo + j)).map (· + c (lo + j) e)).map V.int)
  unfold fB
  cases q : put t (lo + j) with
  | none => rfl
  | some u =>
    show hB c t e (.int ((lo : Int) + (j : Int))) = _
    show some (V.int ((put t ((lo : Int) + (j : Int)).toNat).getD 0 + c ((lo : Int) + (j : Int)).toNat e)) = _
    rw [show ((lo : Int) + (j : Int)).toNat = lo + j by omega, q]
    rfl
/-- the values in ascending order -/
structure Row (ns row : List Int) : Prop where
  perm : row.Perm ns
  up : row.Pairwise (· ≤ ·)
theorem Row.uniq {ns a b : List Int} (ha : Row ns a) (hb : Row ns b) : a = b := (ha.perm.trans hb.perm.symm).eq_of_pairwise (fun _ _ _ _ h1 h2 => Int.le_antisymm h1 h2) ha.up hb.up
theorem Row.ex (ns : List Int) : ∃ row : List Int, Row ns row := ⟨ns.mergeSort (fun a b => decide (a ≤ b)), List.mergeSort_perm _ _, by
  have := List.pairwise_mergeSort (le := fun a b : Int => decide (a ≤ b)) (fun a b c h1 h2 => by simp at *; omega) (fun a b => by simp; omega) ns
  exact this.imp fun h => by simpa using h⟩
theorem Row.self {row : List Int} (h : row.Pairwise (· ≤ ·)) : Row row row := ⟨List.Perm.refl _, h⟩
theorem RowOk.row {ns row pl : List Int} (h : RowOk ns row pl) : Row ns row := ⟨h.rp, h.up⟩
theorem Row.len {ns row : List Int} (h : Row ns row) : row.length = ns.length := h.perm.length_eq
/-- the least losses for the sizes 1, 2, .. -/
def dueL (row : List Int) : List Int := (List.range row.length).map fun i => (F (cs (rowF row)) (i + 1) row.length).getD 0
theorem due_at {row : List Int} {i : Nat} (h : i < row.length) : F (cs (rowF row)) (i + 1) row.length = some ((F (cs (rowF row)) (i + 1) row.length).getD 0) := by
  obtain ⟨v, e⟩ := F_one (c := cs (rowF row)) (s := i + 1) (by omega) (n := row.length) (.inr (by omega))
  rw [e]; rfl
theorem dec_oV (a : Int) (o : Option Int) : decide (V.int a = oV o) = decide (some a = o) := by
  cases o with
  | none => rfl
  | some b =>
    rw [Bool.eq_iff_iff, decide_eq_true_eq, decide_eq_true_eq]
    exact ⟨fun e => by injection e with e; rw [e], fun e => by injection e with e; rw [e]; rfl⟩
theorem scal_oV (a : Int) (o : Option Int) : scal (V.int a) (oV o) = true := by cases o <;> rfl
def W (c : Nat → Nat → Int) (s n : Nat) : Int := ((wtab c s n)[n]?).getD 0
theorem wtab_end (c : Nat → Nat → Int) (s : Nat) : ∀ n : Nat, ∃ ys, wtab c s n = ys ++ [W c s n]
  | 0 => ⟨[], rfl⟩
  | n + 1 => ⟨wtab c s n, by
    unfold W
    rw [show wtab c s (n + 1) = wtab c s n ++ [_] from rfl, List.getElem?_append_right (by rw [wtab_len]; omega), wtab_len, Nat.sub_self]
    rfl⟩
def hW (t : List Int) (v : V) : Option V := match v with
  | .int z => some (.int ((t[z.toNat]?).getD 0))
  | _ => none
theorem ways_two (t : List Int) (p : Nat → Bool) (n : Nat) : ((List.range n).filterMap (fun j => if p j = true then some (V.int (j : Int)) else none)).filterMap (hW t) = ((((List.range n).filter p).map fun b => (t[b]?).getD 0)).map V.int := by
  rw [List.map_map, List.filterMap_filterMap, ← List.filterMap_eq_map, List.filterMap_filter]
  congr 1
  funext j
  by_cases c : p j = true
  · rw [if_pos c, if_pos c]
    show hW t (.int (j : Int)) = _
    unfold hW
    dsimp only
    rw [Int.toNat_natCast]
    rfl
  · rw [if_neg c, if_neg c]; rfl
theorem wtab_succ (c : Nat → Nat → Int) (s n : Nat) : wtab c s (n + 1) = wtab c s n ++ [(((List.range (n + 2 - s)).filter fun b => wcond c s b (n + 1)).map fun b => ((wtab c s n)[b]?).getD 0).sum] := rfl
theorem sum_sm (f : Int → Int) : ∀ row : List Int, (row.map f).sum = sm (fun i => f (rowF row i)) row.length := by
  intro row
  have key : ∀ n, n ≤ row.length → ((row.take n).map f).sum = sm (fun i => f (rowF row i)) n := by
    intro n
    induction n with
    | zero => intro _; rfl
    | succ n ih =>
      intro h
      rw [List.take_succ, List.getElem?_eq_getElem (by omega), List.map_append, List.sum_append, ih (by omega)]
      show _ + _ = sm _ n + f (rowF row n)
      congr 1
      unfold rowF
      rw [List.getElem?_eq_getElem (by omega)]
      simp
  have := key row.length (Nat.le_refl _)
  rwa [List.take_of_length_le (Nat.le_refl _)] at this
theorem sum_cost (row : List Int) : (row.map fun z => ab (z - rowF row (row.length / 2))).sum = cs (rowF row) 0 row.length := by
  rw [sum_sm]
  unfold cs lossAt sg
  rw [Nat.zero_add]
  show _ = _ - 0
  omega
/-- a part of a row -/
theorem rowF_part (row : List Int) {b e i : Nat} (h : i < e - b) : rowF ((row.drop b).take (e - b)) i = rowF row (b + i) := by
  unfold rowF
  rw [List.getElem?_take, if_pos h, List.getElem?_drop]
theorem cs_part {row : List Int} {b e : Nat} (hb : b < e) (he : e ≤ row.length) : cs (rowF ((row.drop b).take (e - b))) 0 (e - b) = cs (rowF row) b e := by
  unfold cs
  rw [show (0 + (e - b)) / 2 = (e - b) / 2 by omega, rowF_part row (by omega), show b + (e - b) / 2 = (b + e) / 2 by omega]
  unfold lossAt
  generalize rowF row ((b + e) / 2) = y
  have key : ∀ n, n ≤ e - b → sg (fun i => ab (rowF ((row.drop b).take (e - b)) i - y)) 0 n = sg (fun i => ab (rowF row i - y)) b (b + n) := by
    intro n
    induction n with
    | zero => intro _; rw [sg_self, Nat.add_zero, sg_self]
    | succ n ih =>
      intro h
      rw [sg_succ, ih (by omega), ← Nat.add_assoc, sg_succ, rowF_part row (by omega)]
  have := key (e - b) (Nat.le_refl _)
  rw [this, show b + (e - b) = e by omega]
theorem part_row {row : List Int} (up : row.Pairwise (· ≤ ·)) (b n : Nat) : Row ((row.drop b).take n) ((row.drop b).take n) := Row.self ((up.drop).take)
end LM
namespace ST
open PySem PyProof.Rows PySem.Spec L2 SrtO
/-! ### sorted of a tuple of ints -/
section
variable {prog : Program} {w : World} {A : Around} {E : Value → Shared → Prop} {s : Shared}
theorem coll_tup {l : Addr} {us : List Value} {Q : List Value → Shared → Prop} (hl : s.heap.IsTuple l us.toArray) (hsz : us.length ≤ sizeLine)
    (h : Q us { s with heap := (s.heap.push (seqObj "list" #[] 0)).update s.heap.objs.size (Obj.mapSeq (· ++ us.toArray)) }) : wpAny (model prog w) A (collect (.ref l)) Q E s := by
  obtain ⟨o, ho, hc, n, hd⟩ := id hl
  unfold collect
  refine wpAny_bind (wpAny_runValue (codeAny_builtin entry_proto_collect' ?_))
  show wpAny _ _ (do again (.builtin "list.__iadd__" ⟨[← newList [], .ref l], []⟩)) _ _ s
  refine wpAny_bind (wpAny_newList (wpAny_pure (And.intro (Code.quiet_builtin _ (by decide +kernel)) (codeAny_builtin entry_list_iadd' ?_))))
  show wpAny _ _ (Builtin.List.listExtendWith (.ref s.heap.objs.size) (.ref l) (.ref s.heap.objs.size)) _ _ { s with heap := s.heap.push (seqObj "list" #[] 0) }
  unfold Builtin.List.listExtendWith
  have old : (s.heap.push (seqObj "list" #[] 0)).get? l = some o := Heap.get?_push_of_some _ ho
  refine wpAny_bind (wpAny_typeOf (T := "tuple") ⟨o, old, hc⟩ ?_)
  have tt : (Value.type "tuple" == Value.type "tuple") = true := by rfl
  rw [if_pos (by rw [tt]; simp)]
  refine wpAny_bind (listItems_at old hd ?_)
  have new : ((s.heap.push (seqObj "list" #[] 0)).get? s.heap.objs.size) = some (seqObj "list" #[] 0) := Heap.get?_push_size _ rfl
  refine wpAny_bind (listItems_at (n := 0) (xs := #[]) new rfl ?_)
  rw [if_neg (by simp)]
  refine wpAny_bind (listUpdate_at (n := 0) (xs := #[]) new rfl ?_ (Nat.zero_le _) (by simp only [Array.size_append, List.size_toArray, List.length_nil]; show 0 + _ ≤ _; omega))
  refine wpAny_pure ?_
  show wpAny (model prog w) A (do
      let b ← load s.heap.objs.size
      match b.data with
      | .seq xs _ => pure xs.toList
      | _ => unsupported "internal:collect") Q E { s with heap := (s.heap.push (seqObj "list" #[] 0)).update s.heap.objs.size (Obj.mapSeq (· ++ us.toArray)) }
  refine wpAny_bind (wpAny_load (get?_update_seq new _) ?_)
  show wpAny _ _ (pure ((#[] : Array Value) ++ us.toArray).toList) Q E _
  have e : ((#[] : Array Value) ++ us.toArray).toList = us := by simp
  rw [e]
  exact wpAny_pure h
theorem sorted_tup {l : Addr} {us : List Value} {ltv : Value → Value → Bool} {Q : Value → Shared → Prop} (O : Swo ltv) (hl : s.heap.IsTuple l us.toArray) (hz : us.length ≤ sizeLine)
    (hS : 2 ≤ us.length → ∀ (h₁ : Heap) (a : Addr), h₁.get? a = some (seqObj "list" us.toArray 0) → (∀ b o, s.heap.get? b = some o → b ≠ a ∧ h₁.get? b = some o) → SortableO prog w A.in1.in1 { s with heap := h₁ } a us ltv)
    (h : ∀ out : List Value, Srtd ltv out → Stb ltv out us → Q (.ref (s.heap.objs.size + 1)) { s with heap := sortedAll s.heap us out.toArray }) :
    wpAny (model prog w) A (call (.builtin "sorted") [.ref l]) Q E s := by
  refine Calls.call_function_entry kind_sorted plain_sorted entry_sorted (args_sorted1 _) ?_
  unfold Builtin.«sorted»
  refine wpAny_bind (m := checkCount "sorted" 1 1 _) (wpAny_pure ?_)
  refine wpAny_bind (coll_tup hl hz ?_)
  refine wpAny_bind (wpAny_newList ?_ hz)
  have sz : ((s.heap.push (seqObj "list" #[] 0)).update s.heap.objs.size (Obj.mapSeq (· ++ us.toArray))).objs.size = s.heap.objs.size + 1 := (Heap.size_update ..).trans (size_push' ..)
  have at1 : (((s.heap.push (seqObj "list" #[] 0)).update s.heap.objs.size (Obj.mapSeq (· ++ us.toArray))).push (seqObj "list" us.toArray 0)).get? (s.heap.objs.size + 1) = some (seqObj "list" us.toArray 0) := by
    have z := Heap.get?_push_size ((s.heap.push (seqObj "list" #[] 0)).update s.heap.objs.size (Obj.mapSeq (· ++ us.toArray))) (o := seqObj "list" us.toArray 0) rfl
    rwa [sz] at z
  have stays : ∀ b o, s.heap.get? b = some o → b ≠ s.heap.objs.size + 1 ∧ (((s.heap.push (seqObj "list" #[] 0)).update s.heap.objs.size (Obj.mapSeq (· ++ us.toArray))).push (seqObj "list" us.toArray 0)).get? b = some o := fun b o q => by
    have lt : b < s.heap.objs.size := Heap.lt_size q
    refine And.intro (Nat.ne_of_lt (Nat.lt_succ_of_lt lt)) (Heap.get?_push_of_some _ ?_)
    rw [Heap.get?_update_ne _ _ _ _ (Nat.ne_of_lt lt)]
    exact Heap.get?_push_of_some _ q
  show wpAny _ _ _ _ _ { s with heap := ((s.heap.push (seqObj "list" #[] 0)).update s.heap.objs.size (Obj.mapSeq (· ++ us.toArray))).push (seqObj "list" us.toArray 0) }
  rw [sz]
  refine wpAny_bind (wpAny_holding (wpAny_call_entry slot_list_sort ⟨_, at1, rfl⟩ entry_list_sort (list_sort_ord O at1 hz (fun h2 => hS h2 _ _ at1 stays) fun out o1 o2 => ⟨_, rfl, ?_⟩) (args_list_sort _)))
  exact wpAny_pure ⟨_, rfl, h out o1 o2⟩
end
/-- sorted(xs), xs a list or a tuple of ints -/
def rSortLT (K : PySem.W.Frag) : List V → Hp → VK → Prop := fun vs H Q => ∃ (a : Addr) (ns : List Int), vs = [V.ref a] ∧ (SqL K H a (ns.map V.int) ∨ SqT K H a (ns.map V.int)) ∧
  ∀ (ns' : List Int) (p : Addr), ns'.Perm ns → ns'.Pairwise (· ≤ ·) → H p = none → Q (.ref p) (upd H p (.lst (ns'.map V.int)))
theorem cr_sortLT {X : Cx} {K : PySem.W.Frag} (hK : X.K = K) : CallR X (.builtin "sorted") (rSortLT K) := by
  subst hK
  intro pins s σ H vs us Q I r h
  obtain ⟨a, ns, rfl, hs | hs, q⟩ := h
  · exact cr_sortedI pins s σ H _ us Q I r ⟨a, ns, rfl, hs, q⟩
  · obtain ⟨its, rv, pt, hz⟩ := I.tuple hs
    obtain ⟨u, rfl, ru⟩ := r.one
    cases (show u = Value.ref a from ru)
    have hi := rv.ints
    refine sorted_tup SrtO.swo_int (show s.heap.IsTuple a its.toArray from pt) (by rw [← rv.length]; exact hz) (fun h2 h₁ a' _ _ => SrtO.ints_sortable hi h2) fun out o1 o2 => ?_
    obtain ⟨k1, k2, k3⟩ := SrtO.ints_out hi o1 o2
    obtain ⟨ep, at1⟩ := PyProof.Rows.sortedAll_at s.heap its out.toArray
    have ln : ((out.map SrtO.iv).map V.int).length ≤ sizeLine := by
      rw [List.length_map, k2.length_eq]
      rwa [List.length_map] at hz
    refine ⟨.ref _, upd H (s.heap.objs.size + 1) (.lst ((out.map SrtO.iv).map V.int)), I.laid (t' := s.toks) (fun _ _ => PyProof.Rows.sortedAll_old) (Nat.le_succ _) ⟨ln, out, ep, vals_of_ints k1, at1⟩, rfl, q _ _ k2 k3 (I.hok.fresh (Nat.le_succ _))⟩
theorem g_sortLT {K : PySem.W.Frag} {H : Hp} {Q : VK} {p : Addr} {ns : List Int} (h : SqL K H p (ns.map V.int) ∨ SqT K H p (ns.map V.int)) (q : ∀ (ns' : List Int) (l : Addr), ns'.Perm ns → ns'.Pairwise (· ≤ ·) → H l = none → Q (.ref l) (upd H l (.lst (ns'.map V.int)))) : rSortLT K [.ref p] H Q := ⟨p, ns, rfl, h, q⟩
end ST
namespace ZT
open PySem PySem.Spec PyProof.Rows L2 ZV
/-! ### zip(x, y), each a list (t = false) or a tuple (t = true) -/
def Sq (K : PySem.W.Frag) (t : Bool) (H : Hp) (a : Addr) (xs : List V) : Prop := if t = true then SqT K H a xs else SqL K H a xs
def ItX (t : Bool) (h : Heap) (i a : Addr) (n : Nat) : Prop := if t = true then h.IsTupleIter i a n else h.IsListIter i a n
def IsX (t : Bool) (h : Heap) (a : Addr) (its : Array Value) : Prop := if t = true then h.IsTuple a its else h.IsList a its
theorem itx_obj {t : Bool} {h : Heap} {i a : Addr} {n : Nat} (q : ItX t h i a n) : ∃ o, h.get? i = some o ∧ ∀ v, o.data ≠ .cell v := by
  unfold ItX at q
  cases t with
  | true => rw [if_pos rfl] at q; obtain ⟨o, e, _, d⟩ := q; exact ⟨o, e, fun v z => by rw [d] at z; cases z⟩
  | false => rw [if_neg Bool.false_ne_true] at q; obtain ⟨o, e, _, d⟩ := q; exact ⟨o, e, fun v z => by rw [d] at z; cases z⟩
theorem itx_at {t : Bool} {h h' : Heap} {i a : Addr} {n : Nat} (q : ItX t h i a n) (k : ∀ o, h.get? i = some o → h'.get? i = some o) : ItX t h' i a n := by
  unfold ItX at *
  cases t with
  | true => rw [if_pos rfl] at *; exact q.at k
  | false => rw [if_neg Bool.false_ne_true] at *; exact q.at k
theorem sq_inv {X : Cx} {pins : List (Addr × Obj)} {σ : L2.St} {H : Hp} {s : Shared} {t : Bool} {a : Addr} {xs : List V} (I : Inv X pins σ H s) (q : Sq X.K t H a xs) : ∃ its : List Value, Vals xs its ∧ IsX t s.heap a its.toArray ∧ a < s.heap.objs.size := by
  cases t with
  | true =>
    obtain ⟨its, rv, p, _⟩ := I.tuple (show SqT X.K H a xs from q)
    obtain ⟨o, e, _⟩ := (show s.heap.IsTuple a its.toArray from p)
    exact ⟨its, rv, p, Heap.lt_size e⟩
  | false =>
    obtain ⟨its, rv, p, _⟩ := I.list (show SqL X.K H a xs from q)
    exact ⟨its, rv, p.isList, p.lt⟩
theorem sq_inj {X : Cx} {pins : List (Addr × Obj)} {σ : L2.St} {H : Hp} {s : Shared} {t : Bool} {a : Addr} {xs ys : List V} (I : Inv X pins σ H s) (q : Sq X.K t H a xs) (q2 : Sq X.K t H a ys) : xs = ys := by
  unfold Sq at q q2
  cases t with
  | true => rw [if_pos rfl] at q q2; exact I.tuple_inj q q2
  | false => rw [if_neg Bool.false_ne_true] at q q2; exact I.list_inj q q2
theorem drawsX {prog : Program} {w : World} {A : Around} (hh : A.handled = none) (t : Bool) (it a : Addr) (hne : a ≠ it) (items : Array Value) :
    Draws prog w A it [it, a] items.size (fun i v => items[i]? = some v) (fun i h => ItX t h it a i ∧ IsX t h a items) := by
  unfold ItX IsX
  cases t with
  | true => exact Draws.tuple hh it a hne items
  | false => exact Draws.list hh it a hne items
def obX (t : Bool) (a : Addr) : Obj := if t = true then { cls := .type "tuple_iterator", data := .fields #[.ref a, .int 0 0] } else { cls := .type "list_iterator", data := .fields #[.ref a, .int 0 0] }
theorem beginsX (t : Bool) (a : Addr) (its : Array Value) : Begins (.ref a) (obX t a) (fun h => IsX t h a its) := by
  unfold obX IsX
  cases t with
  | true => exact begins_tuple a its
  | false => exact begins_list a its
theorem itx_new {t : Bool} {h : Heap} {i a : Addr} (e : h.get? i = some (obX t a)) : ItX t h i a 0 := by
  unfold obX at e
  unfold ItX
  cases t with
  | true => exact ⟨_, e, rfl, rfl⟩
  | false => exact ⟨_, e, rfl, rfl⟩
def ItZ (K : PySem.W.Frag) (t1 t2 : Bool) (a b : Addr) : It :=
  ⟨fun i H => ∃ (xs ys : List V), Sq K t1 H a xs ∧ Sq K t2 H b ys ∧ i < xs.length ∧ i < ys.length,
    fun i H v H' => ∃ T x y, v = .ref T ∧ H T = none ∧ H' = upd H T (.tup [x, y]) ∧ (∀ xs, Sq K t1 H a xs → xs[i]? = some x) ∧ ∀ ys, Sq K t2 H b ys → ys[i]? = some y,
    fun i H => ∃ xs ys : List V, Sq K t1 H a xs ∧ Sq K t2 H b ys ∧ i ≤ xs.length ∧ i ≤ ys.length ∧ (i = xs.length ∨ i = ys.length)⟩
theorem turn_zipX {P : Program} {w : World} {K : PySem.W.Frag} {elts : List Expr} {kk : Nat} {tpos : Pos} {t1 t2 : Bool} {a b z TI TO i1 i2 : Addr} (S : ZipSep2 z TI TO i1 i2 [i1, a] [i2, b]) (n1 : a ≠ i1) (n2 : b ≠ i2) :
    Turn P w K (.Tuple elts kk tpos) (ItZ K t1 t2 a b) [z, TI, TO, i1, i2] z (fun i h => IsZip h z TI TO .none ∧ IsTupOf2 h TI (.ref i1) (.ref i2) ∧ (∃ x y, IsTupOf2 h TO x y) ∧ ItX t1 h i1 a i ∧ ItX t2 h i2 b i) where
  mem := by simp
  obj := fun i h st c hc => by
    obtain ⟨hz, hTI, ⟨x, y, hTO⟩, h1, h2⟩ := st
    have e' : c = z ∨ c = TI ∨ c = TO ∨ c = i1 ∨ c = i2 := by simpa using hc
    rcases e' with q | q | q | q | q
    · rw [q]; exact ⟨_, hz, fun v q => nomatch q⟩
    · rw [q]; exact ⟨_, hTI, fun v q => nomatch q⟩
    · rw [q]; exact ⟨_, hTO, fun v q => nomatch q⟩
    · rw [q]; exact itx_obj h1
    · rw [q]; exact itx_obj h2
  keep := fun i h h' st k => by
    obtain ⟨hz, hTI, ⟨x, y, hTO⟩, h1, h2⟩ := st
    exact ⟨k z (by simp) _ hz, k TI (by simp) _ hTI, ⟨x, y, k TO (by simp) _ hTO⟩, itx_at h1 fun o q => k i1 (by simp) o q, itx_at h2 fun o q => k i2 (by simp) o q⟩
  item := by
    intro X hP hw hK hc i pins s σ H E I hf st hg
    subst hP hw hK
    obtain ⟨hz, hTI, ⟨x0, y0, hTO⟩, h1, h2⟩ := st
    obtain ⟨xs, ys, hqx, hqy, hi, hiy⟩ := hg
    obtain ⟨its1, rv1, p1, _⟩ := sq_inv I hqx
    obtain ⟨its2, rv2, p2, _⟩ := sq_inv I hqy
    have hl1 := rv1.length
    have hl2 := rv2.length
    have hh : X.A.in1.handled = none := I.ok.hd hc
    have hx : xs[i]? = some xs[i] := List.getElem?_eq_getElem hi
    have hy : ys[i]? = some ys[i] := List.getElem?_eq_getElem hiy
    obtain ⟨u1, hu1, ru1⟩ := rv1.get hx
    obtain ⟨u2, hu2, ru2⟩ := rv2.get hy
    have hzl : z < s.heap.objs.size := Heap.lt_size hz
    refine wpAny_pyNext_zipD2_item (A := X.A) S (drawsX (A := X.A.in1) hh t1 i1 a n1 its1.toArray) (drawsX (A := X.A.in1) hh t2 i2 b n2 its2.toArray) hz hTI hTO ⟨h1, p1⟩ ⟨h2, p2⟩ (by simp; omega) (by simp; omega) fun v v2 h' tk ev ev2 z' TO' st1' st2' hT hsz' hk => ?_
    obtain rfl : v = u1 := by
      have e : its1.toArray[i]? = some u1 := by simpa using hu1
      rw [e] at ev; cases ev; rfl
    obtain rfl : v2 = u2 := by
      have e : its2.toArray[i]? = some u2 := by simpa using hu2
      rw [e] at ev2; cases ev2; rfl
    refine ⟨_, rfl, wpAny_letOwnedTupleGo_zip (s := { s with heap := h', toks := tk }) z' fun h'' z'' sb => ?_⟩
    have hT2 : h''.get? s.heap.objs.size = some { cls := .type "tuple", data := .seq #[v, v2] } := (sb.2 _ (Nat.ne_of_gt hzl)).trans hT
    have new : ObjOk X.prog X.w (upd H s.heap.objs.size (.tup [xs[i], ys[i]])) h'' s.heap.objs.size (.tup [xs[i], ys[i]]) :=
      ⟨by show 2 ≤ sizeLine; decide, [v, v2], .cons ru1 (.cons ru2 .nil), ⟨_, hT2, rfl, _, rfl⟩⟩
    have I1 : Inv X pins σ (upd H s.heap.objs.size (.tup [xs[i], ys[i]])) { s with heap := h'', toks := tk } :=
      I.turnedNew (t' := tk) (ch := [z, TI, TO, i1, i2]) (fun c o hb q => (sb.2 c (fun q' => hb (by simp [q']))).trans (hk c o (fun q' => hb (by simp [q'])) (fun q' => hb (by simp [q'])) (fun q' => hb (by simp [q'])) (fun q' => hb (by simp [q'])) q)) hf (Nat.le_refl _) new
    refine ⟨.ref s.heap.objs.size, _, I1, rfl, ⟨_, _, _, rfl, I.hok.fresh (Nat.le_refl _), rfl, fun l hl => by rw [sq_inj I hl hqx]; exact hx, fun l hl => by rw [sq_inj I hl hqy]; exact hy⟩, ⟨z'', (sb.2 _ S.TIz).trans (hk _ _ S.TIz S.TITO S.TIi1 S.TIi2 hTI), ⟨v, v2, (sb.2 _ S.TOz).trans TO'⟩, itx_at st1'.1 fun o q => (sb.2 i1 S.zi1.symm).trans q, itx_at st2'.1 fun o q => (sb.2 i2 S.zi2.symm).trans q⟩, fun c hcm => ?_⟩
    have hlt : c < s.heap.objs.size := by
      have e' : c = z ∨ c = TI ∨ c = TO ∨ c = i1 ∨ c = i2 := by simpa using hcm
      rcases e' with q | q | q | q | q
      · rw [q]; exact hzl
      · rw [q]; exact Heap.lt_size hTI
      · rw [q]; exact Heap.lt_size hTO
      · rw [q]; obtain ⟨_, e1, _⟩ := itx_obj h1; exact Heap.lt_size e1
      · rw [q]; obtain ⟨_, e2, _⟩ := itx_obj h2; exact Heap.lt_size e2
    rw [upd_ne (Nat.ne_of_lt hlt)]
    exact (hf c hcm).1
  done := by
    intro X hP hw hK hc i pins s σ H E I hf st hg
    subst hP hw hK
    obtain ⟨hz, hTI, ⟨x0, y0, hTO⟩, h1, h2⟩ := st
    obtain ⟨xs, ys, hqx, hqy, hi, hiy, hend⟩ := hg
    obtain ⟨its1, rv1, p1, _⟩ := sq_inv I hqx
    obtain ⟨its2, rv2, p2, _⟩ := sq_inv I hqy
    have hl1 := rv1.length
    have hl2 := rv2.length
    have hh : X.A.in1.handled = none := I.ok.hd hc
    have z1 : its1.toArray.size = its1.length := by simp
    have z2 : its2.toArray.size = its2.length := by simp
    exact wpAny_pyNext_zipD2_end (A := X.A) S (drawsX (A := X.A.in1) hh t1 i1 a n1 its1.toArray) (drawsX (A := X.A.in1) hh t2 i2 b n2 its2.toArray) hz hTI hTO ⟨h1, p1⟩ ⟨h2, p2⟩ (by omega) (by omega) (by omega) fun h' tk hk => ⟨rfl, I.turnedL (t' := tk) (ch := [z, TI, TO, i1, i2]) (fun c o hb q =>
      hk c o (fun q' => hb (by simp [q'])) (fun q' => hb (by simp [q'])) (fun q' => hb (by simp [q'])) (fun q' => hb (by simp [q'])) q) hf⟩
  self := fun A i s Q E st h => wpAny_pyIter_zip st.1 h
def iZipX (K : PySem.W.Frag) (ta : TA) : TI := fun σ H R => ta σ H fun vs H1 => ∃ a b t1 t2 xs ys, vs = [.ref a, .ref b] ∧ Sq K t1 H1 a xs ∧ Sq K t2 H1 b ys ∧ R (ItZ K t1 t2 a b) H1
theorem pi_zipX {X : Cx} {K : PySem.W.Frag} {e1 e2 : Expr} {ta : TA} {p pos tpos : Pos} {elts : List Expr} {kk : Nat} (hK : X.K = K) (hg : Gl X "zip") (hm : X.mg "zip" = none) (ha : PA X [e1, e2] ta)
    (hs : starEach [e1, e2] X.env = (false, eval e1 X.env) :: starEach [e2] X.env := by rfl) (hpl : (backTo pos (starEach [e2] X.env)).any (·.1) = false := by rfl) :
    PI X (.Tuple elts kk tpos) (.Call (.Name "zip" p) [e1, e2] [] pos) (iZipX K ta) := by
  subst hK
  refine ⟨fun pins s σ H R I h => ?_⟩
  refine Call_ (ld_blt I hg hm PyProof.Rows.boot_zip (PyProof.Rows.callWith_type1 (thn (ha.run pos pins s σ H _ I h) fun us s2 hh => ?_) hs hpl))
  obtain ⟨vs, H2, I2, r2, a, b, t1, t2, xs, ys, ev, hqx, hqy, qR⟩ := hh
  subst ev
  obtain ⟨u1, u2, rfl, ru1, ru2⟩ := vals2 r2
  cases (show u1 = Value.ref a from ru1)
  cases (show u2 = Value.ref b from ru2)
  obtain ⟨its1, rv1, p1, la⟩ := sq_inv I2 hqx
  obtain ⟨its2, rv2, p2, lb⟩ := sq_inv I2 hqy
  refine zip_begins2 (beginsX t1 a its1.toArray) (beginsX t2 b its2.toArray) p1 p2 fun h' hz hTI hTO g1 g2 hsz' hk => wpAny_pyIter_zip hz ?_
  refine ⟨s2.heap.objs.size + 4, [s2.heap.objs.size + 4, s2.heap.objs.size + 2, s2.heap.objs.size + 3, s2.heap.objs.size, s2.heap.objs.size + 1], _, _, H2, rfl, I2.kept (t' := s2.toks) hk, turn_zipX (sep5 la lb) (Nat.ne_of_lt la) (Nat.ne_of_lt (Nat.lt_succ_of_lt lb)), ⟨hz, hTI, ⟨_, _, hTO⟩, itx_new g1, itx_new g2⟩, fun c hcm => ?_, qR⟩
  have e' : c = s2.heap.objs.size + 4 ∨ c = s2.heap.objs.size + 2 ∨ c = s2.heap.objs.size + 3 ∨ c = s2.heap.objs.size ∨ c = s2.heap.objs.size + 1 := by simpa using hcm
  have hle : s2.heap.objs.size ≤ c := by
    rcases e' with z | z | z | z | z
    · rw [z]; exact Nat.le_add_right _ _
    · rw [z]; exact Nat.le_add_right _ _
    · rw [z]; exact Nat.le_add_right _ _
    · rw [z]; exact Nat.le_refl _
    · rw [z]; exact Nat.le_add_right _ _
  exact I2.fpOk hle (I2.hok.fresh hle)
theorem walk_zipX {K : PySem.W.Frag} {t1 t2 : Bool} {a b : Addr} {xs ys : List V} : Walk (ItZ K t1 t2 a b) (min xs.length ys.length) (fun H => Sq K t1 H a xs ∧ Sq K t2 H b ys) (YPair (fun i => xs[i]?) (fun i => ys[i]?)) :=
  ⟨fun i H hi q => ⟨xs, ys, q.1, q.2, by omega, by omega⟩, fun H q => ⟨xs, ys, q.1, q.2, by omega, by omega, by omega⟩, fun i H x H' hi q ⟨T, x1, y1, h1, h2, h3, h4, h5⟩ => ⟨T, x1, y1, h1, h2, h3, h4 xs q.1, h5 ys q.2⟩⟩
theorem sq_l {K : PySem.W.Frag} {H : Hp} {a : Addr} {xs : List V} (h : SqL K H a xs) : Sq K false H a xs := h
theorem sq_t {K : PySem.W.Frag} {H : Hp} {a : Addr} {xs : List V} (h : SqT K H a xs) : Sq K true H a xs := h
theorem g_iZipX {K : PySem.W.Frag} {σ : L2.St} {H : Hp} {ta : TA} {R : It → Hp → Prop} (q : ta σ H fun vs H1 => ∃ a b t1 t2 xs ys, vs = [.ref a, .ref b] ∧ Sq K t1 H1 a xs ∧ Sq K t2 H1 b ys ∧ R (ItZ K t1 t2 a b) H1) : iZipX K ta σ H R := q
/-- a comprehension over both -/
theorem lcI_zipX {K : PySem.W.Frag} {σ : L2.St} {H : Hp} {Q : VK} {g : TG} {tt : TT} {te : TE} {vs : List Nat} {t1 t2 : Bool} {a b : Addr} {xs ys : List V} (h1 : ∀ H', Same H H' → Sq K t1 H' a xs) (h2 : ∀ H', Same H H' → Sq K t2 H' b ys) (hn : xs.length ≤ 1000000) (f : Nat → Option V)
    (turn : ∀ i x y T H' (A : VK) (B : Hp → Prop), xs[i]? = some x → ys[i]? = some y → Same H H' → H' T = some (.tup [x, y]) → (∀ v H4, f i = some v → Same H' H4 → A v H4) → (f i = none → ∀ H3, Same H' H3 → B H3) →
      g (.ref T) (wipe σ vs) H' fun σ2 H2 => wipe σ2 vs = wipe σ vs ∧ tt σ2 H2 fun b H3 => if b = true then te σ2 H3 A else B H3)
    (k : ∀ E H', H E = none → Same H H' → H' E = some (.lst ((List.range (min xs.length ys.length)).filterMap f)) → Q (.ref E) H') : U.lcI σ vs g tt te Q (ItZ K t1 t2 a b) H := by
  refine U.lcI_same walk_zipX (by omega) f (fun H' s => ⟨h1 H' s, h2 H' s⟩) (fun i H' x H'' y => ?_) (fun i x H' H'' A B hi s y kA kB => ?_) k
  · obtain ⟨T, x1, y1, _, nT, rfl, _⟩ := y
    exact U.same_new nT
  · obtain ⟨T, x1, y1, rfl, nT, rfl, e1, e2⟩ := y
    exact turn i x1 y1 T _ A B e1 e2 (s.trans (U.same_new nT)) upd_same kA kB
end ZT
namespace LM
open PySem PySem.Spec PyProof.Rows L2 U M
/-! ### what is shown of whole numbers, and of tuples of them -/
theorem sh_len {i : Int} (h0 : -10000000000 ≤ i) (h1 : i ≤ 10000000000) : (PyData.shown (.int i)).length ≤ 13 := by
  have e := int_text_length_le10 (a := i) (k := 11) (by decide) (by omega)
  show (Str.ofString (toString i)).length ≤ 13
  rw [PySem.ofString_length]
  omega
theorem sh_log {i : Int} (h0 : -10000000000 ≤ i) (h1 : i ≤ 10000000000) : i.natAbs.log2 < 34 := by
  by_cases z : i.natAbs = 0
  · rw [z]; decide
  · exact (Nat.log2_lt z).2 (show i.natAbs < 2 ^ 34 by omega)
theorem rep_I {K : PySem.W.Frag} {H : Hp} {i : Int} {Q : VK} (h0 : -10000000000 ≤ i) (h1 : i ≤ 10000000000) (q : Q (.str (PyData.int i).shown) H) : QD.rRep K [.int i] H Q :=
  ⟨_, _, rfl, .dp (.int i), decide_eq_true (Nat.lt_trans (sh_log h0 h1) (by decide)), Nat.zero_le _, Nat.le_trans (sh_len h0 h1) (by decide), q⟩
theorem rep_B {K : PySem.W.Frag} {H : Hp} {b : Bool} {Q : VK} (q : Q (.str (PyData.bool b).shown) H) : QD.rRep K [.bl b] H Q := ⟨_, _, rfl, .dp (.bl b), rfl, Nat.zero_le _, by cases b <;> decide +kernel, q⟩
theorem ints_dp0 {K : PySem.W.Frag} {H : Hp} : ∀ ns : List Int, DpAll K H (ns.map V.int) (ns.map PyData.int)
  | [] => .nil
  | n :: r => .cons (.int n) (ints_dp0 r)
def inB (ns : List Int) : Prop := ∀ n ∈ ns, -1000000 ≤ n ∧ n ≤ 1000000
theorem ints_sh (ns : List Int) : SeqAt.shaped (.list (ns.map PyData.int)) = true := by
  unfold SeqAt.shaped
  rw [Bool.and_eq_true]
  refine ⟨lay_all fun d hd => ?_, decide_eq_true ?_⟩
  · obtain ⟨p, hp, rfl⟩ := List.mem_map.mp hd
    rfl
  · have := MD.depth_ints ns
    simp only [PyData.depth]
    omega
theorem tupI_lay : ∀ ns : List Int, PyData.canLayAll0 (ns.map PyData.int) = true
  | [] => rfl
  | a :: r => by
    show (true && PyData.canLayAll0 (r.map PyData.int)) = true
    rw [tupI_lay r]; rfl
theorem tupI_short : ∀ {ns : List Int}, (∀ n ∈ ns, -10000000000 ≤ n ∧ n ≤ 10000000000) → PyData.intsShortAll 13 (ns.map PyData.int) = true
  | [], _ => rfl
  | a :: r, h => by
    obtain ⟨h0, h1⟩ := h a List.mem_cons_self
    show (decide ((PyData.shown (.int a)).length ≤ 13) && PyData.intsShortAll 13 (r.map PyData.int)) = true
    rw [decide_eq_true (sh_len h0 h1), tupI_short fun n hn => h n (List.mem_cons_of_mem _ hn)]; rfl
theorem tupI_show : ∀ {ns : List Int}, (∀ n ∈ ns, -10000000000 ≤ n ∧ n ≤ 10000000000) → PyData.showableAll (ns.map PyData.int) = true
  | [], _ => rfl
  | a :: r, h => by
    obtain ⟨h0, h1⟩ := h a List.mem_cons_self
    show (decide (a.natAbs.log2 < 1920) && PyData.showableAll (r.map PyData.int)) = true
    rw [decide_eq_true (Nat.lt_trans (sh_log h0 h1) (by decide)), tupI_show fun n hn => h n (List.mem_cons_of_mem _ hn)]; rfl
theorem tupI_weight : ∀ {ns : List Int}, (∀ n ∈ ns, -10000000000 ≤ n ∧ n ≤ 10000000000) → PyData.weightAll (ns.map PyData.int) ≤ 36 * ns.length
  | [], _ => Nat.le_refl _
  | a :: r, h => by
    obtain ⟨h0, h1⟩ := h a List.mem_cons_self
    have ih := tupI_weight (ns := r) fun n hn => h n (List.mem_cons_of_mem _ hn)
    have l := sh_log h0 h1
    show (if a == 0 then 0 else a.natAbs.log2 + 1) + 1 + PyData.weightAll (r.map PyData.int) ≤ _
    rw [List.length_cons]
    split <;> omega
theorem tupI_depth (ns : List Int) : PyData.depth (PyData.tuple (ns.map PyData.int)) ≤ 2 := by
  have := MD.depth_ints ns
  simp only [PyData.depth]
  omega
theorem rep_tupI {K : PySem.W.Frag} {H : Hp} {a : Addr} {ns : List Int} {Q : VK} (h : ∀ n ∈ ns, -10000000000 ≤ n ∧ n ≤ 10000000000) (hl : ns.length ≤ 1000) (ha : SqT K H a (ns.map V.int)) (q : Q (.str (PyData.tuple (ns.map PyData.int)).shown) H) : QD.rRep K [.ref a] H Q := by
  have w : PyData.weight (PyData.tuple (ns.map PyData.int)) ≤ 36 * ns.length := tupI_weight h
  have lay : PyData.layable0 (PyData.tuple (ns.map PyData.int)) = true := by
    show (PyData.canLay0 (PyData.tuple (ns.map PyData.int)) && decide _ && decide _) = true
    rw [show PyData.canLay0 (PyData.tuple (ns.map PyData.int)) = true from tupI_lay ns, decide_eq_true (Nat.le_trans (tupI_depth ns) (by decide)), decide_eq_true (show PyData.weight (PyData.tuple (ns.map PyData.int)) ≤ 2 ^ 20 by omega)]
    rfl
  exact ⟨_, _, rfl, .dp (.tup ha (ints_dp0 ns)), tupI_show h, Nat.le_trans (tupI_depth ns) (by decide), Nat.le_trans (shown_le13 lay (tupI_short h)) (by decide), q⟩
theorem ite_no {b : Bool} {A B : Prop} (h : b = false) (q : B) : if b = true then A else B := by rw [h, if_neg Bool.false_ne_true]; exact q
theorem ne_refl (x : V) : (if (true : Bool) = true then !decide (x = x) else decide (x = x)) = false := by rw [if_pos rfl, decide_eq_true rfl]; rfl
/-! ### how great losses are -/
theorem sg_bd {f : Nat → Int} {B : Int} : ∀ {e : Nat}, (∀ i, i < e → f i ≤ B) → sg f 0 e ≤ B * (e : Int)
  | 0, _ => by rw [sg_self]; simp
  | e + 1, h => by
    have ih := sg_bd (f := f) (B := B) (e := e) fun i hi => h i (by omega)
    have := h e (by omega)
    rw [sg_succ, show ((e + 1 : Nat) : Int) = (e : Int) + 1 by omega, Int.mul_add, Int.mul_one]
    omega
theorem row_bd {row : List Int} (h : ∀ n ∈ row, -1000000 ≤ n ∧ n ≤ 1000000) (i : Nat) : -1000000 ≤ rowF row i ∧ rowF row i ≤ 1000000 := by
  unfold rowF
  by_cases q : i < row.length
  · rw [List.getElem?_eq_getElem q]
    exact h _ (List.getElem_mem q)
  · rw [List.getElem?_eq_none (by omega)]
    decide
theorem cs_bd {row : List Int} (h : ∀ n ∈ row, -1000000 ≤ n ∧ n ≤ 1000000) (e : Nat) : cs (rowF row) 0 e ≤ 2000000 * (e : Int) := by
  unfold cs lossAt
  refine sg_bd fun i _ => ?_
  have h1 := row_bd h i
  have h2 := row_bd h ((0 + e) / 2)
  unfold ab
  split <;> omega
theorem F_bd2 {c : Nat → Nat → Int} {s : Nat} (hs : 1 ≤ s) {e : Nat} {v B : Int} (hb : c 0 e ≤ B) (hB : 0 ≤ B) (h : F c s e = some v) : v ≤ B := by
  by_cases h0 : e = 0
  · subst h0
    cases h
    exact hB
  · obtain ⟨b, u, h1, _⟩ := F_mem hs (by omega) h
    obtain ⟨w, h3, h4⟩ := F_le (c := c) hs (b := 0) (e := e) (by omega) (F_zero c s)
    rw [h] at h3
    cases h3
    omega
theorem F_bds {row : List Int} (h : ∀ n ∈ row, -1000000 ≤ n ∧ n ≤ 1000000) {s : Nat} (hs : 1 ≤ s) {e : Nat} (he : e ≤ 1000) {v : Int} (hv : F (cs (rowF row)) s e = some v) : 0 ≤ v ∧ v ≤ 2000000000 := by
  refine ⟨F_pos hs (fun b e h => cs_nonneg _ h) e hv, ?_⟩
  have := cs_bd h e
  exact F_bd2 hs (by omega) (by decide) hv
theorem due_bd {row : List Int} (h : ∀ n ∈ row, -1000000 ≤ n ∧ n ≤ 1000000) (hl : row.length ≤ 1000) : ∀ d ∈ dueL row, 0 ≤ d ∧ d ≤ 2000000000 := fun d hd => by
  obtain ⟨i, hi, rfl⟩ := List.mem_map.mp hd
  rw [List.mem_range] at hi
  exact F_bds h (s := i + 1) (by omega) hl (due_at hi)
theorem due_up (row : List Int) : (dueL row).Pairwise (· ≤ ·) := by
  rw [List.pairwise_iff_getElem]
  intro i j hi hj hij
  have l : (dueL row).length = row.length := by unfold dueL; rw [List.length_map, List.length_range]
  have key : ∀ k m, i + 1 ≤ k → k ≤ m → m ≤ row.length → ∀ v, F (cs (rowF row)) m row.length = some v → ∃ w, F (cs (rowF row)) k row.length = some w ∧ w ≤ v := by
    intro k m h1 h2 h3
    induction m with
    | zero => omega
    | succ m ih =>
      intro v hv
      by_cases e : k = m + 1
      · subst e; exact ⟨v, hv, Int.le_refl _⟩
      · obtain ⟨w, hw, hle⟩ := F_mono (by omega) row.length hv
        obtain ⟨x, hx, hxe⟩ := ih (by omega) (by omega) w hw
        exact ⟨x, hx, by omega⟩
  obtain ⟨w, hw, hle⟩ := key (i + 1) (j + 1) (by omega) (by omega) (by omega) _ (due_at (row := row) (i := j) (by omega))
  have at_ : ∀ {k : Nat}, k < row.length → (dueL row)[k]? = some ((F (cs (rowF row)) (k + 1) row.length).getD 0) := fun h => by
    unfold dueL
    rw [List.getElem?_map, List.getElem?_range h]; rfl
  have e1 : (dueL row)[i] = (F (cs (rowF row)) (i + 1) row.length).getD 0 := by
    have := at_ (k := i) (by omega)
    rw [List.getElem?_eq_getElem hi] at this
    exact Option.some.inj this
  have e2 : (dueL row)[j] = (F (cs (rowF row)) (j + 1) row.length).getD 0 := by
    have := at_ (k := j) (by omega)
    rw [List.getElem?_eq_getElem hj] at this
    exact Option.some.inj this
  rw [e1, e2, hw]
  exact hle
theorem W_bd {row : List Int} {s n : Nat} (hs : 1 ≤ s) (hn : n ≤ 20) : 0 ≤ W (cs (rowF row)) s n ∧ W (cs (rowF row)) s n ≤ 10000000 := by
  obtain ⟨v, h1, h2, h3⟩ := wtab_bd (cs (rowF row)) hs n n (Nat.le_refl _)
  unfold W
  rw [h1]
  refine ⟨h2, Int.le_trans h3 ?_⟩
  have : (2 : Int) ^ n ≤ 2 ^ 20 := by
    have := Nat.pow_le_pow_right (n := 2) (by decide) hn
    exact_mod_cast this
  exact Int.le_trans this (by decide)
end LM
namespace U
open PySem PySem.Spec PyProof.Rows L2
/-! ### slices and sums of tuples, whole or empty ones too -/
def uSlA (K : PySem.W.Frag) : V → Option Int → Option Int → Hp → VK → Prop := fun x lo hi H Q => match x with
  | .ref a => (∃ xs, SqL K H a xs ∧ ∀ p, H p = none → Q (.ref p) (upd H p (.lst (cutV xs lo hi)))) ∨ rSlA K (.ref a) lo hi H Q
  | .str z => z.length ≤ sizeLine ∧ Q (.str (cutS z lo hi)) H
  | _ => False
theorem sl_uA {X : Cx} {K : PySem.W.Frag} (hK : X.K = K) : SlR X (uSlA K) := by
  subst hK
  intro pins s σ H x v vl vu lo hi sl Q I rx hs pl pu h
  cases x <;> first | exact False.elim h | skip
  case ref a =>
    rcases h with ⟨xs, h1, h2⟩ | h
    · exact sl_list pins s σ H _ v vl vu lo hi sl Q I rx hs pl pu ⟨a, xs, rfl, h1, h2⟩
    · exact sl_tupA pins s σ H _ v vl vu lo hi sl Q I rx hs pl pu h
  case str z => exact sl_str pins s σ H _ v vl vu lo hi sl Q I rx hs pl pu ⟨z, rfl, h.1, h.2⟩
theorem sIx_ge {n : Nat} (d : Nat) (o : Option Int) (h : d ≤ n) : HT.sIx n d o ≤ n := HT.sIx_le n d h o
theorem g_slT {K : PySem.W.Frag} {H : Hp} {Q : VK} {a : Addr} {xs : List V} {lo hi : Option Int} (h : ∀ H', Same H H' → SqT K H' a xs)
    (q : ∀ (p : Addr) (H' : Hp), Same H H' → (∀ H'', Same H' H'' → SqT K H'' p (cutV xs lo hi)) → Q (.ref p) H') : uSlA K (.ref a) lo hi H Q := by
  refine Or.inr ⟨a, xs, rfl, h H (Same.refl H), fun w => ?_, fun _ p np => ?_⟩
  · refine q a H (Same.refl H) fun H'' s => ?_
    have e : cutV xs lo hi = xs := by
      unfold cutV
      rw [w.1, w.2, List.drop_zero, List.take_of_length_le (by omega)]
    rw [e]
    exact h H'' s
  · exact q p _ (same_new np) fun H'' s => SqT.of (s _ _ upd_same)
theorem g_slLA {K : PySem.W.Frag} {H : Hp} {Q : VK} {a : Addr} {xs : List V} {lo hi : Option Int} (h : SqL K H a xs) (q : ∀ p, H p = none → Q (.ref p) (upd H p (.lst (cutV xs lo hi)))) : uSlA K (.ref a) lo hi H Q := Or.inl ⟨xs, h, q⟩
theorem cut_one {xs : List V} : cutV xs (some 1) none = xs.drop 1 := by
  cases xs with
  | nil => rfl
  | cons z r => exact cut_from (b := 1) (by rw [List.length_cons]; omega)
/-- x + y, tuples of any length -/
def uAddA (K : PySem.W.Frag) : R2 := fun x y H Q => uAdd K x y H Q ∨ rCatA K x y H Q
theorem op_uAddA {X : Cx} {K : PySem.W.Frag} (hK : X.K = K) : OpR X (binaryOp .Add) (uAddA K) := by
  subst hK
  exact OpR.or op_uAdd0 op_catA
theorem g_catT {K : PySem.W.Frag} {H : Hp} {Q : VK} {a b : Addr} {xs ys : List V} (ha : ∀ H', Same H H' → SqT K H' a xs) (hb : ∀ H', Same H H' → SqT K H' b ys) (hl : xs.length + ys.length ≤ 1000000)
    (q : ∀ (p : Addr) (H' : Hp), Same H H' → (∀ H'', Same H' H'' → SqT K H'' p (xs ++ ys)) → Q (.ref p) H') : uAddA K (.ref a) (.ref b) H Q := by
  refine Or.inr ⟨a, b, xs, ys, rfl, rfl, ha H (Same.refl H), hb H (Same.refl H), Nat.le_trans hl (by decide), fun e => ?_, fun _ e => ?_, fun _ _ p np => ?_⟩
  · exact q b H (Same.refl H) fun H'' s => by rw [e, List.nil_append]; exact hb H'' s
  · exact q a H (Same.refl H) fun H'' s => by rw [e, List.append_nil]; exact ha H'' s
  · exact q p _ (same_new np) fun H'' s => SqT.of (s _ _ upd_same)
theorem g_catH {K : PySem.W.Frag} {H : Hp} {Q : VK} {a b : Addr} {xs ys : List V} (ha : H a = some (.tup xs)) (hb : H b = some (.tup ys)) (hl : xs.length + ys.length ≤ 1000000)
    (q : ∀ (p : Addr) (H' : Hp), Same H H' → H' p = some (.tup (xs ++ ys)) → Q (.ref p) H') : uAddA K (.ref a) (.ref b) H Q := by
  refine Or.inr ⟨a, b, xs, ys, rfl, rfl, SqT.of ha, SqT.of hb, Nat.le_trans hl (by decide), fun e => ?_, fun _ e => ?_, fun _ _ p np => ?_⟩
  · exact q b H (Same.refl H) (by rw [e, List.nil_append]; exact hb)
  · exact q a H (Same.refl H) (by rw [e, List.append_nil]; exact ha)
  · exact q p _ (same_new np) upd_same
end U
namespace LM
open PySem L2 U M
/-! ### lots: ascending tuples of places -/
theorem plain_tup {K : PySem.W.Frag} {H : Hp} {v : V} (h : plainV v = true) : ∃ (t : String), TyX K H v (.type t) ∧ kitB t "tuple" = some false := by
  cases v with
  | non => exact ⟨"NoneType", U.ty_non, by decide +kernel⟩
  | bl b => exact ⟨"bool", U.ty_bl, by decide +kernel⟩
  | int z => exact ⟨"int", U.ty_int, by decide +kernel⟩
  | str s => exact ⟨"str", U.ty_str, by decide +kernel⟩
  | _ => cases h
def iOf : V → Int
  | .int z => z
  | _ => 0
/-- an int below m, from 0 on -/
def numB (m : Int) (v : V) : Bool := match v with
  | .int z => decide (0 ≤ z) && decide (z < m)
  | _ => false
/-- each less than the next one -/
def adj : List Int → Bool
  | a :: b :: r => decide (a < b) && adj (b :: r)
  | _ => true
theorem adj_pw : ∀ {ns : List Int}, adj ns = true ↔ ns.Pairwise (· < ·)
  | [] => ⟨fun _ => .nil, fun _ => rfl⟩
  | [a] => ⟨fun _ => List.pairwise_singleton _ _, fun _ => rfl⟩
  | a :: b :: r => by
    have ih := adj_pw (ns := b :: r)
    show (decide (a < b) && adj (b :: r)) = true ↔ _
    rw [Bool.and_eq_true, decide_eq_true_eq, ih, List.pairwise_cons (a := a)]
    constructor
    · rintro ⟨h1, h2⟩
      refine ⟨fun x hx => ?_, h2⟩
      rcases List.mem_cons.mp hx with rfl | hx
      · exact h1
      · have := (List.pairwise_cons.mp h2).1 x hx; omega
    · rintro ⟨h1, h2⟩
      exact ⟨h1 b List.mem_cons_self, h2⟩
theorem adj_all (ns : List Int) : ((List.range (min ns.length (ns.length - 1))).filterMap fun i => (ns[i]?).bind fun a => (ns[i + 1]?).bind fun b => some (decide (a < b))).all id = adj ns := by
  induction ns with
  | nil => rfl
  | cons a r ih =>
    cases r with
    | nil => rfl
    | cons b r =>
      have e : min (a :: b :: r).length ((a :: b :: r).length - 1) = (min (b :: r).length ((b :: r).length - 1)) + 1 := by
        simp only [List.length_cons]; omega
      rw [e, List.range_succ_eq_map, List.filterMap_cons, List.filterMap_map]
      show (decide (a < b) && _) = (decide (a < b) && adj (b :: r))
      rw [← ih]
      rfl
def lotB (m : Int) (xs : List V) : Bool := xs.all (numB m) && adj (xs.map iOf)
theorem numB_out {m : Int} {v : V} (h : numB m v = true) : ∃ z, v = .int z ∧ 0 ≤ z ∧ z < m := by
  cases v with
  | int z =>
    have h : (decide (0 ≤ z) && decide (z < m)) = true := h
    rw [Bool.and_eq_true, decide_eq_true_eq, decide_eq_true_eq] at h
    exact ⟨z, rfl, h⟩
  | _ => cases h
theorem nums_map {m : Int} : ∀ {xs : List V}, xs.all (numB m) = true → xs = (xs.map iOf).map V.int ∧ ∀ n ∈ xs.map iOf, 0 ≤ n ∧ n < m
  | [], _ => ⟨rfl, fun n h => by cases h⟩
  | v :: r, h => by
    rw [List.all_cons, Bool.and_eq_true] at h
    obtain ⟨z, rfl, z0, z1⟩ := numB_out h.1
    obtain ⟨e, q⟩ := nums_map h.2
    refine ⟨?_, fun n hn => ?_⟩
    · rw [List.map_cons, List.map_cons, ← e]; rfl
    · rcases List.mem_cons.mp hn with rfl | hn
      · exact ⟨z0, z1⟩
      · exact q n hn
end LM
namespace LM
open PySem L2 U M
/-! ### all that is shown at its best -/
/-- the loss of these values if y is shown -/
def lossY (ms : List Int) (y : Int) : Int := (ms.map fun z => ab (z - y)).sum
theorem lossY_at (ms : List Int) (y : Int) : lossY ms y = lossAt (rowF ms) y 0 ms.length := by
  unfold lossY lossAt sg
  rw [sum_sm (fun z => ab (z - y))]
  show _ = _ - 0
  omega
/-- how much more a value loses that is not in the middle -/
theorem far_lo {a : Nat → Int} {n : Nat} (M : Mon a n) (h : 0 < n) {y : Int} (hy : y < a ((n - 1) / 2)) : cs a 0 n < lossAt a y 0 n := by
  have hle := cs_le M h (Nat.le_refl n) y
  have hm : (0 + n) / 2 = n / 2 := by omega
  rcases (show n % 2 = 1 ∨ n % 2 = 0 by omega) with odd | even
  · -- n odd: one middle
    have e : (n - 1) / 2 = n / 2 := by omega
    rw [e] at hy
    unfold cs at *
    rw [hm] at *
    generalize hmm : n / 2 = m at *
    have h2 : m < n := by omega
    rw [← lossAt_add a (a m) 0 m n, loss_up M (by omega) (Nat.le_refl n), loss_dn M (Nat.zero_le m) h2, ← lossAt_add a y 0 m n]
    have u1 : sg a m n - y * ((n : Int) - (m : Int)) ≤ lossAt a y m n := by
      rw [← sg_subc a y (by omega)]
      exact sg_le (by omega) fun i _ _ => (ab_ge _).1
    have u2 : y * ((m : Int) - ((0 : Nat) : Int)) - sg a 0 m ≤ lossAt a y 0 m := by
      rw [← sg_rsubc a y (Nat.zero_le m)]
      exact sg_le (Nat.zero_le m) fun i _ _ => by have := (ab_ge (a i - y)).2.1; omega
    have e1 : (m : Int) - ((0 : Nat) : Int) = (m : Int) := by omega
    have e2 : (n : Int) - (m : Int) = (m : Int) + 1 := by omega
    rw [e2, Int.mul_add, Int.mul_one] at u1 ⊢
    rw [e1] at u2 ⊢
    omega
  · have hn1 : (n - 1) / 2 + 1 = n / 2 := by omega
    unfold cs at *
    rw [hm] at *
    generalize hmm : n / 2 = m at *
    obtain ⟨l, rfl⟩ : ∃ l, m = l + 1 := ⟨m - 1, by omega⟩
    have el : (n - 1) / 2 = l := by omega
    rw [el] at hy
    have h2 : l + 1 < n := by omega
    rw [← lossAt_add a (a (l + 1)) 0 (l + 1) n, loss_up M (by omega) (Nat.le_refl n), loss_dn M (Nat.zero_le _) h2, ← lossAt_add a y 0 (l + 1) n]
    have u1 : sg a (l + 1) n - y * ((n : Int) - ((l + 1 : Nat) : Int)) ≤ lossAt a y (l + 1) n := by
      rw [← sg_subc a y (by omega)]
      exact sg_le (by omega) fun i _ _ => (ab_ge _).1
    have u2 : y * ((l : Int) - ((0 : Nat) : Int)) - sg a 0 l ≤ lossAt a y 0 l := by
      rw [← sg_rsubc a y (Nat.zero_le l)]
      exact sg_le (Nat.zero_le l) fun i _ _ => by have := (ab_ge (a i - y)).2.1; omega
    have u3 : lossAt a y 0 (l + 1) = lossAt a y 0 l + ab (a l - y) := by
      rw [← lossAt_add a y 0 l (l + 1)]
      congr 1
      unfold lossAt
      rw [sg_one]
    have u4 := (ab_ge (a l - y)).1
    have u5 : sg a 0 (l + 1) = sg a 0 l + a l := sg_succ a 0 l
    have e1 : (l : Int) - ((0 : Nat) : Int) = (l : Int) := by omega
    have e2 : (n : Int) - ((l + 1 : Nat) : Int) = (l : Int) + 1 := by omega
    have e3 : ((l + 1 : Nat) : Int) - ((0 : Nat) : Int) = (l : Int) + 1 := by omega
    rw [e1] at u2
    rw [e2, Int.mul_add, Int.mul_one] at u1
    rw [e2, e3, Int.mul_add, Int.mul_one, u3, u5]
    omega
theorem far_hi {a : Nat → Int} {n : Nat} (M : Mon a n) (h : 0 < n) {y : Int} (hy : a (n / 2) < y) : cs a 0 n < lossAt a y 0 n := by
  have hm : (0 + n) / 2 = n / 2 := by omega
  unfold cs
  rw [hm]
  generalize hmm : n / 2 = m at *
  have h2 : m < n := by omega
  rw [← lossAt_add a (a m) 0 m n, loss_up M (by omega) (Nat.le_refl n), loss_dn M (Nat.zero_le m) h2, ← lossAt_add a y 0 m n]
  have u2 : y * ((m : Int) - ((0 : Nat) : Int)) - sg a 0 m ≤ lossAt a y 0 m := by
    rw [← sg_rsubc a y (Nat.zero_le m)]
    exact sg_le (Nat.zero_le m) fun i _ _ => by have := (ab_ge (a i - y)).2.1; omega
  have z1 : lossAt a y m n = ab (a m - y) + lossAt a y (m + 1) n := by
    rw [← lossAt_add a y m (m + 1) n]
    congr 1
    unfold lossAt
    rw [sg_one]
  have z2 : sg a m n = a m + sg a (m + 1) n := by rw [← sg_add a m (m + 1) n, sg_one]
  have z3 : sg a (m + 1) n - y * ((n : Int) - ((m + 1 : Nat) : Int)) ≤ lossAt a y (m + 1) n := by
    rw [← sg_subc a y (by omega)]
    exact sg_le (by omega) fun i _ _ => (ab_ge _).1
  have z4 := (ab_ge (a m - y)).2.1
  obtain ⟨q, hq⟩ : ∃ q : Nat, n = m + 1 + q := ⟨n - m - 1, by omega⟩
  have e1 : (m : Int) - ((0 : Nat) : Int) = (m : Int) := by omega
  have e2 : (n : Int) - ((m + 1 : Nat) : Int) = (q : Int) := by omega
  have e3 : (n : Int) - (m : Int) = (q : Int) + 1 := by omega
  rw [e1] at u2 ⊢
  rw [e2] at z3
  rw [e3, Int.mul_add, Int.mul_one]
  rcases (show m = q ∨ m = q + 1 by omega) with e | e
  · have e4 : (m : Int) = (q : Int) := by omega
    rw [e4] at u2 ⊢
    omega
  · have e4 : (m : Int) = (q : Int) + 1 := by omega
    rw [e4, Int.mul_add, Int.mul_one] at u2
    rw [e4, Int.mul_add, Int.mul_one]
    omega
theorem low_mid {a : Nat → Int} {n : Nat} (M : Mon a n) (h : 0 < n) : lossAt a (a ((n - 1) / 2)) 0 n = cs a 0 n := by
  rcases (show n % 2 = 1 ∨ n % 2 = 0 by omega) with odd | even
  · unfold cs
    rw [show (0 + n) / 2 = (n - 1) / 2 by omega]
  · unfold cs
    rw [show (0 + n) / 2 = n / 2 by omega]
    generalize hmm : n / 2 = m at *
    obtain ⟨l, rfl⟩ : ∃ l, m = l + 1 := ⟨m - 1, by omega⟩
    have el : (n - 1) / 2 = l := by omega
    rw [el]
    have h2 : l + 1 < n := by omega
    rw [← lossAt_add a (a (l + 1)) 0 (l + 1) n, loss_up M (by omega) (Nat.le_refl n), loss_dn M (Nat.zero_le _) h2, ← lossAt_add a (a l) 0 l n, loss_up M (by omega) (Nat.le_refl n), loss_dn M (Nat.zero_le _) (by omega)]
    have u5 : sg a 0 (l + 1) = sg a 0 l + a l := sg_succ a 0 l
    have u6 : sg a l n = a l + sg a (l + 1) n := by rw [← sg_add a l (l + 1) n, sg_one]
    have e1 : (l : Int) - ((0 : Nat) : Int) = (l : Int) := by omega
    have e2 : (n : Int) - ((l + 1 : Nat) : Int) = (l : Int) + 1 := by omega
    have e3 : ((l + 1 : Nat) : Int) - ((0 : Nat) : Int) = (l : Int) + 1 := by omega
    have e4 : (n : Int) - (l : Int) = (l : Int) + 2 := by omega
    rw [e1, e2, e3, e4, u5, u6, Int.mul_add, Int.mul_add, Int.mul_one]
    omega
/-- places of a dict that tells a function -/
theorem merge_fn (L : Int → Int) (k : Int) : ∀ (ys : List Int) (acc : List (Key × V)), valV (mergeK acc (ys.map fun y => (Sum.inl y, V.int (L y)))) (Sum.inl k) = if k ∈ ys then some (V.int (L k)) else valV acc (Sum.inl k)
  | [], acc => by simp [mergeK]
  | y :: r, acc => by
    have ih := merge_fn L k r (putK acc (Sum.inl y) (V.int (L y)))
    show valV (mergeK (putK acc (Sum.inl y) (V.int (L y))) (r.map fun y => (Sum.inl y, V.int (L y)))) (Sum.inl k) = _
    rw [ih, valV_put]
    by_cases c : k ∈ r
    · rw [if_pos c, if_pos (List.mem_cons_of_mem _ c)]
    · rw [if_neg c]
      by_cases e : k = y
      · subst e
        rw [if_pos rfl, if_pos List.mem_cons_self]
      · rw [if_neg (fun z => e (Sum.inl.inj z)), if_neg (fun z => by rcases List.mem_cons.mp z with z | z <;> contradiction)]
end LM
namespace LM
/-! ### the least loss of all partings is that of stretches: two rows matched in their sequence -/
def pl (P : List (Int × Int)) : Int := (P.map fun q => ab (q.1 - q.2)).sum
theorem pl_cons (q : Int × Int) (P : List (Int × Int)) : pl (q :: P) = ab (q.1 - q.2) + pl P := rfl
theorem pl_app (P Q : List (Int × Int)) : pl (P ++ Q) = pl P + pl Q := by
  unfold pl
  rw [List.map_append, List.sum_append]
theorem pl_perm {P Q : List (Int × Int)} (h : P.Perm Q) : pl P = pl Q := by
  induction h with
  | nil => rfl
  | cons x _ ih => rw [pl_cons, pl_cons, ih]
  | swap x y l => rw [pl_cons, pl_cons, pl_cons, pl_cons]; omega
  | trans _ _ a b => rw [a, b]
theorem exch {x x1 y y1 : Int} (h : x ≤ x1) (h' : y ≤ y1) : ab (x - y) + ab (x1 - y1) ≤ ab (x - y1) + ab (x1 - y) := by
  unfold ab
  split <;> split <;> split <;> split <;> omega
theorem match_le : ∀ (xs ys : List Int) (P : List (Int × Int)), xs.Pairwise (· ≤ ·) → ys.Pairwise (· ≤ ·) → (P.map (·.1)).Perm xs → (P.map (·.2)).Perm ys → pl (xs.zip ys) ≤ pl P
  | [], ys, P, _, _, h1, _ => by
    have := h1.length_eq
    rw [List.length_map] at this
    have : P = [] := List.length_eq_zero_iff.mp this
    subst this
    exact Int.le_refl _
  | x :: xs, [], P, _, _, h1, h2 => by
    have a := h1.length_eq
    have b := h2.length_eq
    rw [List.length_map] at a b
    rw [List.length_cons] at a
    simp at b
    rw [b] at a
    simp at a
  | x :: xs, y :: ys, P, p1, p2, h1, h2 => by
    have hx : x ∈ P.map (·.1) := h1.symm.mem_iff.mp List.mem_cons_self
    obtain ⟨q, hq, eq⟩ := List.mem_map.mp hx
    obtain ⟨x', y1⟩ := q
    have eq : x' = x := eq
    subst eq
    have e1 := List.perm_cons_erase hq
    generalize P.erase (x', y1) = P1 at e1
    have f1 : (P1.map (·.1)).Perm xs := ((e1.map (·.1)).symm.trans h1).cons_inv
    have e1s : (P.map (·.2)).Perm (y1 :: P1.map (·.2)) := e1.map (·.2)
    have f2 : (y1 :: P1.map (·.2)).Perm (y :: ys) := e1s.symm.trans h2
    rw [pl_perm e1, pl_cons]
    show ab (x' - y) + pl (xs.zip ys) ≤ _
    by_cases c : y1 = y
    · subst c
      have := match_le xs ys P1 p1.of_cons p2.of_cons f1 f2.cons_inv
      show _ ≤ ab (x' - y1) + _
      omega
    · have hy : y ∈ P1.map (·.2) := (List.mem_cons.mp (f2.symm.mem_iff.mp List.mem_cons_self)).resolve_left fun z => c z.symm
      obtain ⟨q, hq, eq⟩ := List.mem_map.mp hy
      obtain ⟨x1, y'⟩ := q
      have eq : y' = y := eq
      subst eq
      have e2 := List.perm_cons_erase hq
      generalize P1.erase (x1, y') = P2 at e2
      have g1 : (((x1, y1) :: P2).map (·.1)).Perm xs := (e2.map (·.1)).symm.trans f1
      have g2 : (((x1, y1) :: P2).map (·.2)).Perm ys := by
        have e2s : (P1.map (·.2)).Perm (y' :: P2.map (·.2)) := e2.map (·.2)
        have : (y' :: y1 :: P2.map (·.2)).Perm (y' :: ys) := (List.Perm.swap _ _ _).trans ((e2s.symm.cons y1).trans f2)
        exact this.cons_inv
      have ih := match_le xs ys ((x1, y1) :: P2) p1.of_cons p2.of_cons g1 g2
      rw [pl_cons] at ih
      rw [pl_perm e2, pl_cons]
      have hx1 : x' ≤ x1 := by
        have m : x1 ∈ xs := g1.mem_iff.mp List.mem_cons_self
        exact (List.pairwise_cons.mp p1).1 _ m
      have hy1 : y' ≤ y1 := by
        have m : y1 ∈ ys := g2.mem_iff.mp List.mem_cons_self
        exact (List.pairwise_cons.mp p2).1 _ m
      have := exch hx1 hy1
      show _ ≤ ab (x' - y1) + (ab (x1 - y') + _)
      have ih : pl (xs.zip ys) ≤ ab (x1 - y1) + pl P2 := ih
      omega
/-! ### blocks of one center each -/
def blk (L : List (Nat × Int)) : List Int := L.flatMap fun q => List.replicate q.1 q.2
theorem pl_rep (c : Int) : ∀ (xs : List Int), pl (xs.zip (List.replicate xs.length c)) = (xs.map fun z => ab (z - c)).sum
  | [] => rfl
  | x :: xs => by
    show ab (x - c) + pl (xs.zip (List.replicate xs.length c)) = _
    rw [pl_rep c xs]
    rfl
theorem sg_sm (f : Nat → Int) (b : Nat) : ∀ n, sg f b (b + n) = sm (fun i => f (b + i)) n
  | 0 => sg_self f b
  | n + 1 => by
    rw [← Nat.add_assoc, sg_succ, sg_sm f b n]
    rfl
theorem loss_pl {row : List Int} {b n : Nat} (c : Int) (h : b + n ≤ row.length) : lossAt (rowF row) c b (b + n) = pl (((row.drop b).take n).zip (List.replicate n c)) := by
  have l : ((row.drop b).take n).length = n := by rw [List.length_take, List.length_drop]; omega
  have e := pl_rep c ((row.drop b).take n)
  rw [l] at e
  rw [e, sum_sm, l]
  unfold lossAt
  rw [sg_sm]
  have key : ∀ m, m ≤ n → sm (fun i => ab (rowF row (b + i) - c)) m = sm (fun i => ab (rowF ((row.drop b).take n) i - c)) m := fun m => by
    induction m with
    | zero => intro _; rfl
    | succ m ih =>
      intro hm
      show sm _ m + ab (rowF row (b + m) - c) = sm _ m + ab (rowF ((row.drop b).take n) m - c)
      rw [ih (by omega)]
      have := rowF_part row (b := b) (e := b + n) (i := m) (by omega)
      rw [show b + n - b = n by omega] at this
      rw [this]
  exact key n (Nat.le_refl _)
theorem blk_le {row : List Int} (up : row.Pairwise (· ≤ ·)) {s : Nat} (hs : 1 ≤ s) : ∀ (L : List (Nat × Int)) (b : Nat) (u : Int), (∀ q ∈ L, s ≤ q.1) → b + (L.map (·.1)).sum ≤ row.length → F (cs (rowF row)) s b = some u → ∃ v, F (cs (rowF row)) s (b + (L.map (·.1)).sum) = some v ∧ v ≤ u + pl ((row.drop b).zip (blk L))
  | [], b, u, _, _, h => ⟨u, h, by show u ≤ u + pl ((row.drop b).zip []); rw [List.zip_nil_right]; show u ≤ u + 0; omega⟩
  | (n, c) :: L, b, u, hq, hb, h => by
    have hn : s ≤ n := hq (n, c) List.mem_cons_self
    have hb : b + (n + (L.map (·.1)).sum) ≤ row.length := hb
    obtain ⟨v1, e1, l1⟩ := F_le (c := cs (rowF row)) hs (b := b) (e := b + n) (by omega) h
    have l2 := cs_le (rowF_mon up) (b := b) (e := b + n) (by omega) (by omega) c
    rw [loss_pl c (by omega)] at l2
    obtain ⟨v, e2, l3⟩ := blk_le up hs L (b + n) v1 (fun q hm => hq q (List.mem_cons_of_mem _ hm)) (by omega) e1
    refine ⟨v, by show F _ s (b + (n + (L.map (·.1)).sum)) = _; rw [← Nat.add_assoc]; exact e2, ?_⟩
    have ez : (row.drop b).zip (blk ((n, c) :: L)) = ((row.drop b).take n).zip (List.replicate n c) ++ (row.drop (b + n)).zip (blk L) := by
      obtain ⟨A, hA⟩ : ∃ A, A = (row.drop b).take n := ⟨_, rfl⟩
      have e0 : row.drop b = A ++ row.drop (b + n) := by rw [hA, ← List.drop_drop, List.take_append_drop]
      have lA : A.length = (List.replicate n c).length := by rw [hA, List.length_take, List.length_drop, List.length_replicate]; omega
      rw [← hA]
      show (row.drop b).zip (List.replicate n c ++ blk L) = _
      rw [e0, List.zip_append lA]
    rw [ez, pl_app]
    omega
/-! ### any parting -/
def srt (ms : List Int) : List Int := ms.mergeSort fun a b => decide (a ≤ b)
theorem row_srt (ms : List Int) : Row ms (srt ms) := ⟨List.mergeSort_perm _ _, by
  have := List.pairwise_mergeSort (le := fun a b : Int => decide (a ≤ b)) (fun a b c h1 h2 => by simp at *; omega) (fun a b => by simp; omega) ms
  exact this.imp fun h => by simpa using h⟩
/-- what a crowd costs at its best -/
def cst (ms : List Int) : Int := cs (rowF (srt ms)) 0 (srt ms).length
theorem cst_row {ms row : List Int} (h : Row ms row) : cst ms = cs (rowF row) 0 row.length := by
  unfold cst
  rw [(row_srt ms).uniq h]
def med (ms : List Int) : Int := rowF (srt ms) ((srt ms).length / 2)
theorem sum_perm {xs ys : List Int} (h : xs.Perm ys) : xs.sum = ys.sum := by
  induction h with
  | nil => rfl
  | cons x _ ih => rw [List.sum_cons, List.sum_cons, ih]
  | swap x y l => simp only [List.sum_cons]; omega
  | trans _ _ a b => rw [a, b]
theorem cst_sum (ms : List Int) : cst ms = (ms.map fun z => ab (z - med ms)).sum := by
  rw [sum_perm (((row_srt ms).perm.symm).map fun z => ab (z - med ms))]
  exact (sum_cost (srt ms)).symm
theorem fm_fst (v : Nat → Int) (m : List Nat → Int) : ∀ cr : List (List Nat), (cr.flatMap fun g => g.map fun i => (v i, m g)).map (·.1) = cr.flatten.map v
  | [] => rfl
  | g :: r => by
    rw [List.flatMap_cons, List.map_append, fm_fst v m r, List.flatten_cons, List.map_append, List.map_map]
    rfl
theorem fm_snd (v : Nat → Int) (m : List Nat → Int) : ∀ cr : List (List Nat), (cr.flatMap fun g => g.map fun i => (v i, m g)).map (·.2) = blk (cr.map fun g => (g.length, m g))
  | [] => rfl
  | g :: r => by
    rw [List.flatMap_cons, List.map_append, fm_snd v m r, List.map_map]
    show g.map (fun _ => m g) ++ _ = List.replicate g.length (m g) ++ _
    rw [List.map_const']
    rfl
theorem blk_mem {L : List (Nat × Int)} {y : Int} (h : y ∈ blk L) : ∃ q ∈ L, y = q.2 := by
  obtain ⟨q, hq, hy⟩ := List.mem_flatMap.mp h
  exact ⟨q, hq, (List.mem_replicate.mp hy).2⟩
theorem blk_up : ∀ {L : List (Nat × Int)}, L.Pairwise (fun a b => a.2 ≤ b.2) → (blk L).Pairwise (· ≤ ·)
  | [], _ => .nil
  | q :: L, h => by
    rw [List.pairwise_cons] at h
    show (List.replicate q.1 q.2 ++ blk L).Pairwise _
    refine List.pairwise_append.mpr ⟨List.pairwise_replicate.mpr (Or.inr (Int.le_refl _)), blk_up h.2, fun a ha b hb => ?_⟩
    obtain ⟨p, hp, rfl⟩ := blk_mem hb
    rw [(List.mem_replicate.mp ha).2]
    exact h.1 p hp
theorem pl_tot (v : Nat → Int) : ∀ cr : List (List Nat), pl (cr.flatMap fun g => g.map fun i => (v i, med (g.map v))) = (cr.map fun g => cst (g.map v)).sum
  | [] => rfl
  | g :: r => by
    rw [List.flatMap_cons, pl_app, pl_tot v r, List.map_cons, List.sum_cons, cst_sum]
    congr 1
    unfold pl
    rw [List.map_map, List.map_map]
    rfl
theorem sumN_perm {xs ys : List Nat} (h : xs.Perm ys) : xs.sum = ys.sum := by
  induction h with
  | nil => rfl
  | cons x _ ih => rw [List.sum_cons, List.sum_cons, ih]
  | swap x y l => simp only [List.sum_cons]; omega
  | trans _ _ a b => rw [a, b]
theorem parts_lower {ns row : List Int} (R : Row ns row) {s : Nat} (hs : 1 ≤ s) {cr : List (List Nat)} (hp : cr.flatten.Perm (List.range ns.length)) (hl : ∀ g ∈ cr, s ≤ g.length) :
    ∃ v, F (cs (rowF row)) s row.length = some v ∧ v ≤ (cr.map fun g => cst (g.map (rowF ns))).sum := by
  let P : List (Int × Int) := cr.flatMap fun g => g.map fun i => (rowF ns i, med (g.map (rowF ns)))
  let L : List (Nat × Int) := cr.map fun g => (g.length, med (g.map (rowF ns)))
  let L' : List (Nat × Int) := L.mergeSort fun a b => decide (a.2 ≤ b.2)
  have eL : L'.Perm L := List.mergeSort_perm _ _
  have sL : L'.Pairwise (fun a b => a.2 ≤ b.2) := by
    have := List.pairwise_mergeSort (le := fun a b : Nat × Int => decide (a.2 ≤ b.2)) (fun a b c h1 h2 => by simp at *; omega) (fun a b => by simp; omega) L
    exact this.imp fun h => by simpa using h
  have v_ns : (List.range ns.length).map (rowF ns) = ns := by
    apply List.ext_getElem?
    intro i
    rw [List.getElem?_map]
    by_cases c : i < ns.length
    · rw [List.getElem?_range c, rowF_at c]; rfl
    · rw [List.getElem?_eq_none_iff.mpr (by rw [List.length_range]; omega), List.getElem?_eq_none_iff.mpr (by omega)]; rfl
  have m1 : (P.map (·.1)).Perm row := by
    have e : P.map (·.1) = cr.flatten.map (rowF ns) := fm_fst _ _ cr
    rw [e]
    exact ((hp.map _).trans (by rw [v_ns])).trans R.perm.symm
  have m2 : (P.map (·.2)).Perm (blk L') := by
    have e : P.map (·.2) = blk L := fm_snd _ _ cr
    rw [e]
    exact (eL.symm.flatMap_right _)
  have up2 : (blk L').Pairwise (· ≤ ·) := blk_up sL
  have tot : pl P = (cr.map fun g => cst (g.map (rowF ns))).sum := pl_tot _ cr
  have le := match_le row (blk L') P R.up up2 m1 m2
  have sumL : (L'.map (·.1)).sum = row.length := by
    rw [sumN_perm (eL.map (·.1)), R.perm.length_eq]
    have e1 := hp.length_eq
    rw [List.length_flatten, List.length_range] at e1
    rw [← e1]
    show ((cr.map _).map _).sum = _
    rw [List.map_map]
    rfl
  obtain ⟨v, h1, h2⟩ := blk_le R.up hs L' 0 0 (fun q hq => by
    obtain ⟨g, hg, rfl⟩ := List.mem_map.mp (eL.mem_iff.mp hq)
    exact hl g hg) (by rw [Nat.zero_add, sumL]; exact Nat.le_refl _) (F_zero _ _)
  rw [Nat.zero_add, sumL] at h1
  rw [List.drop_zero] at h2
  exact ⟨v, h1, by omega⟩
end LM
namespace LM
/-- all partings, as the law makes them -/
def parts : Nat → List (List (List Nat))
  | 0 => [[]]
  | n + 1 => (parts n).flatMap fun cr => (cr ++ [[n]]) :: (List.range cr.length).map fun k => cr.take k ++ [(cr[k]?).getD [] ++ [n]] ++ cr.drop (k + 1)
theorem split_at {α : Type} {l : List α} {k : Nat} {x : α} (h : l[k]? = some x) : l = l.take k ++ x :: l.drop (k + 1) := by
  have lt := (List.getElem?_eq_some_iff.mp h).1
  have e := (List.getElem?_eq_some_iff.mp h).2
  rw [← e, List.getElem_cons_drop, List.take_append_drop]
theorem parts_flat : ∀ n, ∀ cr ∈ parts n, cr.flatten.Perm (List.range n)
  | 0, cr, h => by
    have : cr = [] := by simpa [parts] using h
    subst this
    exact List.Perm.refl _
  | n + 1, cr, h => by
    obtain ⟨c0, h0, h⟩ := List.mem_flatMap.mp h
    have ih := parts_flat n c0 h0
    rw [List.range_succ]
    rcases List.mem_cons.mp h with rfl | h
    · rw [List.flatten_append]
      exact ih.append (List.Perm.refl _)
    · obtain ⟨k, hk, rfl⟩ := List.mem_map.mp h
      have hk := List.mem_range.mp hk
      obtain ⟨g, hg⟩ : ∃ g, c0[k]? = some g := ⟨_, List.getElem?_eq_getElem hk⟩
      rw [hg]
      have e := split_at hg
      rw [e, List.flatten_append, List.flatten_cons] at ih
      simp only [Option.getD_some, List.flatten_append, List.flatten_cons, List.flatten_nil, List.append_nil]
      generalize (c0.take k).flatten = A at ih ⊢
      generalize (c0.drop (k + 1)).flatten = B at ih ⊢
      have : (A ++ (g ++ [n]) ++ B).Perm ((A ++ (g ++ B)) ++ [n]) := by
        simp only [List.append_assoc]
        exact (List.Perm.refl A).append ((List.Perm.refl g).append List.perm_append_comm)
      exact this.trans (ih.append (List.Perm.refl _))
/-- the crowds by their labels -/
def fil (g : Nat → Nat) (n l : Nat) : List Nat := (List.range n).filter fun i => decide (g i = l)
theorem fil_succ (g : Nat → Nat) (n l : Nat) : fil g (n + 1) l = fil g n l ++ (if g n = l then [n] else []) := by
  unfold fil
  rw [List.range_succ, List.filter_append]
  congr 1
  by_cases c : g n = l
  · rw [List.filter_cons, if_pos (decide_eq_true c), if_pos c]; rfl
  · rw [List.filter_cons, if_neg (by rw [decide_eq_false c]; decide), if_neg c]; rfl
theorem parts_lab (g : Nat → Nat) : ∀ n, ∃ ls : List Nat, ls.Nodup ∧ ls.map (fil g n) ∈ parts n ∧ ∀ l, l ∈ ls ↔ ∃ i, i < n ∧ g i = l
  | 0 => ⟨[], List.nodup_nil, by simp [parts], fun l => ⟨fun h => (by cases h), fun ⟨i, h, _⟩ => absurd h (Nat.not_lt_zero _)⟩⟩
  | n + 1 => by
    obtain ⟨ls, nd, hm, hl⟩ := parts_lab g n
    by_cases c : g n ∈ ls
    · refine ⟨ls, nd, ?_, fun l => ?_⟩
      · obtain ⟨k, hk⟩ := List.getElem?_of_mem c
        have lt := (List.getElem?_eq_some_iff.mp hk).1
        refine List.mem_flatMap.mpr ⟨_, hm, List.mem_cons_of_mem _ (List.mem_map.mpr ⟨k, List.mem_range.mpr (by rw [List.length_map]; exact lt), ?_⟩)⟩
        have e := split_at hk
        have hne : ∀ x ∈ ls.take k ++ ls.drop (k + 1), x ≠ g n := fun x hx q => by
          rw [e] at nd
          have nd := (List.nodup_append.mp nd)
          rcases List.mem_append.mp hx with hx | hx
          · exact nd.2.2 x hx (g n) List.mem_cons_self q
          · exact (List.nodup_cons.mp nd.2.1).1 (q ▸ hx)
        have same : ∀ x ∈ ls.take k ++ ls.drop (k + 1), fil g (n + 1) x = fil g n x := fun x hx => by
          rw [fil_succ, if_neg (fun z => hne x hx z.symm), List.append_nil]
        rw [List.getElem?_map, hk, ← List.map_take, ← List.map_drop]
        show (ls.take k).map (fil g n) ++ [fil g n (g n) ++ [n]] ++ (ls.drop (k + 1)).map (fil g n) = ls.map (fil g (n + 1))
        conv => rhs; rw [e, List.map_append, List.map_cons]
        rw [List.map_congr_left fun x hx => same x (List.mem_append_left _ hx), List.map_congr_left (l := ls.drop (k + 1)) fun x hx => same x (List.mem_append_right _ hx), fil_succ g n (g n), if_pos rfl, List.append_assoc]
        rfl
      · constructor
        · intro h
          obtain ⟨i, a, b⟩ := (hl l).mp h
          exact ⟨i, by omega, b⟩
        · rintro ⟨i, a, b⟩
          by_cases q : i = n
          · subst q; rw [← b]; exact c
          · exact (hl l).mpr ⟨i, by omega, b⟩
    · refine ⟨ls ++ [g n], ?_, ?_, fun l => ?_⟩
      · rw [List.nodup_append]
        exact ⟨nd, by simp, fun a ha b hb q => by rw [List.mem_singleton] at hb; exact c (hb ▸ q ▸ ha)⟩
      · refine List.mem_flatMap.mpr ⟨_, hm, List.mem_cons.mpr (Or.inl ?_)⟩
        rw [List.map_append, List.map_congr_left fun x hx => show fil g (n + 1) x = fil g n x by rw [fil_succ, if_neg (fun z : g n = x => c (z.symm ▸ hx)), List.append_nil]]
        congr 1
        show [fil g (n + 1) (g n)] = [[n]]
        rw [fil_succ, if_pos rfl]
        have : fil g n (g n) = [] := List.filter_eq_nil_iff.mpr fun i hi z => c ((hl _).mpr ⟨i, List.mem_range.mp hi, of_decide_eq_true z⟩)
        rw [this]
        rfl
      · rw [List.mem_append, List.mem_singleton]
        constructor
        · rintro (h | h)
          · obtain ⟨i, a, b⟩ := (hl l).mp h
            exact ⟨i, by omega, b⟩
          · exact ⟨n, by omega, h.symm⟩
        · rintro ⟨i, a, b⟩
          by_cases q : i = n
          · subst q; exact Or.inr b.symm
          · exact Or.inl ((hl l).mpr ⟨i, by omega, b⟩)
/-! ### cuts -/
inductive Cut (s : Nat) : List (Nat × Nat) → Nat → Prop
  | nil : Cut s [] 0
  | cons {B : List (Nat × Nat)} {b e : Nat} (h : Cut s B b) (l : b + s ≤ e) : Cut s ((b, e) :: B) e
theorem F_cut {c : Nat → Nat → Int} {s : Nat} (hs : 1 ≤ s) : ∀ (e : Nat) {v : Int}, F c s e = some v → ∃ B, Cut s B e ∧ (B.map fun q => c q.1 q.2).sum = v := by
  intro e
  induction e using Nat.strongRecOn with
  | ind e ih =>
    intro v h
    by_cases z : e = 0
    · subst z
      rw [F_zero] at h
      cases h
      exact ⟨[], .nil, rfl⟩
    · obtain ⟨b, u, h1, h2, rfl⟩ := F_mem hs (by omega) h
      obtain ⟨B, hB, e2⟩ := ih b (by omega) h2
      exact ⟨(b, e) :: B, .cons hB h1, by rw [List.map_cons, List.sum_cons, e2]; exact Int.add_comm _ _⟩
def lab : List (Nat × Nat) → Nat → Nat
  | [], _ => 0
  | (b, _) :: B, j => if b ≤ j then b else lab B j
theorem Cut.bd {s : Nat} {B : List (Nat × Nat)} {e : Nat} (h : Cut s B e) : ∀ q ∈ B, q.1 + s ≤ q.2 ∧ q.2 ≤ e := by
  induction h with
  | nil => intro q hq; cases hq
  | cons h l ih =>
    intro q hq
    rcases List.mem_cons.mp hq with rfl | hq
    · exact ⟨l, Nat.le_refl _⟩
    · have := ih q hq
      exact ⟨this.1, by omega⟩
theorem Cut.at {s : Nat} {B : List (Nat × Nat)} {e : Nat} (h : Cut s B e) : ∀ j, j < e → ∃ q ∈ B, q.1 ≤ j ∧ j < q.2 ∧ lab B j = q.1 := by
  induction h with
  | nil => intro j hj; exact absurd hj (Nat.not_lt_zero _)
  | @cons B b e h l ih =>
    intro j hj
    by_cases c : b ≤ j
    · exact ⟨(b, e), List.mem_cons_self, c, hj, if_pos c⟩
    · obtain ⟨q, hq, a1, a2, a3⟩ := ih j (by omega)
      exact ⟨q, List.mem_cons_of_mem _ hq, a1, a2, by show (if b ≤ j then b else lab B j) = _; rw [if_neg c]; exact a3⟩
theorem Cut.iff {s : Nat} (hs : 1 ≤ s) {B : List (Nat × Nat)} {e : Nat} (h : Cut s B e) : ∀ q ∈ B, ∀ j, j < e → (lab B j = q.1 ↔ q.1 ≤ j ∧ j < q.2) := by
  induction h with
  | nil => intro q hq; cases hq
  | @cons B b e h l ih =>
    intro q hq j hj
    have el : lab ((b, e) :: B) j = if b ≤ j then b else lab B j := rfl
    rw [el]
    rcases List.mem_cons.mp hq with rfl | hq
    · by_cases c : b ≤ j
      · rw [if_pos c]; exact ⟨fun _ => ⟨c, hj⟩, fun _ => rfl⟩
      · rw [if_neg c]
        obtain ⟨p, hp, a1, a2, a3⟩ := h.at j (by omega)
        rw [a3]
        exact ⟨fun z => by have z : p.1 = b := z; omega, fun z => absurd z.1 c⟩
    · have := h.bd q hq
      by_cases c : b ≤ j
      · rw [if_pos c]; exact ⟨fun z => by omega, fun z => by omega⟩
      · rw [if_neg c]; exact ih q hq j (by omega)
theorem Cut.nd {s : Nat} (hs : 1 ≤ s) {B : List (Nat × Nat)} {e : Nat} (h : Cut s B e) : (B.map (·.1)).Nodup := by
  induction h with
  | nil => exact List.nodup_nil
  | @cons B b e h l ih =>
    rw [List.map_cons, List.nodup_cons]
    refine ⟨fun z => ?_, ih⟩
    obtain ⟨q, hq, z⟩ := List.mem_map.mp z
    have := h.bd q hq
    have z : q.1 = b := z
    omega
theorem perm_mem {α : Type} [DecidableEq α] : ∀ {xs ys : List α}, xs.Nodup → ys.Nodup → (∀ a, a ∈ xs ↔ a ∈ ys) → xs.Perm ys
  | [], ys, _, _, h => by
    have : ys = [] := List.eq_nil_iff_forall_not_mem.mpr fun a ha => by have := (h a).mpr ha; cases this
    rw [this]
  | x :: xs, ys, n1, n2, h => by
    have hx := (h x).mp List.mem_cons_self
    have e := List.perm_cons_erase hx
    have n3 := List.nodup_cons.mp n1
    refine List.Perm.trans (List.Perm.cons x (perm_mem n3.2 (n2.erase x) fun a => ?_)) e.symm
    rw [List.Nodup.mem_erase_iff n2]
    constructor
    · intro ha
      exact ⟨fun z => n3.1 (z ▸ ha), (h a).mp (List.mem_cons_of_mem _ ha)⟩
    · rintro ⟨z, ha⟩
      exact (List.mem_cons.mp ((h a).mpr ha)).resolve_left z
end LM
namespace LM
theorem zip_snd : ∀ {xs ys : List Int}, xs.length = ys.length → (xs.zip ys).map (·.2) = ys
  | [], [], _ => rfl
  | x :: xs, y :: ys, h => by
    rw [List.zip_cons_cons, List.map_cons, zip_snd (by simpa using h)]
/-- the places of the ascending values -/
structure PlOk (ns row : List Int) (q : List Nat) : Prop where
  perm : q.Perm (List.range ns.length)
  val : row = q.map (rowF ns)
theorem RowOk.pl {ns row pl : List Int} (R : RowOk ns row pl) : PlOk ns row (pl.map Int.toNat) ∧ pl = (pl.map Int.toNat).map Int.ofNat := by
  have ll : row.length = pl.length := by rw [R.len, R.pln]
  have p1 := R.perm.map (·.2)
  rw [zip_snd ll] at p1
  have e1 : (idx ns).map (·.2) = (List.range ns.length).map fun i : Nat => (i : Int) := by
    unfold idx
    rw [List.map_map]
    rfl
  rw [e1] at p1
  have nn : ∀ z ∈ pl, 0 ≤ z := fun z hz => by
    obtain ⟨i, _, rfl⟩ := List.mem_map.mp (p1.mem_iff.mp hz)
    omega
  have e2 : pl = (pl.map Int.toNat).map Int.ofNat := by
    rw [List.map_map]
    have : pl.map (Int.ofNat ∘ Int.toNat) = pl.map id := List.map_congr_left fun z hz => by
      have := nn z hz
      show ((z.toNat : Nat) : Int) = z
      omega
    rw [this, List.map_id]
  refine ⟨⟨?_, ?_⟩, e2⟩
  · have := p1.map Int.toNat
    rw [List.map_map] at this
    have e : (List.range ns.length).map (Int.toNat ∘ fun i : Nat => (i : Int)) = (List.range ns.length).map id := List.map_congr_left fun i _ => rfl
    rw [e, List.map_id] at this
    exact this
  · refine List.ext_getElem? fun j => ?_
    rw [List.map_map, List.getElem?_map]
    by_cases c : j < row.length
    · have m : (row[j], pl[j]) ∈ row.zip pl := by
        refine List.mem_of_getElem? (i := j) ?_
        rw [List.getElem?_zip_eq_some]
        exact ⟨List.getElem?_eq_getElem c, List.getElem?_eq_getElem (by omega)⟩
      have m := R.perm.mem_iff.mp m
      unfold idx at m
      obtain ⟨i, hi, e⟩ := List.mem_map.mp m
      injection e with e1 e2
      rw [List.getElem?_eq_getElem c, List.getElem?_eq_getElem (by omega : j < pl.length), ← e1]
      show _ = some (rowF ns (pl[j]).toNat)
      rw [← e2]
      rfl
    · rw [List.getElem?_eq_none_iff.mpr (by omega), List.getElem?_eq_none_iff.mpr (by omega)]
      rfl
section
variable {ns row : List Int} {q : List Nat} (P : PlOk ns row q) {s : Nat} (hs : 1 ≤ s) {B : List (Nat × Nat)} (C : Cut s B q.length)
include P hs C
theorem PlOk.nodup : q.Nodup := P.perm.symm.nodup List.nodup_range
theorem lab_at {j : Nat} {x : Nat} (h : q[j]? = some x) : lab B (q.idxOf x) = lab B j := by
  have nd := PlOk.nodup P hs C
  obtain ⟨lt, e⟩ := List.getElem?_eq_some_iff.mp h
  rw [← e, List.Nodup.idxOf_getElem nd]
theorem fil_cut {b : Nat × Nat} (hb : b ∈ B) : (q.filter fun x => decide (lab B (q.idxOf x) = b.1)) = (q.drop b.1).take (b.2 - b.1) := by
  have bd := C.bd b hb
  have e : q = q.take b.1 ++ ((q.drop b.1).take (b.2 - b.1) ++ q.drop b.2) := by
    have : (q.drop b.1).take (b.2 - b.1) ++ q.drop b.2 = q.drop b.1 := by
      have := List.take_append_drop (b.2 - b.1) (q.drop b.1)
      rw [List.drop_drop, show b.1 + (b.2 - b.1) = b.2 by omega] at this
      exact this
    rw [this, List.take_append_drop]
  have key : ∀ j x, q[j]? = some x → (decide (lab B (q.idxOf x) = b.1) = (decide (b.1 ≤ j) && decide (j < b.2))) := fun j x hj => by
    rw [lab_at P hs C hj]
    have := C.iff hs b hb j (List.getElem?_eq_some_iff.mp hj).1
    by_cases c : lab B j = b.1
    · rw [decide_eq_true c, decide_eq_true (this.mp c).1, decide_eq_true (this.mp c).2]; rfl
    · rw [decide_eq_false c]
      by_cases c1 : b.1 ≤ j
      · by_cases c2 : j < b.2
        · exact absurd (this.mpr ⟨c1, c2⟩) c
        · rw [decide_eq_false c2, Bool.and_false]
      · rw [decide_eq_false c1]; rfl
  have h1 : (q.take b.1).filter (fun x => decide (lab B (q.idxOf x) = b.1)) = [] := List.filter_eq_nil_iff.mpr fun x hx z => by
    obtain ⟨j, hj⟩ := List.getElem?_of_mem hx
    rw [List.getElem?_take] at hj
    split at hj
    · rw [key j x hj] at z
      rename_i lt
      rw [Bool.and_eq_true, decide_eq_true_eq] at z
      omega
    · cases hj
  have h3 : (q.drop b.2).filter (fun x => decide (lab B (q.idxOf x) = b.1)) = [] := List.filter_eq_nil_iff.mpr fun x hx z => by
    obtain ⟨j, hj⟩ := List.getElem?_of_mem hx
    rw [List.getElem?_drop] at hj
    rw [key _ x hj, Bool.and_eq_true, decide_eq_true_eq, decide_eq_true_eq] at z
    omega
  have h2 : ((q.drop b.1).take (b.2 - b.1)).filter (fun x => decide (lab B (q.idxOf x) = b.1)) = (q.drop b.1).take (b.2 - b.1) := List.filter_eq_self.mpr fun x hx => by
    obtain ⟨j, hj⟩ := List.getElem?_of_mem hx
    rw [List.getElem?_take] at hj
    split at hj
    · rw [List.getElem?_drop] at hj
      rename_i lt
      rw [key _ x hj, Bool.and_eq_true, decide_eq_true_eq, decide_eq_true_eq]
      omega
    · cases hj
  conv => lhs; arg 2; rw [e]
  rw [List.filter_append, List.filter_append, h1, h2, h3, List.nil_append, List.append_nil]
/-- a crowd of a stretch -/
theorem crowd_row (up : row.Pairwise (· ≤ ·)) {b : Nat × Nat} (hb : b ∈ B) : Row ((fil (fun x => lab B (q.idxOf x)) ns.length b.1).map (rowF ns)) ((row.drop b.1).take (b.2 - b.1)) := by
  have p : (fil (fun x => lab B (q.idxOf x)) ns.length b.1).Perm ((q.drop b.1).take (b.2 - b.1)) := by
    rw [← fil_cut P hs C hb]
    exact (P.perm.symm.filter _)
  refine ⟨?_, up.sublist ((List.take_sublist _ _).trans (List.drop_sublist _ _))⟩
  have := (p.map (rowF ns)).symm
  rw [List.map_take, List.map_drop, ← P.val] at this
  exact this
theorem cut_parts (up : row.Pairwise (· ≤ ·)) : ∃ cr ∈ parts ns.length, (∀ g ∈ cr, s ≤ g.length) ∧ (cr.map fun g => cst (g.map (rowF ns))).sum = (B.map fun b => cs (rowF row) b.1 b.2).sum := by
  have lq : q.length = ns.length := by rw [P.perm.length_eq, List.length_range]
  have lr : row.length = q.length := by rw [P.val, List.length_map]
  obtain ⟨ls, nd, hm, hl⟩ := parts_lab (fun x => lab B (q.idxOf x)) ns.length
  have perm : ls.Perm (B.map (·.1)) := perm_mem nd (C.nd hs) fun l => by
    rw [hl]
    constructor
    · rintro ⟨i, hi, rfl⟩
      obtain ⟨j, hj⟩ := List.getElem?_of_mem (P.perm.symm.mem_iff.mp (List.mem_range.mpr hi))
      rw [lab_at P hs C hj]
      obtain ⟨b, hb, _, _, e⟩ := C.at j (List.getElem?_eq_some_iff.mp hj).1
      rw [e]
      exact List.mem_map_of_mem hb
    · intro h
      obtain ⟨b, hb, rfl⟩ := List.mem_map.mp h
      have bd := C.bd b hb
      have lt : b.1 < q.length := by omega
      refine ⟨q[b.1], ?_, ?_⟩
      · exact List.mem_range.mp (P.perm.mem_iff.mp (List.getElem_mem lt))
      · show lab B (q.idxOf q[b.1]) = b.1
        rw [lab_at P hs C (List.getElem?_eq_getElem lt)]
        exact (C.iff hs b hb b.1 lt).mpr ⟨Nat.le_refl _, by omega⟩
  refine ⟨_, hm, fun g hg => ?_, ?_⟩
  · obtain ⟨l, hl', rfl⟩ := List.mem_map.mp hg
    obtain ⟨b, hb, rfl⟩ := List.mem_map.mp (perm.mem_iff.mp hl')
    have := (crowd_row P hs C up hb).perm.length_eq
    have bd := C.bd b hb
    rw [List.length_map, List.length_take, List.length_drop] at this
    omega
  · rw [List.map_map, sum_perm (perm.map _), List.map_map]
    congr 1
    refine List.map_congr_left fun b hb => ?_
    have bd := C.bd b hb
    have R := crowd_row P hs C up hb
    show cst ((fil _ ns.length b.1).map (rowF ns)) = _
    rw [cst_row R]
    have l : ((row.drop b.1).take (b.2 - b.1)).length = b.2 - b.1 := by rw [List.length_take, List.length_drop]; omega
    rw [l]
    exact cs_part (by omega) (by omega)
end
/-- the least of all partings -/
theorem parts_min {ns row pl : List Int} (R : RowOk ns row pl) {s : Nat} (hs : 1 ≤ s) : lmin (((parts ns.length).filter fun cr => cr.all fun g => decide (s ≤ g.length)).map fun cr => (cr.map fun g => cst (g.map (rowF ns))).sum) = F (cs (rowF row)) s row.length := by
  have lower : ∀ x ∈ (((parts ns.length).filter fun cr => cr.all fun g => decide (s ≤ g.length)).map fun cr => (cr.map fun g => cst (g.map (rowF ns))).sum), ∃ v, F (cs (rowF row)) s row.length = some v ∧ v ≤ x := fun x hx => by
    obtain ⟨cr, hcr, rfl⟩ := List.mem_map.mp hx
    rw [List.mem_filter] at hcr
    exact parts_lower R.row hs (parts_flat _ cr hcr.1) fun g hg => of_decide_eq_true (List.all_eq_true.mp hcr.2 g hg)
  cases e : F (cs (rowF row)) s row.length with
  | none =>
    rw [lmin_none]
    refine List.eq_nil_iff_forall_not_mem.mpr fun x hx => ?_
    obtain ⟨v, h, _⟩ := lower x hx
    rw [e] at h; cases h
  | some v =>
    obtain ⟨Pk, _⟩ := RowOk.pl R
    have lq : (pl.map Int.toNat).length = row.length := by rw [List.length_map, R.pln, R.len]
    obtain ⟨B, C, hv⟩ := F_cut hs _ e
    obtain ⟨cr, h1, h2, h3⟩ := cut_parts Pk hs (by rw [lq]; exact C) R.up
    refine lmin_in (List.mem_map.mpr ⟨cr, List.mem_filter.mpr ⟨h1, List.all_eq_true.mpr fun g hg => decide_eq_true (h2 g hg)⟩, by rw [h3, hv]⟩) fun w hw => ?_
    obtain ⟨v', h, hle⟩ := lower w hw
    rw [e] at h
    cases h
    exact hle
end LM
namespace RV
open PySem PySem.Spec PyProof.Rows L2 HT
/-! ### t[::-1] of a tuple -/
section
variable {prog : Program} {w : World} {A : Around} {E : Value → Shared → Prop} {s : Shared}
theorem places_rev (n : Nat) : Builtin.Slice.slicePlaces ((n : Int) - 1) (-1) (-1) = n := by
  unfold Builtin.Slice.slicePlaces
  rw [if_neg (by decide)]
  show (if (n : Int) - 1 > -1 then ((n : Int) - 1 - (-1) - 1) / 1 + 1 else 0).toNat = n
  rw [Int.ediv_one]
  split <;> omega
theorem applied_rev {sl : Addr} {vl vu vs : Value} {n : Nat} {Q : Int × Int × Nat → Shared → Prop} (hs : s.heap.IsSliceOf sl vl vu vs) (pl : IsPart vl none) (pu : IsPart vu none) (ps : IsPart vs (some (-1)))
    (h : Q ((n : Int) - 1, -1, n) s) : wpAny (model prog w) A (Builtin.Slice.sliceApplied (.ref sl) (pure (n : Int))) Q E s := by
  obtain ⟨os, hos, hcs, hds⟩ := id hs
  unfold Builtin.Slice.sliceApplied Builtin.Slice.sliceFields
  refine wpAny_bind (wpAny_bind (wpAny_field hos hds (x := vl) rfl (wpAny_bind (wpAny_field hos hds (x := vu) rfl (wpAny_bind (wpAny_field hos hds (x := vs) rfl (wpAny_pure ?_)))))))
  refine wpAny_bind (slicePart_ ps ?_)
  show wpAny _ _ (if ((-1 : Int) == 0) = true then _ else _) _ _ s
  rw [if_neg (by decide)]
  refine wpAny_bind (slicePart_ pl (wpAny_bind (slicePart_ pu (wpAny_bind (wpAny_pure ?_)))))
  show wpAny _ _ (pure ((n : Int) - 1, (-1 : Int), Builtin.Slice.slicePlaces ((n : Int) - 1) (-1) (-1))) _ _ s
  rw [places_rev]
  exact wpAny_pure h
theorem pick_rev (xs : Array Value) : ((List.range xs.size).filterMap fun (m : Nat) => xs[((xs.size : Int) - 1 + (m : Int) * (-1)).toNat]?).toArray = xs.toList.reverse.toArray := by
  have e : (fun (m : Nat) => xs[((xs.size : Int) - 1 + (m : Int) * (-1)).toNat]?) = (fun k => xs[k]?) ∘ fun m => xs.size - 1 - m := by
    funext m
    show _ = xs[xs.size - 1 - m]?
    have : ((xs.size : Int) - 1 + (m : Int) * (-1)).toNat = xs.size - 1 - m := by omega
    rw [this]
  rw [e, ← List.filterMap_map, PySem.W.krv_range, List.filterMap_reverse, PySem.W.krv_all]
theorem getItem_rev {t sl : Addr} {items : Array Value} {vl vu vs : Value} {Q : Value → Shared → Prop} (ht : IsTup s.heap t items) (hs : s.heap.IsSliceOf sl vl vu vs) (pl : IsPart vl none) (pu : IsPart vu none) (ps : IsPart vs (some (-1)))
    (h : Q (.ref s.heap.objs.size) { s with heap := s.heap.push { cls := .type "tuple", data := .seq items.toList.reverse.toArray } })
    (hsz : items.size ≤ sizeLine) : wpAny (model prog w) A (getItem (.ref t) (.ref sl)) Q E s := by
  have hok : sizeOk (.seq items.toList.reverse.toArray) := by
    show items.toList.reverse.toArray.size ≤ sizeLine
    rw [List.size_toArray, List.length_reverse, Array.length_toList]
    exact hsz
  obtain ⟨os, hos, hcs, hds⟩ := id hs
  have hTs : s.TypeIs (.ref sl) "slice" := ⟨os, hos, hcs⟩
  unfold getItem
  try with_reducible refine wpAny_holding ?_
  first | refine wpAny_bind (wpAny_pure ?_) | skip
  refine wpAny_bind (wpAny_sequenceKey ht.typeIs (by decide) ?_)
  refine wpAny_bind (wpAny_callSpecial?_slot (name := Str.ofString "__getitem__") ht.typeIs PyProof.Rows.slot_tuple_getitem
    (wpAny_call_entry PyProof.Rows.slot_tuple_getitem ht.typeIs entry_tuple_getitem ?_ (args_tuple_getitem _ _)))
  show wpAny _ _ (Builtin.Tuple.tupleItemsOf (.ref t) >>= _) _ _ s
  refine wpAny_bind (tupleItemsOf_ ht ?_)
  refine wpAny_bind (wpAny_typeOf hTs ?_)
  rw [if_pos (by decide)]
  refine wpAny_bind (applied_rev hs pl pu ps ?_)
  have hno : ¬ ((((items.size : Int) - 1) == 0 && (-1 : Int) == 1 && items.size == items.size) = true) := by
    intro q
    rw [Bool.and_eq_true, Bool.and_eq_true] at q
    exact absurd q.1.2 (by decide)
  show wpAny _ _ (if (((items.size : Int) - 1) == 0 && (-1 : Int) == 1 && items.size == items.size) = true then _ else _) _ _ s
  rw [if_neg hno, pick_rev]
  first
    | exact wpAny_bind (m := Builtin.Tuple.tupleExact _) (wpAny_newObj_type (wpAny_pure ⟨_, rfl, wpAny_pure h⟩) hok)
    | exact wpAny_bind (m := Builtin.Tuple.tupleExact _) (wpAny_newObj_type (wpAny_bind (wpAny_pure (wpAny_pure ⟨_, rfl, wpAny_pure h⟩))) hok)
    | exact wpAny_bind (wpAny_bind (m := Builtin.Tuple.tupleExact _) (wpAny_newObj_type (wpAny_pure (wpAny_pure ⟨_, rfl, wpAny_pure h⟩)) hok))
    | exact wpAny_bind (wpAny_bind (m := Builtin.Tuple.tupleExact _) (wpAny_newObj_type (wpAny_pure ⟨_, rfl, wpAny_pure h⟩) hok))
end
section
variable {X : Cx}
def tRevT (K : PySem.W.Frag) (te : TE) : TE := fun σ H Q => te σ H fun x H1 => ∃ a xs, x = .ref a ∧ SqT K H1 a xs ∧ ∀ p, H1 p = none → Q (.ref p) (upd H1 p (.tup xs.reverse))
theorem pe_revT0 {e : Expr} {te : TE} {k : Nat} {p1 p2 p3 pos : Pos} (he : PE X e te) : PE X (.Subscript e (.Slice none none (some (.UnaryOp .USub (.Constant (.int 1) k p1) p2)) p3) pos) (tRevT X.K te) := by
  refine ⟨fun pins s σ H Q I h => ?_⟩
  refine Subscript_ (thn (he.run pins s σ H _ I h) fun v s1 ⟨x, H1, I1, r1, q1⟩ => ?_)
  obtain ⟨a, xs, ex, hx, q⟩ := q1
  subst ex
  cases r1
  have hst : PO X (some (.UnaryOp .USub (.Constant (.int 1) k p1) p2)) (tPart (tUn (rU fun i => .int (-i)) (tC (.int 1)))) := po_some (pe_un un_neg pe_int)
  refine wpAny_Slice (thn (po_none.run pins s1 σ H1 (fun o H2 => o = none ∧ H2 = H1) I1 ⟨rfl, rfl⟩) fun vl s2 ⟨l, H2, I2, pl, el, e2⟩ => ?_)
  subst el e2
  refine thn (po_none.run pins s2 σ H2 (fun o H3 => o = none ∧ H3 = H2) I2 ⟨rfl, rfl⟩) fun vu s3 ⟨u, H3, I3, pu, eu, e3⟩ => ?_
  subst eu e3
  refine thn (hst.run pins s3 σ H3 (fun o H4 => o = some (-1) ∧ H4 = H3) I3 ⟨1, rfl, -1, rfl, rfl, rfl⟩) fun vs s4 ⟨o, H4, I4, ps, eo, e4⟩ => ?_
  subst eo e4
  have I5 : Inv X pins σ H4 { s4 with heap := s4.heap.push { cls := .type "slice", data := .fields #[vl, vu, vs] } } := I4.kept (t' := s4.toks) fun b ob q => Heap.get?_push_of_some _ q
  obtain ⟨its, r, ht, hz⟩ := I5.tuple hx
  have hlen := r.length
  show wpAny (model X.prog X.w) X.A (subscriptTail e (.Slice none none (some (.UnaryOp .USub (.Constant (.int 1) k p1) p2)) p3) (.ref a) (.ref s4.heap.objs.size)) (EP X pins σ Q) X.xe { s4 with heap := s4.heap.push { cls := .type "slice", data := .fields #[vl, vu, vs] } }
  refine tail_any (ops := [.ref a, .ref s4.heap.objs.size]) ht.typeIs (PyProof.Rows.slot_tuple_getitem.lookup) ?_ (by with_unfolding_all rfl)
  refine getItem_rev ht (Heap.IsSliceOf.new _ vl vu vs) pl pu ps ?_ (by rw [List.size_toArray]; omega)
  refine ⟨.ref _, _, I5.laid (t' := s4.toks) (o := .tup xs.reverse) (fun b ob q => Heap.get?_push_of_some _ q) (Nat.le_refl _) ?_, rfl, q _ (I5.hok.fresh (Nat.le_refl _))⟩
  exact ⟨by rw [List.length_reverse]; exact hz, _, r.reverse, IsTup.new _ _⟩
theorem pe_revT {K : PySem.W.Frag} {e : Expr} {te : TE} {k : Nat} {p1 p2 p3 pos : Pos} (hK : X.K = K) (he : PE X e te) : PE X (.Subscript e (.Slice none none (some (.UnaryOp .USub (.Constant (.int 1) k p1) p2)) p3) pos) (tRevT K te) := by
  subst hK
  exact pe_revT0 he
end
end RV
local macro_rules | `(tactic| walk_at "u1") => `(tactic| first
  | (with_reducible refine U.g_seq ?_) | (with_reducible refine U.g_asg ?_) | (with_reducible refine U.g_name ?_) | (with_reducible refine U.g_op ?_) | ((with_reducible refine' U.g_var ?k1 ?k2); (case k1 => exact rfl)) | (with_reducible refine U.g_c ?_)
  | (with_reducible refine U.g_cons ?_) | (with_reducible refine U.g_nil ?_) | (with_reducible refine U.g_cb ?_) | (with_reducible refine U.g_call ?_) | (with_reducible refine U.g_ret ?_) | (with_reducible refine U.g_drop ?_)
  | (with_reducible refine U.g_ifS ?_) | (with_reducible refine U.g_if ?_) | (with_reducible refine U.g_test ?_) | (with_reducible refine U.g_B ?_) | (with_reducible refine U.g_un ?_) | (with_reducible refine U.g_next ?_)
  | (with_reducible refine U.g_bl ?_) | (with_reducible refine U.g_blP ?_) | (with_reducible refine U.g_addI ?_) | (with_reducible refine U.g_subI ?_) | (with_reducible refine U.g_cmpI ?_) | (with_reducible refine U.g_intI ?_) | (with_reducible refine U.g_intB ?_)
  | (with_reducible refine U.g_absI ?_) | (with_reducible refine U.g_negI ?_) | (with_reducible refine U.g_mmI ?_) | (with_reducible refine U.g_and ?_) | (with_reducible refine U.g_or ?_) | (with_reducible refine U.g_not ?_) | (with_reducible refine U.g_andV ?_) | (with_reducible refine U.g_orV ?_) | (with_reducible refine U.g_notV ?_)
  | (with_reducible refine U.g_lst ?_) | (with_reducible refine U.g_tup ?_) | (with_reducible refine U.g_sub ?_) | (with_reducible refine U.g_lrg ?_) | (with_reducible refine U.g_rg1 ?_) | (with_reducible refine U.g_intE ?_) | (with_reducible refine U.g_sl ?_) | (with_reducible refine U.g_noP ?_) | (with_reducible refine U.g_part ?_) | (with_reducible refine U.g_lc ?_) | (with_reducible refine U.g_for ?_) | (with_reducible refine U.g_iList ?_) | (with_reducible refine U.g_iTup ?_) | (with_reducible refine U.g_iRng1 ?_) | (with_reducible refine U.g_iStr ?_) | (with_reducible refine U.g_iEnum ?_) | (with_reducible refine U.g_iVals ?_)
  | (with_reducible refine U.g_dnotin ?_) | (with_reducible refine U.g_din ?_) | (with_reducible refine U.g_dget ?_) | (with_reducible refine U.g_dput ?_) | (with_reducible refine U.g_bm ?_) | (with_reducible refine U.g_bm0 ?_) | (with_reducible refine U.g_dnewK ?_)
  | (with_reducible refine U.g_gcons ?_) | (with_reducible refine U.g_gnil ?_) | (with_reducible refine U.g_par ?_) | (with_reducible refine U.e_two ?_)
  | ((with_reducible refine' U.g_gtup ?k1 ?k2 ?k3); (case k1 => exact L2.SqT.of (by walk_at "hp")); (case k2 => exact rfl))
  | ((with_reducible refine' U.ty_lst ?k1 ?k2); (case k1 => walk_at "hp"))
  | (with_reducible refine U.g_strS ?_) | ((with_reducible refine' U.g_strI ?k1 ?k2); (case k1 => first | decide | omega))
  | (with_reducible refine U.g_nT ?_) | (with_reducible refine U.g_nF ?_) | (with_reducible refine U.g_chain ?_) | (with_reducible refine U.g_m1 ?_) | (with_reducible refine U.e_strE ?_) | (with_reducible refine U.g_disp ?_) | (with_reducible refine U.g_pcons ?_) | (with_reducible refine U.g_pnil ?_) | (with_reducible refine U.e_non ?_) | (with_reducible refine U.g_iRng2 ?_) | (with_reducible refine U.g_par3 ?_) | (with_reducible refine ZT.g_iZipX ?_) | (with_reducible refine U.e_three ?_) | (with_reducible refine ET.g_iEnumT ?_) | (with_reducible refine MD.g_ckw ?_) | (with_reducible refine M.g_fld ?_) | (with_reducible refine M.g_sfld ?_) | (with_reducible refine ZV.g_meth ?_) | (with_reducible refine KW.g_K0 ?_) | (with_reducible refine U.g_yes ?_) | (with_reducible refine U.g_cont ?_) | (with_reducible refine U.g_T ?_) | (with_reducible refine U.g_F ?_)
  | ((with_reducible refine' U.g_modI ?k1 ?k2); (case k1 => first | assumption | decide | omega))
  | ((with_reducible refine' U.g_divP ?k1 ?k2 ?k3); (case k1 => first | assumption | decide | omega); (case k2 => first | assumption | decide | omega))
  | (with_reducible refine U.g_mulB ?_) | (with_reducible refine U.g_powL (by decide +kernel) ?_) | (with_reducible refine U.g_modL (by decide +kernel) ?_)
  | ((with_reducible refine' U.g_mulL ?k1 ?k2); (case k1 => first | decide | omega))
  | ((with_reducible refine' U.g_mulR ?k1 ?k2); (case k1 => first | decide | omega))
  | ((with_reducible refine' U.g_ix ?k1 ?k2 ?k3); (case k1 => walk_at "sq"); (case k2 => exact rfl))
  | ((with_reducible refine' U.g_setL ?k1 ?k2 ?k3); (case k1 => walk_at "hp"); (case k2 => exact rfl))
  | ((with_reducible refine' U.g_eqS ?k1 ?k2); (case k1 => rfl)))
/-- what stands at an address, behind stores -/
local macro_rules | `(tactic| walk_at "hp") => `(tactic| first
  | assumption
  | ((with_reducible refine' U.get_same ?k1); (case k1 => exact rfl))
  | ((with_reducible refine' U.get_new ?k1 ?k2); (case k1 => assumption); (case k2 => walk_at "hp"))
  | ((with_reducible refine' U.get_ne ?k1 ?k2); (case k1 => first | assumption | (apply Ne.symm; assumption)); (case k2 => walk_at "hp")))
local macro_rules | `(tactic| walk_at "sq") => `(tactic| first
  | assumption | exact Or.inl (by assumption) | exact Or.inr (by assumption)
  | exact Or.inl (L2.SqL.of (by walk_at "hp")) | exact Or.inr (L2.SqT.of (by walk_at "hp")))
local macro_rules | `(tactic| walk_at "st") => `(tactic| dsimp only [L2.cxOf, L2.start, List.map, List.length, List.replicate, HAppend.hAppend, Append.append, List.append, Nat.reduceAdd, Nat.reduceSub])
local macro_rules | `(tactic| walk_at "ds") => `(tactic| try dsimp only [List.set, Int.reduceToNat])
local macro_rules | `(tactic| walk_at "go") => `(tactic| ((try dsimp only); (repeat walk_at "u1"); walk_at "ds"))
local macro_rules | `(tactic| walk_at "c2") => `(tactic| (refine U.g_2 (fun c => ?_) (fun c => ?_) <;> (try simp only [decide_eq_true_eq, decide_eq_false_iff_not, Bool.not_eq_true', Bool.not_eq_false'] at c)))
namespace Toy
open PySem L2 U
/-! ### the text by places -/
def top (i : Nat) : Stmt := PySem.Challenge.pw_alikecrowds_k22_whole_least_loss_on_a_li.main.body.getD i (.Pass ⟨0, 0, 0, 0⟩)
abbrev s_CrowdError___init__ : Stmt := (inClass (top 1) 0)
abbrev s_is_integer : Stmt := (top 6)
abbrev s_is_number_below : Stmt := (top 7)
abbrev s_is_ascending : Stmt := (top 8)
abbrev s_is_lot_below : Stmt := (top 9)
abbrev s_is_tuple_of : Stmt := (top 10)
abbrev s_is_line_value : Stmt := (top 11)
abbrev s_Ladder___init__ : Stmt := (inClass (top 15) 0)
abbrev s_Ladder_loss : Stmt := (inClass (top 15) 1)
abbrev s_Ladder_middles : Stmt := (inClass (top 15) 2)
abbrev s_Ladder_first_losses : Stmt := (inClass (top 15) 3)
abbrev s_Ladder_least_stretches : Stmt := (inClass (top 15) 4)
abbrev s_Ladder_crowd : Stmt := (inClass (top 15) 5)
abbrev s_ladder_of : Stmt := (top 16)
abbrev s_sized_ladder : Stmt := (top 17)
abbrev s_has_crowds : Stmt := (top 18)
abbrev s_parts_places : Stmt := (top 19)
abbrev s_are_shown : Stmt := (top 20)
abbrev s_loss_shown : Stmt := (top 21)
abbrev s_least_line : Stmt := (top 22)
abbrev s_shows_line : Stmt := (top 23)
abbrev s__law_pot : Stmt := (top 25)
abbrev s__law_take : Stmt := (top 26)
abbrev s__law_of : Stmt := (top 27)
abbrev s__law_cells : Stmt := (top 28)
abbrev s__law_line_values : Stmt := (top 29)
abbrev s__law_crowd_cost : Stmt := (top 30)
abbrev s__law_cut_costs : Stmt := (top 31)
abbrev s__law_least : Stmt := (top 32)
abbrev s__law_partings : Stmt := (top 33)
abbrev s__law_is_int : Stmt := (top 34)
abbrev s__law_are_crowds : Stmt := (top 35)
abbrev s__law_loss : Stmt := (top 36)
abbrev s__law_may_line : Stmt := (top 37)
abbrev s__law_all_least : Stmt := (top 38)
abbrev s__law_near : Stmt := (top 39)
abbrev s__law_is_right : Stmt := (top 40)
abbrev s__law_right : Stmt := (top 41)
abbrev s_law : Stmt := (top 42)
/-! ### what the top has written -/
structure Tx (K : PySem.W.Frag) (mg : Str → Option Value) where
  a_CrowdError___init__ : Addr
  fd_CrowdError___init__ : FuncData
  F_CrowdError___init__ : Fun K "__init__" "CrowdError.__init__" s_CrowdError___init__ a_CrowdError___init__ fd_CrowdError___init__
  a_is_integer : Addr
  fd_is_integer : FuncData
  F_is_integer : Fun K "is_integer" "is_integer" s_is_integer a_is_integer fd_is_integer
  m_is_integer : mg "is_integer" = some (.ref a_is_integer)
  a_is_number_below : Addr
  fd_is_number_below : FuncData
  F_is_number_below : Fun K "is_number_below" "is_number_below" s_is_number_below a_is_number_below fd_is_number_below
  m_is_number_below : mg "is_number_below" = some (.ref a_is_number_below)
  a_is_ascending : Addr
  fd_is_ascending : FuncData
  F_is_ascending : Fun K "is_ascending" "is_ascending" s_is_ascending a_is_ascending fd_is_ascending
  m_is_ascending : mg "is_ascending" = some (.ref a_is_ascending)
  a_is_lot_below : Addr
  fd_is_lot_below : FuncData
  F_is_lot_below : Fun K "is_lot_below" "is_lot_below" s_is_lot_below a_is_lot_below fd_is_lot_below
  m_is_lot_below : mg "is_lot_below" = some (.ref a_is_lot_below)
  a_is_tuple_of : Addr
  fd_is_tuple_of : FuncData
  F_is_tuple_of : Fun K "is_tuple_of" "is_tuple_of" s_is_tuple_of a_is_tuple_of fd_is_tuple_of
  m_is_tuple_of : mg "is_tuple_of" = some (.ref a_is_tuple_of)
  a_is_line_value : Addr
  fd_is_line_value : FuncData
  F_is_line_value : Fun K "is_line_value" "is_line_value" s_is_line_value a_is_line_value fd_is_line_value
  m_is_line_value : mg "is_line_value" = some (.ref a_is_line_value)
  a_Ladder___init__ : Addr
  fd_Ladder___init__ : FuncData
  F_Ladder___init__ : Fun K "__init__" "Ladder.__init__" s_Ladder___init__ a_Ladder___init__ fd_Ladder___init__
  a_Ladder_loss : Addr
  fd_Ladder_loss : FuncData
  F_Ladder_loss : Fun K "loss" "Ladder.loss" s_Ladder_loss a_Ladder_loss fd_Ladder_loss
  a_Ladder_middles : Addr
  fd_Ladder_middles : FuncData
  F_Ladder_middles : Fun K "middles" "Ladder.middles" s_Ladder_middles a_Ladder_middles fd_Ladder_middles
  a_Ladder_first_losses : Addr
  fd_Ladder_first_losses : FuncData
  F_Ladder_first_losses : Fun K "first_losses" "Ladder.first_losses" s_Ladder_first_losses a_Ladder_first_losses fd_Ladder_first_losses
  a_Ladder_least_stretches : Addr
  fd_Ladder_least_stretches : FuncData
  F_Ladder_least_stretches : Fun K "least_stretches" "Ladder.least_stretches" s_Ladder_least_stretches a_Ladder_least_stretches fd_Ladder_least_stretches
  a_Ladder_crowd : Addr
  fd_Ladder_crowd : FuncData
  F_Ladder_crowd : Fun K "crowd" "Ladder.crowd" s_Ladder_crowd a_Ladder_crowd fd_Ladder_crowd
  a_ladder_of : Addr
  fd_ladder_of : FuncData
  F_ladder_of : Fun K "ladder_of" "ladder_of" s_ladder_of a_ladder_of fd_ladder_of
  m_ladder_of : mg "ladder_of" = some (.ref a_ladder_of)
  a_sized_ladder : Addr
  fd_sized_ladder : FuncData
  F_sized_ladder : Fun K "sized_ladder" "sized_ladder" s_sized_ladder a_sized_ladder fd_sized_ladder
  m_sized_ladder : mg "sized_ladder" = some (.ref a_sized_ladder)
  a_has_crowds : Addr
  fd_has_crowds : FuncData
  F_has_crowds : Fun K "has_crowds" "has_crowds" s_has_crowds a_has_crowds fd_has_crowds
  m_has_crowds : mg "has_crowds" = some (.ref a_has_crowds)
  a_parts_places : Addr
  fd_parts_places : FuncData
  F_parts_places : Fun K "parts_places" "parts_places" s_parts_places a_parts_places fd_parts_places
  m_parts_places : mg "parts_places" = some (.ref a_parts_places)
  a_are_shown : Addr
  fd_are_shown : FuncData
  F_are_shown : Fun K "are_shown" "are_shown" s_are_shown a_are_shown fd_are_shown
  m_are_shown : mg "are_shown" = some (.ref a_are_shown)
  a_loss_shown : Addr
  fd_loss_shown : FuncData
  F_loss_shown : Fun K "loss_shown" "loss_shown" s_loss_shown a_loss_shown fd_loss_shown
  m_loss_shown : mg "loss_shown" = some (.ref a_loss_shown)
  a_least_line : Addr
  fd_least_line : FuncData
  F_least_line : Fun K "least_line" "least_line" s_least_line a_least_line fd_least_line
  m_least_line : mg "least_line" = some (.ref a_least_line)
  a_shows_line : Addr
  fd_shows_line : FuncData
  F_shows_line : Fun K "shows_line" "shows_line" s_shows_line a_shows_line fd_shows_line
  m_shows_line : mg "shows_line" = some (.ref a_shows_line)
  a__law_pot : Addr
  fd__law_pot : FuncData
  F__law_pot : Fun K "_law_pot" "_law_pot" s__law_pot a__law_pot fd__law_pot
  m__law_pot : mg "_law_pot" = some (.ref a__law_pot)
  a__law_take : Addr
  fd__law_take : FuncData
  F__law_take : Fun K "_law_take" "_law_take" s__law_take a__law_take fd__law_take
  m__law_take : mg "_law_take" = some (.ref a__law_take)
  a__law_of : Addr
  fd__law_of : FuncData
  F__law_of : Fun K "_law_of" "_law_of" s__law_of a__law_of fd__law_of
  m__law_of : mg "_law_of" = some (.ref a__law_of)
  a__law_cells : Addr
  fd__law_cells : FuncData
  F__law_cells : Fun K "_law_cells" "_law_cells" s__law_cells a__law_cells fd__law_cells
  m__law_cells : mg "_law_cells" = some (.ref a__law_cells)
  a__law_line_values : Addr
  fd__law_line_values : FuncData
  F__law_line_values : Fun K "_law_line_values" "_law_line_values" s__law_line_values a__law_line_values fd__law_line_values
  m__law_line_values : mg "_law_line_values" = some (.ref a__law_line_values)
  a__law_crowd_cost : Addr
  fd__law_crowd_cost : FuncData
  F__law_crowd_cost : Fun K "_law_crowd_cost" "_law_crowd_cost" s__law_crowd_cost a__law_crowd_cost fd__law_crowd_cost
  m__law_crowd_cost : mg "_law_crowd_cost" = some (.ref a__law_crowd_cost)
  a__law_cut_costs : Addr
  fd__law_cut_costs : FuncData
  F__law_cut_costs : Fun K "_law_cut_costs" "_law_cut_costs" s__law_cut_costs a__law_cut_costs fd__law_cut_costs
  m__law_cut_costs : mg "_law_cut_costs" = some (.ref a__law_cut_costs)
  a__law_least : Addr
  fd__law_least : FuncData
  F__law_least : Fun K "_law_least" "_law_least" s__law_least a__law_least fd__law_least
  m__law_least : mg "_law_least" = some (.ref a__law_least)
  a__law_partings : Addr
  fd__law_partings : FuncData
  F__law_partings : Fun K "_law_partings" "_law_partings" s__law_partings a__law_partings fd__law_partings
  m__law_partings : mg "_law_partings" = some (.ref a__law_partings)
  a__law_is_int : Addr
  fd__law_is_int : FuncData
  F__law_is_int : Fun K "_law_is_int" "_law_is_int" s__law_is_int a__law_is_int fd__law_is_int
  m__law_is_int : mg "_law_is_int" = some (.ref a__law_is_int)
  a__law_are_crowds : Addr
  fd__law_are_crowds : FuncData
  F__law_are_crowds : Fun K "_law_are_crowds" "_law_are_crowds" s__law_are_crowds a__law_are_crowds fd__law_are_crowds
  m__law_are_crowds : mg "_law_are_crowds" = some (.ref a__law_are_crowds)
  a__law_loss : Addr
  fd__law_loss : FuncData
  F__law_loss : Fun K "_law_loss" "_law_loss" s__law_loss a__law_loss fd__law_loss
  m__law_loss : mg "_law_loss" = some (.ref a__law_loss)
  a__law_may_line : Addr
  fd__law_may_line : FuncData
  F__law_may_line : Fun K "_law_may_line" "_law_may_line" s__law_may_line a__law_may_line fd__law_may_line
  m__law_may_line : mg "_law_may_line" = some (.ref a__law_may_line)
  a__law_all_least : Addr
  fd__law_all_least : FuncData
  F__law_all_least : Fun K "_law_all_least" "_law_all_least" s__law_all_least a__law_all_least fd__law_all_least
  m__law_all_least : mg "_law_all_least" = some (.ref a__law_all_least)
  a__law_near : Addr
  fd__law_near : FuncData
  F__law_near : Fun K "_law_near" "_law_near" s__law_near a__law_near fd__law_near
  m__law_near : mg "_law_near" = some (.ref a__law_near)
  a__law_is_right : Addr
  fd__law_is_right : FuncData
  F__law_is_right : Fun K "_law_is_right" "_law_is_right" s__law_is_right a__law_is_right fd__law_is_right
  m__law_is_right : mg "_law_is_right" = some (.ref a__law_is_right)
  a__law_right : Addr
  fd__law_right : FuncData
  F__law_right : Fun K "_law_right" "_law_right" s__law_right a__law_right fd__law_right
  m__law_right : mg "_law_right" = some (.ref a__law_right)
  a_law : Addr
  fd_law : FuncData
  F_law : Fun K "law" "law" s_law a_law fd_law
  m_law : mg "law" = some (.ref a_law)
  C_Ladder : Addr
  m_Ladder : mg "Ladder" = some (.ref C_Ladder)
  cl_Ladder : Cls K C_Ladder
  M_Ladder : Mk K C_Ladder a_Ladder___init__
  me_Ladder_loss : Meth K C_Ladder "loss" a_Ladder_loss
  me_Ladder_middles : Meth K C_Ladder "middles" a_Ladder_middles
  me_Ladder_first_losses : Meth K C_Ladder "first_losses" a_Ladder_first_losses
  me_Ladder_least_stretches : Meth K C_Ladder "least_stretches" a_Ladder_least_stretches
  me_Ladder_crowd : Meth K C_Ladder "crowd" a_Ladder_crowd
  na_Ladder_ascending : NoAttr K C_Ladder "ascending"
  na_Ladder_places : NoAttr K C_Ladder "places"
  na_Ladder_sums : NoAttr K C_Ladder "sums"
  m_FARTHEST : ∃ t, mg "FARTHEST" = some (.int 1000000 t)
  m_MOST_SIZE : ∃ t, mg "MOST_SIZE" = some (.int 200 t)
  m_MOST_VALUES : ∃ t, mg "MOST_VALUES" = some (.int 200 t)
  n_abs : mg "abs" = none
  n_all : mg "all" = none
  n_bool : mg "bool" = none
  n_enumerate : mg "enumerate" = none
  n_int : mg "int" = none
  n_isinstance : mg "isinstance" = none
  n_len : mg "len" = none
  n_list : mg "list" = none
  n_max : mg "max" = none
  n_min : mg "min" = none
  n_range : mg "range" = none
  n_repr : mg "repr" = none
  n_sorted : mg "sorted" = none
  n_sum : mg "sum" = none
  n_tuple : mg "tuple" = none
  n_zip : mg "zip" = none
section
variable {K : PySem.W.Frag} {mg : Str → Option Value}
theorem b_CrowdError___init__ (T : Tx K mg) : Binds K T.fd_CrowdError___init__ ["self", "value"] [] := T.F_CrowdError___init__.binds fun _ _ _ _ _ _ us hl => match us, hl with | [_, _], _ => rfl
theorem b_is_integer (T : Tx K mg) : Binds K T.fd_is_integer ["value"] [] := T.F_is_integer.binds fun _ _ _ _ _ _ us hl => match us, hl with | [_], _ => rfl
theorem b_is_number_below (T : Tx K mg) : Binds K T.fd_is_number_below ["many", "value"] [] := T.F_is_number_below.binds fun _ _ _ _ _ _ us hl => match us, hl with | [_, _], _ => rfl
theorem b_is_ascending (T : Tx K mg) : Binds K T.fd_is_ascending ["parts"] [] := T.F_is_ascending.binds fun _ _ _ _ _ _ us hl => match us, hl with | [_], _ => rfl
theorem b_is_lot_below (T : Tx K mg) : Binds K T.fd_is_lot_below ["many", "value"] [] := T.F_is_lot_below.binds fun _ _ _ _ _ _ us hl => match us, hl with | [_, _], _ => rfl
theorem b_is_tuple_of (T : Tx K mg) : Binds K T.fd_is_tuple_of ["value", "many"] [] := T.F_is_tuple_of.binds fun _ _ _ _ _ _ us hl => match us, hl with | [_, _], _ => rfl
theorem b_is_line_value (T : Tx K mg) : Binds K T.fd_is_line_value ["value"] [] := T.F_is_line_value.binds fun _ _ _ _ _ _ us hl => match us, hl with | [_], _ => rfl
theorem b_Ladder___init__ (T : Tx K mg) : Binds K T.fd_Ladder___init__ ["self", "values"] [] := T.F_Ladder___init__.binds fun _ _ _ _ _ _ us hl => match us, hl with | [_, _], _ => rfl
theorem b_Ladder_loss (T : Tx K mg) : Binds K T.fd_Ladder_loss ["self", "begin", "end"] [] := T.F_Ladder_loss.binds fun _ _ _ _ _ _ us hl => match us, hl with | [_, _, _], _ => rfl
theorem b_Ladder_middles (T : Tx K mg) : Binds K T.fd_Ladder_middles ["self", "begin", "end"] [] := T.F_Ladder_middles.binds fun _ _ _ _ _ _ us hl => match us, hl with | [_, _, _], _ => rfl
theorem b_Ladder_first_losses (T : Tx K mg) : Binds K T.fd_Ladder_first_losses ["self", "size"] [] := T.F_Ladder_first_losses.binds fun _ _ _ _ _ _ us hl => match us, hl with | [_, _], _ => rfl
theorem b_Ladder_least_stretches (T : Tx K mg) : Binds K T.fd_Ladder_least_stretches ["self", "size"] [] := T.F_Ladder_least_stretches.binds fun _ _ _ _ _ _ us hl => match us, hl with | [_, _], _ => rfl
theorem b_Ladder_crowd (T : Tx K mg) : Binds K T.fd_Ladder_crowd ["self", "begin", "end"] [] := T.F_Ladder_crowd.binds fun _ _ _ _ _ _ us hl => match us, hl with | [_, _, _], _ => rfl
theorem b_ladder_of (T : Tx K mg) : Binds K T.fd_ladder_of ["values"] [] := T.F_ladder_of.binds fun _ _ _ _ _ _ us hl => match us, hl with | [_], _ => rfl
theorem b_sized_ladder (T : Tx K mg) : Binds K T.fd_sized_ladder ["values", "size"] [] := T.F_sized_ladder.binds fun _ _ _ _ _ _ us hl => match us, hl with | [_, _], _ => rfl
theorem b_has_crowds (T : Tx K mg) : Binds K T.fd_has_crowds ["values", "size"] [] := T.F_has_crowds.binds fun _ _ _ _ _ _ us hl => match us, hl with | [_, _], _ => rfl
theorem b_parts_places (T : Tx K mg) : Binds K T.fd_parts_places ["values", "size", "crowds"] [] := T.F_parts_places.binds fun _ _ _ _ _ _ us hl => match us, hl with | [_, _, _], _ => rfl
theorem b_are_shown (T : Tx K mg) : Binds K T.fd_are_shown ["crowds", "shown"] [] := T.F_are_shown.binds fun _ _ _ _ _ _ us hl => match us, hl with | [_, _], _ => rfl
theorem b_loss_shown (T : Tx K mg) : Binds K T.fd_loss_shown ["values", "crowds", "shown"] [] := T.F_loss_shown.binds fun _ _ _ _ _ _ us hl => match us, hl with | [_, _, _], _ => rfl
theorem b_least_line (T : Tx K mg) : Binds K T.fd_least_line ["values", "size"] [] := T.F_least_line.binds fun _ _ _ _ _ _ us hl => match us, hl with | [_, _], _ => rfl
theorem b_shows_line (T : Tx K mg) : Binds K T.fd_shows_line ["values", "size", "value"] [] := T.F_shows_line.binds fun _ _ _ _ _ _ us hl => match us, hl with | [_, _, _], _ => rfl
theorem b__law_pot (T : Tx K mg) : Binds K T.fd__law_pot ["script", "place"] [] := T.F__law_pot.binds fun _ _ _ _ _ _ us hl => match us, hl with | [_, _], _ => rfl
theorem b__law_take (T : Tx K mg) : Binds K T.fd__law_take ["pot", "upto"] [] := T.F__law_take.binds fun _ _ _ _ _ _ us hl => match us, hl with | [_, _], _ => rfl
theorem b__law_of (T : Tx K mg) : Binds K T.fd__law_of ["pot", "some"] [] := T.F__law_of.binds fun _ _ _ _ _ _ us hl => match us, hl with | [_, _], _ => rfl
theorem b__law_cells (T : Tx K mg) : Binds K T.fd__law_cells ["script", "most"] [] := T.F__law_cells.binds fun _ _ _ _ _ _ us hl => match us, hl with | [_, _], _ => rfl
theorem b__law_line_values (T : Tx K mg) : Binds K T.fd__law_line_values ["pot", "most"] [] := T.F__law_line_values.binds fun _ _ _ _ _ _ us hl => match us, hl with | [_, _], _ => rfl
theorem b__law_crowd_cost (T : Tx K mg) : Binds K T.fd__law_crowd_cost ["members"] [] := T.F__law_crowd_cost.binds fun _ _ _ _ _ _ us hl => match us, hl with | [_], _ => rfl
theorem b__law_cut_costs (T : Tx K mg) : Binds K T.fd__law_cut_costs ["values", "least"] [] := T.F__law_cut_costs.binds fun _ _ _ _ _ _ us hl => match us, hl with | [_, _], _ => rfl
theorem b__law_least (T : Tx K mg) : Binds K T.fd__law_least ["values", "least"] [] := T.F__law_least.binds fun _ _ _ _ _ _ us hl => match us, hl with | [_, _], _ => rfl
theorem b__law_partings (T : Tx K mg) : Binds K T.fd__law_partings ["amount", "least"] [] := T.F__law_partings.binds fun _ _ _ _ _ _ us hl => match us, hl with | [_, _], _ => rfl
theorem b__law_is_int (T : Tx K mg) : Binds K T.fd__law_is_int ["thing"] [] := T.F__law_is_int.binds fun _ _ _ _ _ _ us hl => match us, hl with | [_], _ => rfl
theorem b__law_are_crowds (T : Tx K mg) : Binds K T.fd__law_are_crowds ["amount", "least", "value"] [] := T.F__law_are_crowds.binds fun _ _ _ _ _ _ us hl => match us, hl with | [_, _, _], _ => rfl
theorem b__law_loss (T : Tx K mg) : Binds K T.fd__law_loss ["values", "crowds", "shown"] [] := T.F__law_loss.binds fun _ _ _ _ _ _ us hl => match us, hl with | [_, _, _], _ => rfl
theorem b__law_may_line (T : Tx K mg) : Binds K T.fd__law_may_line ["values", "least", "best", "value"] [] := T.F__law_may_line.binds fun _ _ _ _ _ _ us hl => match us, hl with | [_, _, _, _], _ => rfl
theorem b__law_all_least (T : Tx K mg) : Binds K T.fd__law_all_least ["values", "least"] [] := T.F__law_all_least.binds fun _ _ _ _ _ _ us hl => match us, hl with | [_, _], _ => rfl
theorem b__law_near (T : Tx K mg) : Binds K T.fd__law_near ["pot", "values", "told"] [] := T.F__law_near.binds fun _ _ _ _ _ _ us hl => match us, hl with | [_, _, _], _ => rfl
theorem b__law_is_right (T : Tx K mg) : Binds K T.fd__law_is_right ["pot", "values", "least", "best"] [] := T.F__law_is_right.binds fun _ _ _ _ _ _ us hl => match us, hl with | [_, _, _, _], _ => rfl
theorem b__law_right (T : Tx K mg) : Binds K T.fd__law_right ["pot"] [] := T.F__law_right.binds fun _ _ _ _ _ _ us hl => match us, hl with | [_], _ => rfl
theorem b_law (T : Tx K mg) : Binds K T.fd_law ["script"] [] := T.F_law.binds fun _ _ _ _ _ _ us hl => match us, hl with | [_], _ => rfl
end
end Toy

namespace Toy
open PySem L2 U M
section
variable {P : Program} {w : World} {K : PySem.W.Frag} {mg : Str → Option Value} {base : Heap}
theorem sc_is_integer : FnScope ["value"] ["value"] (defScope s_is_integer) := ⟨rfl, rfl, rfl, by decide +kernel, rfl, by decide +kernel, by decide +kernel⟩
def sp_is_integer (K : PySem.W.Frag) : Sp := fun vs H Q _ => ∃ (x : V) (t : String) (b1 b2 : Bool), vs = [x] ∧ TyX K H x (.type t) ∧ kitB t "int" = some b1 ∧ kitB t "bool" = some b2 ∧ Q (.bl (b1 && !b2)) H
theorem ok_is_integer (T : Tx K mg) : FnOk P w K mg base CX0 1 T.a_is_integer T.fd_is_integer ["value"] (sp_is_integer K) := by
  refine T.F_is_integer.ok sc_is_integer (fun vs H Q E h => ?_) (fun cdv A outer s H vs Q E hr h => ?_)
  · obtain ⟨x, t, b1, b2, rfl, _⟩ := h
    rfl
  · obtain ⟨x, t, b1, b2, rfl, ht, k1, k2, kk⟩ := h
    have hu := hu_of hr
    have hu64 := hr.units
    refine ⟨_, (pss_one (ps_ret (pe_and (pe_callB (call_uIsi (K := K) rfl) (by rfl) T.n_isinstance (by decide +kernel) (pa_cons (pv 0) (pa_cons (u_ty (n := "int") (by rfl) T.n_int (by decide +kernel)) pa_nil))) (pe_one (pe_not (pe_callB (call_uIsi (K := K) rfl) (by rfl) T.n_isinstance (by decide +kernel) (pa_cons (pv 0) (pa_cons (u_ty (n := "bool") (by rfl) T.n_bool (by decide +kernel)) pa_nil)))))))), ?_⟩
    walk_at "st"
    walk_at "go"
    refine e_isi ht k1 ?_
    walk_at "go"
    cases b1 with
    | true =>
      walk_at "go"
      refine e_isi ht k2 ?_
      walk_at "go"
      exact kk
    | false =>
      walk_at "go"
      exact kk
end
end Toy

namespace Toy
open PySem L2 U M
section
variable {P : Program} {w : World} {K : PySem.W.Frag} {mg : Str → Option Value} {base : Heap}
theorem sc_is_line_value : FnScope ["value"] ["value"] (defScope s_is_line_value) := ⟨rfl, rfl, rfl, by decide +kernel, rfl, by decide +kernel, by decide +kernel⟩
def sp_is_line_value (K : PySem.W.Frag) : Sp := fun vs H Q _ => ∃ (x : V), vs = [x] ∧ ((∃ z : Int, x = .int z ∧ Q (.bl (decide (-1000000 ≤ z) && decide (z ≤ 1000000))) H) ∨ (∃ (t : String) (b1 b2 : Bool), TyX K H x (.type t) ∧ kitB t "int" = some b1 ∧ kitB t "bool" = some b2 ∧ (b1 && !b2) = false ∧ Q (.bl false) H))
theorem ok_is_line_value (T : Tx K mg) : FnOk P w K mg base CX0 2 T.a_is_line_value T.fd_is_line_value ["value"] (sp_is_line_value K) := by
  refine T.F_is_line_value.ok sc_is_line_value (fun vs H Q E h => ?_) (fun cdv A outer s H vs Q E hr h => ?_)
  · obtain ⟨x, rfl, _⟩ := h
    rfl
  · obtain ⟨x, rfl, kk⟩ := h
    have hu := hu_of hr
    have hu64 := hr.units
    refine ⟨_, (pss_one (ps_ret (pe_and (pe_call (ok_is_integer T) (hr.mono (by decide)) rfl T.m_is_integer T.F_is_integer.kp (b_is_integer T) .nil pass0 (pa_cons (pv 0) pa_nil)) (pe_one (pe_chain op_uLe op_uLe (pe_un op_uNeg (u_constI (by rfl) T.m_FARTHEST)) (pv 0) (u_constI (by rfl) T.m_FARTHEST)))))), ?_⟩
    walk_at "st"
    walk_at "go"
    rcases kk with ⟨z, rfl, kk⟩ | ⟨t, b1, b2, ht, k1, k2, kb, kk⟩
    · refine ⟨.int z, "int", true, false, rfl, ty_int, by decide +kernel, by decide +kernel, ?_⟩
      refine ⟨true, rfl, ?_⟩
      rw [if_pos rfl]
      walk_at "go"
      by_cases c : -1000000 ≤ z
      · rw [if_pos (decide_eq_true c)]
        walk_at "go"
        rw [decide_eq_true c, Bool.true_and] at kk
        exact kk
      · rw [if_neg (by simpa using c)]
        rw [decide_eq_false c, Bool.false_and] at kk
        exact kk
    · refine ⟨x, t, b1, b2, rfl, ht, k1, k2, ?_⟩
      rw [kb]
      walk_at "go"
      exact kk
end
end Toy

namespace Toy
open PySem L2 U
/-! ### the pot: three numbers; n: how many draws it stands for still -/
def PotAt (H : Hp) (p : Addr) (n : Nat) : Prop := ∃ (o s : Int) (k : Nat), H p = some (.lst [.int o, .int s, .int k]) ∧ 0 ≤ o ∧ o < 10 ^ 300 ∧ 0 ≤ s ∧ s < 2 ^ 61 ∧ k + n ≤ 1000000
theorem PotAt.le {H : Hp} {p : Addr} {n m : Nat} (h : PotAt H p n) (l : m ≤ n) : PotAt H p m := by
  obtain ⟨o, s, k, a, b, c, d, e, f⟩ := h
  exact ⟨o, s, k, a, b, c, d, e, by omega⟩
section
variable {P : Program} {w : World} {K : PySem.W.Frag} {mg : Str → Option Value} {base : Heap}
theorem sc__law_take : FnScope ["pot", "upto", "digit", "prime", "blend"] ["pot", "upto"] (defScope s__law_take) := ⟨rfl, rfl, rfl, by decide +kernel, rfl, by decide +kernel, by decide +kernel⟩
def sp_take : Sp := fun vs H Q _ => ∃ (p : Addr) (u : Int) (n : Nat), vs = [.ref p, .int u] ∧ 0 < u ∧ u < 2 ^ 62 ∧ PotAt H p (n + 1) ∧ ∀ (r : Int) (H' : Hp), 0 ≤ r → r < u → PotAt H' p n → SB p H H' → Q (.int r) H'
theorem ok__law_take (T : Tx K mg) : FnOk P w K mg base CX0 1 T.a__law_take T.fd__law_take ["pot", "upto"] sp_take := by
  refine T.F__law_take.ok sc__law_take (fun vs H Q E h => ?_) (fun cdv A outer s H vs Q E hr h => ?_)
  · obtain ⟨p, u, n, rfl, _⟩ := h
    rfl
  · obtain ⟨p, u, n, rfl, u0, u1, ⟨ow, s, k, hp, h1, h2, h3, h4, h5⟩, kk⟩ := h
    have hu := hu_of hr
    have hu64 := hr.units
    refine ⟨_, (pss_cons (ps_if (pt_cmpR op_uGt (pe_ix (ix_u (K := K) rfl) (pv 0) (pe_int) (fun _ _ => rfl)) (pe_int) (nomark _)) (pss_cons (ps_set (i := 2) sc__law_take.nd rfl (Or.inl rfl) (pe_op op_uMod (pe_callTy call_uInt (by rfl) T.n_int (by decide +kernel) (pa_cons (pe_ix (ix_u (K := K) rfl) (pv 0) (pe_int) (fun _ _ => rfl)) pa_nil)) (pv 1)))
        (pss_cons (ps_asg (pe_op op_uDiv (pe_ix (ix_u (K := K) rfl) (pv 0) (pe_int) (fun _ _ => rfl)) (pv 1)) (pg_sub (pv 0) (pe_int) set_list))
        (pss_one (ps_ret (pv 2))))) pss_nil)
        (pss_cons (ps_asg (pe_op (op_uAdd (K := K) rfl) (pe_ix (ix_u (K := K) rfl) (pv 0) (pe_int) (fun _ _ => rfl)) (pe_int)) (pg_sub (pv 0) (pe_int) set_list))
        (pss_cons (ps_set (i := 3) sc__law_take.nd rfl (Or.inl rfl) (pe_ix (ix_u (K := K) rfl) (pe_lst (pa_cons (pe_int) (pa_cons (pe_int) (pa_cons (pe_int) (pa_cons (pe_int) (pa_cons (pe_int) pa_nil)))))) (pe_op op_uMod (pe_callTy call_uInt (by rfl) T.n_int (by decide +kernel) (pa_cons (pe_ix (ix_u (K := K) rfl) (pv 0) (pe_int) (fun _ _ => rfl)) pa_nil)) (pe_int)) (fun _ _ => rfl)))
        (pss_cons (ps_set (i := 4) sc__law_take.nd rfl (Or.inl rfl) (pe_op op_uMod (pe_callTy call_uInt (by rfl) T.n_int (by decide +kernel) (pa_cons (pe_op op_uPow (pe_callTy call_uInt (by rfl) T.n_int (by decide +kernel) (pa_cons (pe_op (op_uAdd (K := K) rfl) (pe_op (op_uAdd (K := K) rfl) (pe_ix (ix_u (K := K) rfl) (pv 0) (pe_int) (fun _ _ => rfl)) (pe_op op_uMul (pe_op op_uMul (pe_int) (pe_ix (ix_u (K := K) rfl) (pv 0) (pe_int) (fun _ _ => rfl))) (pe_ix (ix_u (K := K) rfl) (pv 0) (pe_int) (fun _ _ => rfl)))) (pe_int)) pa_nil)) (pe_int)) pa_nil)) (pv 3)))
        (pss_cons (ps_set (i := 4) sc__law_take.nd rfl (Or.inl rfl) (pe_op op_uMod (pe_callTy call_uInt (by rfl) T.n_int (by decide +kernel) (pa_cons (pe_op op_uMul (pv 4) (pe_op (op_uAdd (K := K) rfl) (pe_op op_uMod (pe_callTy call_uInt (by rfl) T.n_int (by decide +kernel) (pa_cons (pv 4) pa_nil)) (pe_int)) (pe_op op_uMul (pe_int) (pe_ix (ix_u (K := K) rfl) (pv 0) (pe_int) (fun _ _ => rfl))))) pa_nil)) (pe_int)))
        (pss_one (ps_ret (pe_op op_uMod (pe_callTy call_uInt (by rfl) T.n_int (by decide +kernel) (pa_cons (pe_op op_uDiv (pv 4) (pe_int)) pa_nil)) (pv 1))))))))), ?_⟩
    walk_at "st"
    walk_at "go"
    walk_at "c2"
    · walk_at "go"
      refine kk _ _ (Int.emod_nonneg _ (by omega)) (Int.emod_lt_of_pos _ u0) ⟨ow / u, s, k, upd_same, Int.ediv_nonneg h1 (by omega), ?_, h3, h4, by omega⟩ SB.upd
      exact Int.lt_of_le_of_lt (Int.ediv_le_self _ h1) h2
    · walk_at "go"
      refine ⟨by decide, fun a na => ?_⟩
      walk_at "go"
      refine U.g_ix5 (SqL.of (by walk_at "hp")) (by decide) (Int.emod_nonneg _ (by decide)) (Int.emod_lt_of_pos _ (by decide)) fun pr pr0 pr1 => ?_
      walk_at "go"
      refine U.g_powB h3 h4 (by decide) (by decide) (by omega) (by omega) (by decide) (by decide) ?_
      walk_at "go"
      exact kk _ _ (Int.emod_nonneg _ (by omega)) (Int.emod_lt_of_pos _ u0) ⟨ow, s, k + 1, by walk_at "hp", h1, h2, h3, h4, by omega⟩ (SB.upd.new na)
theorem sc__law_of : FnScope ["pot", "some"] ["pot", "some"] (defScope s__law_of) := ⟨rfl, rfl, rfl, by decide +kernel, rfl, by decide +kernel, by decide +kernel⟩
/-- some[take]: any item of a list, a tuple, a text -/
def sp_of (K : PySem.W.Frag) : Sp := fun vs H Q _ => ∃ (p : Addr) (x : V) (n : Nat), vs = [.ref p, x] ∧ PotAt H p (n + 1) ∧
  ((∃ (b : Addr) (ys : List V), x = .ref b ∧ (SqL K H b ys ∨ SqT K H b ys) ∧ 0 < ys.length ∧ ys.length ≤ 1000000 ∧ (∀ H', SB p H H' → SqL K H' b ys ∨ SqT K H' b ys) ∧ ∀ (j : Nat) (y : V) (H' : Hp), ys[j]? = some y → PotAt H' p n → SB p H H' → Q y H') ∨
   (∃ z : Str, x = .str z ∧ 0 < z.length ∧ z.length ≤ 1000000 ∧ ∀ (c : Nat) (H' : Hp), c ∈ z.cps.toList → PotAt H' p n → SB p H H' → Q (.str ⟨#[c]⟩) H'))
theorem ok__law_of (T : Tx K mg) : FnOk P w K mg base CX0 2 T.a__law_of T.fd__law_of ["pot", "some"] (sp_of K) := by
  refine T.F__law_of.ok sc__law_of (fun vs H Q E h => ?_) (fun cdv A outer s H vs Q E hr h => ?_)
  · obtain ⟨p, x, n, rfl, _⟩ := h
    rfl
  · obtain ⟨p, x, n, rfl, hp, kk⟩ := h
    have hu := hu_of hr
    have hu64 := hr.units
    refine ⟨_, (pss_one (ps_ret (pe_ix (ix_u (K := K) rfl) (pv 1) (pe_call (ok__law_take T) (hr.mono (by decide)) rfl T.m__law_take T.F__law_take.kp (b__law_take T) .nil pass0 (pa_cons (pv 0) (pa_cons (pe_callB (call_uLen (K := K) rfl) (by rfl) T.n_len (by decide +kernel) (pa_cons (pv 1) pa_nil)) pa_nil))) (fun _ _ => rfl)))), ?_⟩
    walk_at "st"
    walk_at "go"
    rcases kk with ⟨b, ys, rfl, hb, l0, l1, st, kk⟩ | ⟨z, rfl, l0, l1, kk⟩
    · refine U.g_lenL hb ?_
      walk_at "go"
      refine ⟨p, ys.length, n, rfl, by omega, by omega, hp, fun r H' r0 r1 hp' sb => ?_⟩
      have e : r = ((r.toNat : Nat) : Int) := by omega
      have hj : r.toNat < ys.length := by omega
      refine U.g_ix (st H' sb) (at_of e (List.getElem?_eq_getElem hj)) ?_
      exact kk _ _ _ (List.getElem?_eq_getElem hj) hp' sb
    · refine U.g_lenS (Nat.le_trans l1 (by decide)) ?_
      walk_at "go"
      refine ⟨p, z.length, n, rfl, by omega, by omega, hp, fun r H' r0 r1 hp' sb => ?_⟩
      have hj : r.toNat < z.cps.toList.length := by rw [Array.length_toList]; show r.toNat < z.length; omega
      refine U.g_ixS (Nat.le_trans l1 (by decide)) (c := z.cps.toList[r.toNat]) ?_ ?_
      · exact U.at_nat (show r = ((r.toNat : Nat) : Int) by omega) (List.getElem?_eq_getElem hj)
      · exact kk _ _ (List.getElem_mem hj) hp' sb
theorem sc__law_pot : FnScope ["script", "place", "cell", "own", "small"] ["script", "place"] (defScope s__law_pot) := ⟨rfl, rfl, rfl, by decide +kernel, rfl, by decide +kernel, by decide +kernel⟩
def sp_pot (K : PySem.W.Frag) : Sp := fun vs H Q _ => ∃ (a : Addr) (ns : List Int) (i : Int), vs = [.ref a, .int i] ∧ SqL K H a (ns.map V.int) ∧ 0 ≤ i ∧ i ≤ 100 ∧ ∀ (p : Addr) (H' : Hp), H p = none → Same H H' → PotAt H' p 1000000 → Q (.ref p) H'
theorem ok__law_pot (T : Tx K mg) : FnOk P w K mg base CX0 1 T.a__law_pot T.fd__law_pot ["script", "place"] (sp_pot K) := by
  refine T.F__law_pot.ok sc__law_pot (fun vs H Q E h => ?_) (fun cdv A outer s H vs Q E hr h => ?_)
  · obtain ⟨a, ns, i, rfl, _⟩ := h
    rfl
  · obtain ⟨a, ns, i, rfl, ha, i0, i1, kk⟩ := h
    have hu := hu_of hr
    have hu64 := hr.units
    refine ⟨_, (pss_cons (ps_set (i := 2) sc__law_pot.nd rfl (Or.inl rfl) (pe_ifExp (pt_cmpR op_uLt (pv 1) (pe_callB (call_uLen (K := K) rfl) (by rfl) T.n_len (by decide +kernel) (pa_cons (pv 0) pa_nil)) (nomark _)) (pe_ix (ix_u (K := K) rfl) (pv 0) (pv 1) (fun _ _ => rfl)) (pe_op (op_uAdd (K := K) rfl) (pe_op (op_uAdd (K := K) rfl) (pe_op op_uMod (pe_callB (call_uSum (K := K) rfl rfl) (by rfl) T.n_sum (by decide +kernel) (pa_cons (pe_slice (sl_u (K := K) rfl) (pv 0) po_none (po_some (pe_int))) pa_nil)) (pe_int)) (pe_op op_uMul (pe_int) (pv 1))) (pe_int))))
        (pss_cons (ps_set (i := 3) sc__law_pot.nd rfl (Or.inl rfl) (pe_op op_uMul (pe_op op_uMod (pe_callTy call_uInt (by rfl) T.n_int (by decide +kernel) (pa_cons (pe_callB call_uAbs (by rfl) T.n_abs (by decide +kernel) (pa_cons (pv 2) pa_nil)) pa_nil)) (pe_op op_uPow (pe_op op_uPow (pe_int) (pe_int)) (pe_int))) (pe_callTy call_uInt (by rfl) T.n_int (by decide +kernel) (pa_cons (pe_cmpR op_uGe (pe_callB call_uAbs (by rfl) T.n_abs (by decide +kernel) (pa_cons (pv 2) pa_nil)) (pe_op op_uPow (pe_int) (pe_int)) (nomark _)) pa_nil))))
        (pss_cons (ps_set (i := 4) sc__law_pot.nd rfl (Or.inl rfl) (pe_op op_uMod (pe_callTy call_uInt (by rfl) T.n_int (by decide +kernel) (pa_cons (pv 2) pa_nil)) (pe_int)))
        (pss_one (ps_ret (pe_lst (pa_cons (pv 3) (pa_cons (pe_op op_uMod (pe_callTy call_uInt (by rfl) T.n_int (by decide +kernel) (pa_cons (pe_op (op_uAdd (K := K) rfl) (pe_op (op_uAdd (K := K) rfl) (pe_op op_uMul (pv 4) (pe_int)) (pe_op op_uMul (pe_op op_uMul (pe_int) (pv 1)) (pv 1))) (pe_int)) pa_nil)) (pe_int)) (pa_cons (pe_int) pa_nil))))))))), ?_⟩
    walk_at "st"
    refine U.g_seq (U.g_asg (U.g_cut (fun v H1 => (∃ c : Int, v = .int c) ∧ Same H H1) (fun R kR => ?_) ?_))
    · walk_at "go"
      refine U.g_lenL (Or.inl ha) ?_
      walk_at "go"
      refine U.g_2 (fun c => ?_) (fun c => ?_)
      · walk_at "go"
        rw [List.length_map] at c
        have c := of_decide_eq_true c
        have hj : i.toNat < ns.length := by omega
        refine U.g_ix (Or.inl ha) (U.at_nat (show i = ((i.toNat : Nat) : Int) by omega) (by rw [List.getElem?_map, List.getElem?_eq_getElem hj]; rfl)) ?_
        exact kR _ _ ⟨⟨_, rfl⟩, Same.refl _⟩
      · walk_at "go"
        refine U.g_slL ha fun q nq => ?_
        rw [U.cut1]
        walk_at "go"
        refine U.g_sum (SqL.of upd_same) ?_
        walk_at "go"
        exact kR _ _ ⟨⟨_, rfl⟩, U.same_new nq⟩
    · rintro v H1 ⟨⟨c, rfl⟩, s1⟩
      walk_at "go"
      refine ⟨by show 3 ≤ sizeLine; decide, fun q nq => ?_⟩
      obtain ⟨m0, m1⟩ := U.mulB_bd (b := decide (10 ^ (18 : Int).toNat ≤ (if c < 0 then -c else c))) (Int.emod_nonneg (if c < 0 then -c else c) (show ((10 : Int) ^ (60 : Int).toNat) ^ (5 : Int).toNat ≠ 0 by decide +kernel)) (Int.emod_lt_of_pos (if c < 0 then -c else c) (show (0 : Int) < ((10 : Int) ^ (60 : Int).toNat) ^ (5 : Int).toNat by decide +kernel))
      refine kk q _ (s1.free nq) (fun b o e => U.same_new nq b o (s1 b o e)) ⟨_, _, 0, upd_same, m0, Int.lt_of_lt_of_le m1 (by decide +kernel), Int.emod_nonneg _ (by decide), ?_, by decide⟩
      exact Int.lt_of_lt_of_le (Int.emod_lt_of_pos _ (by decide)) (by decide)
theorem sc__law_cells : FnScope ["script", "most"] ["script", "most"] (defScope s__law_cells) := ⟨rfl, rfl, rfl, by decide +kernel, rfl, by decide +kernel, by decide +kernel⟩
def sp_cells (K : PySem.W.Frag) : Sp := fun vs H Q _ => ∃ (a : Addr) (ns : List Int) (m : Int), vs = [.ref a, .int m] ∧ SqL K H a (ns.map V.int) ∧ ns.length ≤ 63 ∧ 1 ≤ m ∧ m ≤ 100 ∧ ∀ (p : Addr) (c : Nat), H p = none → 1 ≤ c → c ≤ 100 → Q (.ref p) (upd H p (.lst (rgV 0 c)))
theorem ok__law_cells (T : Tx K mg) : FnOk P w K mg base CX0 1 T.a__law_cells T.fd__law_cells ["script", "most"] (sp_cells K) := by
  refine T.F__law_cells.ok sc__law_cells (fun vs H Q E h => ?_) (fun cdv A outer s H vs Q E hr h => ?_)
  · obtain ⟨a, ns, m, rfl, _⟩ := h
    rfl
  · obtain ⟨a, ns, m, rfl, ha, hl, m0, m1, kk⟩ := h
    have hu := hu_of hr
    have hu64 := hr.units
    refine ⟨_, (pss_one (ps_ret (pe_listRg rfl rfl T.n_list (prg_1 rfl T.n_range (pe_callB (call_uMax rfl) (by rfl) T.n_max (by decide +kernel) (pa_cons (pe_int) (pa_cons (pe_callB (call_uMin rfl) (by rfl) T.n_min (by decide +kernel) (pa_cons (pv 1) (pa_cons (pe_callB (call_uLen (K := K) rfl) (by rfl) T.n_len (by decide +kernel) (pa_cons (pv 0) pa_nil)) pa_nil))) pa_nil))))))), ?_⟩
    walk_at "st"
    walk_at "go"
    refine U.g_lenL (Or.inl ha) ?_
    walk_at "go"
    have e : ∃ c : Nat, (if (if ((List.map V.int ns).length : Int) < m then ((List.map V.int ns).length : Int) else m) > 1 then if ((List.map V.int ns).length : Int) < m then ((List.map V.int ns).length : Int) else m else 1) = (c : Int) ∧ 1 ≤ c ∧ c ≤ 100 := by
      rw [List.length_map]
      by_cases h1 : (ns.length : Int) < m
      · rw [if_pos h1]
        by_cases h2 : (ns.length : Int) > 1
        · rw [if_pos h2]; exact ⟨ns.length, rfl, by omega, by omega⟩
        · rw [if_neg h2]; exact ⟨1, rfl, by omega, by omega⟩
      · rw [if_neg h1]
        by_cases h2 : m > 1
        · rw [if_pos h2]; exact ⟨m.toNat, by omega, by omega, by omega⟩
        · rw [if_neg h2]; exact ⟨1, rfl, by omega, by omega⟩
    obtain ⟨c, e, c1, c2⟩ := e
    rw [e]
    exact ⟨RgOk.of_le (by omega) (by omega) (by omega) (by omega), fun q nq => kk q c nq c1 c2⟩
end
end Toy

namespace Toy
open PySem L2 U M
theorem PotAt.ts {H H' : Hp} {p : Addr} {n : Nat} (h : PotAt H p n) (s : SB p H H') : TS H H' := fun a xs e => s a _ e (by
  obtain ⟨_, _, _, q, _⟩ := h
  exact ne_of e q (by intro z; cases z))
theorem PotAt.new {H : Hp} {p a : Addr} {n : Nat} {o : HO} (h : PotAt H p n) (na : H a = none) : PotAt (upd H a o) p n := by
  obtain ⟨x, y, z, q, r⟩ := h
  exact ⟨x, y, z, get_new na q, r⟩
theorem PotAt.put {H : Hp} {p a : Addr} {n : Nat} {o : HO} (h : PotAt H p n) (na : p ≠ a) : PotAt (upd H a o) p n := by
  obtain ⟨x, y, z, q, r⟩ := h
  exact ⟨x, y, z, get_ne na q, r⟩
theorem PotAt.same {H H' : Hp} {p : Addr} {n : Nat} (h : PotAt H p n) (s : Same H H') : PotAt H' p n := by
  obtain ⟨x, y, z, q, r⟩ := h
  exact ⟨x, y, z, s _ _ q, r⟩
theorem pot_ne {H : Hp} {p a : Addr} {n : Nat} (hp : PotAt H p n) (na : H a = none) : a ≠ p := by
  obtain ⟨_, _, _, q, _⟩ := hp
  exact (ne_of_none q na).symm
end Toy

namespace Toy
open PySem L2 U M LM
section
variable {P : Program} {w : World} {K : PySem.W.Frag} {mg : Str → Option Value} {base : Heap}
theorem sc_Ladder___init__ : FnScope ["self", "values", "pairs", "value", "place", "_"] ["self", "values"] (defScope s_Ladder___init__) := ⟨rfl, rfl, rfl, by decide +kernel, rfl, by decide +kernel, by decide +kernel⟩
def sp_Ladder_init (CL : Addr) : Sp := fun vs H Q _ => ∃ (a dx b : Addr) (ns : List Int), vs = [.ref a, .ref b] ∧ H a = some (.ins CL dx []) ∧ H b = some (.tup (ns.map V.int)) ∧ ns.length ≤ 1000 ∧ ∀ (la lp ls : Addr) (row pl : List Int) (H' : Hp), LadX CL H' a dx la lp ls row pl → RowOk ns row pl → (∀ c o, c ≠ a → H c = some o → H' c = some o) → Q .non H'
theorem ok_Ladder___init__ (T : Tx K mg) : FnOk P w K mg base CX0 1 T.a_Ladder___init__ T.fd_Ladder___init__ ["self", "values"] (sp_Ladder_init T.C_Ladder) := by
  refine T.F_Ladder___init__.ok sc_Ladder___init__ (fun vs H Q E h => ?_) (fun cdv A outer s H vs Q E hr h => ?_)
  · obtain ⟨a, dx, b, ns, rfl, _⟩ := h
    rfl
  · obtain ⟨a, dx, b, ns, rfl, ha, hb, hn, kk⟩ := h
    have hu := hu_of hr
    have hu64 := hr.units
    refine ⟨_, (pss_cons (ps_set (i := 2) sc_Ladder___init__.nd rfl (Or.inl rfl) (pe_callB (U.call_uSortP (K := K) rfl) (by rfl) T.n_sorted (by decide +kernel) (pa_cons (pe_lc rfl sc_Ladder___init__.nd (ET.pi_enumT (K := K) rfl (by rfl) T.n_enumerate (pa_cons (pv 1) pa_nil)) (blkOk_by (own := [("place", 4), ("value", 3)]) (N := ["self", "values", "pairs", "value", "place", "_"]) (sc := defScope s_Ladder___init__) (by decide +kernel)) (fun _ _ _ _ _ => (u_gtup (K := K) (n := 2) rfl rfl (pgs_cons (pg_name (i := 4) sc_Ladder___init__.nd rfl (Or.inl rfl)) (pgs_cons (pg_name (i := 3) sc_Ladder___init__.nd rfl (Or.inl rfl)) pgs_nil)))) (fun _ _ _ _ _ => pts_nil) (fun _ _ _ _ _ => (pe_tup (pa_cons (pv 3) (pa_cons (pv 4) pa_nil))))) pa_nil)))
        (pss_cons (ps_fld (pv 0) (pe_lc rfl sc_Ladder___init__.nd (u_list (K := K) rfl (pv 2)) (blkOk_by (own := [("value", 3), ("_", 5)]) (N := ["self", "values", "pairs", "value", "place", "_"]) (sc := defScope s_Ladder___init__) (by decide +kernel)) (fun _ _ _ _ _ => (u_gtup (K := K) (n := 2) rfl rfl (pgs_cons (pg_name (i := 3) sc_Ladder___init__.nd rfl (Or.inl rfl)) (pgs_cons (pg_name (i := 5) sc_Ladder___init__.nd rfl (Or.inl rfl)) pgs_nil)))) (fun _ _ _ _ _ => pts_nil) (fun _ _ _ _ _ => (pv 3))) rfl)
        (pss_cons (ps_fld (pv 0) (pe_lc rfl sc_Ladder___init__.nd (u_list (K := K) rfl (pv 2)) (blkOk_by (own := [("_", 5), ("place", 4)]) (N := ["self", "values", "pairs", "value", "place", "_"]) (sc := defScope s_Ladder___init__) (by decide +kernel)) (fun _ _ _ _ _ => (u_gtup (K := K) (n := 2) rfl rfl (pgs_cons (pg_name (i := 5) sc_Ladder___init__.nd rfl (Or.inl rfl)) (pgs_cons (pg_name (i := 4) sc_Ladder___init__.nd rfl (Or.inl rfl)) pgs_nil)))) (fun _ _ _ _ _ => pts_nil) (fun _ _ _ _ _ => (pv 4))) rfl)
        (pss_cons (ps_fld (pv 0) (pe_lst (pa_cons (pe_int) pa_nil)) rfl)
        (pss_one (ps_for PassesOwn.never rfl (u_list (K := K) rfl (u_fld (K := K) rfl (pv 0) rfl)) (pg_name (i := 3) sc_Ladder___init__.nd rfl (Or.inl rfl)) (pss_one (ps_expr (pe_bm PySem.F.plainAttrs_list PySem.F.slot_list_append PySem.F.type_list_append mt_append (u_fld (K := K) rfl (pv 0) rfl) (pa_cons (pe_op (op_uAdd (K := K) rfl) (pe_ix (ix_u (K := K) rfl) (u_fld (K := K) rfl (pv 0) rfl) (pe_un op_uNeg (pe_int)) (fun _ _ => rfl)) (pv 3)) pa_nil)))))))))), ?_⟩
    walk_at "st"
    walk_at "go"
    refine ⟨b, ns.map V.int, rfl, SqT.of hb, ?_⟩
    refine lcI_by (ET.walk_enumT (K := K) (a := b) (xs := ns.map V.int)) (by rw [List.length_map]; omega) fun E0 nE => ⟨fun i acc H' => Same H H' ∧ TupL H' acc (((List.range i).map fun j : Nat => ((ns[j]?).getD 0, (j : Int))).map pairV), ⟨U.same_new nE, .nil⟩, fun i acc H' _ p => (SqT.of (p.1 _ _ hb)), ?turn, fun acc H1 hE ⟨s1, t1⟩ => ?rest⟩
    case turn =>
      rintro i x acc H' H'' A B hi hacc ⟨s1, t1⟩ ⟨t, a1, a2, rfl, nt, rfl, e1, e2⟩ kA kB
      cases e1
      rw [List.length_map] at hi
      have e2 : (ns.map V.int)[i]? = some a2 := e2
      rw [List.getElem?_map, List.getElem?_eq_getElem hi] at e2
      cases e2
      walk_at "go"
      refine ⟨rfl, ?_⟩
      walk_at "go"
      refine ⟨by show 2 ≤ sizeLine; decide, fun q nq => ?_⟩
      have sT := U.same_new (o := .tup [.int (i : Int), .int ns[i]]) nt
      have sq := U.same_new (o := .tup [.int ns[i], .int (i : Int)]) nq
      refine kA _ _ (sq _ _ (sT _ _ hacc)) ⟨same_mut (s1.trans (sT.trans sq)) nE, ?_⟩
      have ts : TS H' (upd (upd (upd H' t (.tup [.int (i : Int), .int ns[i]])) q (.tup [.int ns[i], .int (i : Int)])) E0 (.lst (acc ++ [.ref q]))) := ((TS.of sT).trans (TS.of sq)).trans (TS.lst (sq _ _ (sT _ _ hacc)))
      rw [List.range_succ, List.map_append, List.map_append]
      refine prd_snoc (t1.mono ts) ⟨q, rfl, ?_⟩
      rw [upd_ne (ne_of upd_same (sq _ _ (sT _ _ hacc)) (by intro z; cases z)), upd_same]
      show some (HO.tup [V.int ns[i], V.int (i : Int)]) = some (HO.tup [V.int ((ns[i]?).getD 0), V.int (i : Int)])
      rw [List.getElem?_eq_getElem hi]
      rfl
    case rest =>
      rw [List.length_map] at t1
      obtain ⟨k1, k2⟩ := key_prd t1
      walk_at "go"
      refine ⟨E0, acc, keyAt H1, rfl, SqL.of hE, k2, fun ys p so st np => ?_⟩
      have ok := RowOk.of (ns := ns) k1 so st.perm
      have k3 : ∀ v ∈ ys, ∃ t, v = V.ref t ∧ H1 t = some (.tup [.int (keyAt H1 v).1, .int (keyAt H1 v).2]) := fun v hv => k2 v (st.perm.mem_iff.mp hv)
      have ly : ys.length = ns.length := by have := ok.len; rw [List.length_map] at this; exact this
      have sp := U.same_new (o := .lst ys) np
      have s2 := s1.trans sp
      walk_at "go"
      refine e_list (SqL.of upd_same) ?_
      have fm : ∀ f : V → Int, ys.filterMap (fun v => some (V.int (f v))) = (ys.map f).map V.int := fun f => by rw [fm_some, List.map_map]; rfl
      have row0 : ∀ {Hn : Hp}, Same (upd H1 p (.lst ys)) Hn → ∀ v ∈ ys, ∃ t, v = V.ref t ∧ Hn t = some (.tup [.int (keyAt H1 v).1, .int (keyAt H1 v).2]) := fun s' v hv => by
        obtain ⟨t, e, ht⟩ := k3 v hv
        exact ⟨t, e, s' _ _ (sp _ _ ht)⟩
      refine lcI_list (SqL.of upd_same) (by omega) (fun v => some (.int (keyAt H1 v).1)) (fun v H' A B hv s' kA kB => ?t1) fun la H2 nla s3 hla => ?c1
      case t1 =>
        obtain ⟨t, rfl, ht⟩ := row0 s' v hv
        walk_at "go"
        refine ⟨rfl, ?_⟩
        walk_at "go"
        exact kA _ _ rfl (Same.refl _)
      rw [fm] at hla
      have s4 := s2.trans s3
      have ha2 := s4 _ _ ha
      walk_at "go"
      refine ⟨a, T.C_Ladder, dx, [], rfl, ha2, T.cl_Ladder, T.na_Ladder_ascending, by decide, ?_⟩
      have lna : la ≠ a := ne_of hla ha2 (by intro z; cases z)
      have pna : p ≠ a := ne_of (s3 _ _ upd_same) ha2 (by intro z; cases z)
      have hp2 : H2 p = some (.lst ys) := s3 _ _ upd_same
      have row2 : ∀ {Hn : Hp}, (∀ c o, c ≠ a → H2 c = some o → Hn c = some o) → ∀ v ∈ ys, ∃ t, v = V.ref t ∧ Hn t = some (.tup [.int (keyAt H1 v).1, .int (keyAt H1 v).2]) := fun q v hv => by
        obtain ⟨t, e, ht⟩ := row0 s3 v hv
        exact ⟨t, e, q _ _ (ne_of ht ha2 (by intro z; cases z)) ht⟩
      have o3 : ∀ c o, c ≠ a → H2 c = some o → (upd H2 a (.ins T.C_Ladder dx (putF "ascending" (.ref la) []))) c = some o := fun c o hc e => (upd_ne hc).trans e
      have a3 : (upd H2 a (.ins T.C_Ladder dx (putF "ascending" (.ref la) []))) a = some (.ins T.C_Ladder dx [("ascending", .ref la)]) := upd_same
      generalize (upd H2 a (.ins T.C_Ladder dx (putF "ascending" (.ref la) []))) = H3 at o3 a3 ⊢
      walk_at "go"
      refine e_list (SqL.of (o3 _ _ pna hp2)) ?_
      refine lcI_list (SqL.of (o3 _ _ pna hp2)) (by omega) (fun v => some (.int (keyAt H1 v).2)) (fun v H' A B hv s' kA kB => ?t2) fun lp H4 nlp s5 hlp => ?c2
      case t2 =>
        obtain ⟨t, rfl, ht⟩ := row2 (fun c o hc e => s' _ _ (o3 c o hc e)) v hv
        walk_at "go"
        refine ⟨rfl, ?_⟩
        walk_at "go"
        exact kA _ _ rfl (Same.refl _)
      rw [fm] at hlp
      have ha4 := s5 _ _ a3
      walk_at "go"
      refine ⟨a, T.C_Ladder, dx, _, rfl, ha4, T.cl_Ladder, T.na_Ladder_places, by show 1 < 1000; decide, ?_⟩
      have e5 : putF ("places" : Str) (.ref lp) ([("ascending", .ref la)] : List (Str × V)) = [(("ascending" : Str), V.ref la), ("places", V.ref lp)] := by rw [putF_skip (by decide +kernel)]; rfl
      rw [e5]
      have lpa : lp ≠ a := ne_of hlp ha4 (by intro z; cases z)
      have o5 : ∀ c o, c ≠ a → H4 c = some o → (upd H4 a (.ins T.C_Ladder dx [(("ascending" : Str), V.ref la), ("places", V.ref lp)])) c = some o := fun c o hc e => (upd_ne hc).trans e
      have a5 : (upd H4 a (.ins T.C_Ladder dx [(("ascending" : Str), V.ref la), ("places", V.ref lp)])) a = some (.ins T.C_Ladder dx [(("ascending" : Str), V.ref la), ("places", V.ref lp)]) := upd_same
      generalize (upd H4 a (.ins T.C_Ladder dx [(("ascending" : Str), V.ref la), ("places", V.ref lp)])) = H5 at o5 a5 ⊢
      walk_at "go"
      refine ⟨by decide, fun ls nls => ?_⟩
      walk_at "go"
      have lsa : ls ≠ a := fun z => by rw [z, a5] at nls; cases nls
      refine ⟨a, T.C_Ladder, dx, _, rfl, (upd_ne (Ne.symm lsa)).trans a5, T.cl_Ladder, T.na_Ladder_sums, by show 2 < 1000; decide, ?_⟩
      have e6 : putF ("sums" : Str) (.ref ls) [(("ascending" : Str), V.ref la), ("places", V.ref lp)] = ladF la lp ls := by rw [putF_skip (by decide +kernel), putF_skip (by decide +kernel)]; rfl
      rw [e6]
      have o6 : ∀ c o, c ≠ a → H5 c = some o → (upd (upd H5 ls (.lst [V.int 0])) a (.ins T.C_Ladder dx (ladF la lp ls))) c = some o := fun c o hc e => (upd_ne hc).trans (U.same_new nls _ _ e)
      have a6 : (upd (upd H5 ls (.lst [V.int 0])) a (.ins T.C_Ladder dx (ladF la lp ls))) a = some (.ins T.C_Ladder dx (ladF la lp ls)) := upd_same
      have l6 : (upd (upd H5 ls (.lst [V.int 0])) a (.ins T.C_Ladder dx (ladF la lp ls))) ls = some (.lst [V.int 0]) := (upd_ne lsa).trans upd_same
      generalize (upd (upd H5 ls (.lst [V.int 0])) a (.ins T.C_Ladder dx (ladF la lp ls))) = H6 at o6 a6 l6 ⊢
      have off : ∀ c o, c ≠ a → H c = some o → H6 c = some o ∧ c ≠ ls := fun c o hc e => by
        have q := o5 c o hc (s5 _ _ (o3 c o hc (s4 _ _ e)))
        exact ⟨o6 c o hc q, ne_of_none q nls⟩
      have hla6 : H6 la = some (.lst ((ys.map fun v => (keyAt H1 v).1).map V.int)) ∧ la ≠ ls := by
        have q := o5 _ _ lna (s5 _ _ (o3 _ _ lna hla))
        exact ⟨o6 _ _ lna q, ne_of_none q nls⟩
      have hlp6 : H6 lp = some (.lst ((ys.map fun v => (keyAt H1 v).2).map V.int)) ∧ lp ≠ ls := by
        have q := o5 _ _ lpa hlp
        exact ⟨o6 _ _ lpa q, ne_of_none q nls⟩
      generalize hrow : (ys.map fun v => (keyAt H1 v).1) = row at *
      generalize hpl : (ys.map fun v => (keyAt H1 v).2) = pl at *
      walk_at "go"
      refine ⟨a, T.C_Ladder, dx, _, _, rfl, a6, T.cl_Ladder, T.na_Ladder_ascending, lad_a la lp ls, ?_⟩
      refine e_list (SqL.of hla6.1) ?_
      refine forI_by (walk_list (K := K) (a := la) (xs := row.map V.int)) (fun i σ' H' => ∃ (v3 : Option V), σ' = [some (.ref a), some (.ref b), some (.ref p), v3, none, none] ∧ H' ls = some (.lst ((sumsL row i).map V.int)) ∧ ∀ c o, c ≠ ls → H6 c = some o → H' c = some o) ⟨none, rfl, l6, fun c o _ e => e⟩ (fun i σ' H' _ ⟨_, _, _, k⟩ => SqL.of (k _ _ hla6.2 hla6.1)) ?ts ?td
      case ts =>
        rintro i x σ' H' _ hi ⟨v3, rfl, hl, k⟩ ⟨rfl, ex⟩
        rw [List.length_map] at hi
        rw [List.getElem?_map, rowF_at hi] at ex
        cases ex
        have als : a ≠ ls := ne_of a6 l6 (by intro z; cases z)
        have a7 := k _ _ als a6
        walk_at "go"
        refine ⟨a, T.C_Ladder, dx, _, _, rfl, a7, T.cl_Ladder, T.na_Ladder_sums, lad_s la lp ls, ?_⟩
        walk_at "go"
        refine ⟨a, T.C_Ladder, dx, _, _, rfl, a7, T.cl_Ladder, T.na_Ladder_sums, lad_s la lp ls, ?_⟩
        walk_at "go"
        obtain ⟨zs, ez⟩ := sumsL_end row i
        refine U.g_ix (Or.inl (SqL.of hl)) (at_end (map_end V.int ez)) ?_
        walk_at "go"
        refine U.g_appL hl (by rw [List.length_map]; unfold sumsL; rw [List.length_map, List.length_range]; have := ok.len; omega) ?_
        rw [show (sumsL row i).map V.int ++ [V.int (sm (rowF row) i + rowF row i)] = (sumsL row (i + 1)).map V.int by rw [sumsL_succ, List.map_append]; rfl]
        walk_at "go"
        exact ⟨_, rfl, upd_same, fun c o hc e => (upd_ne hc).trans (k c o hc e)⟩
      case td =>
        rintro σ' H' ⟨v3, rfl, hl, k⟩
        rw [List.length_map] at hl
        walk_at "go"
        have als : a ≠ ls := ne_of a6 l6 (by intro z; cases z)
        exact kk la lp ls row pl H' ⟨k _ _ als a6, k _ _ hla6.2 hla6.1, k _ _ hlp6.2 hlp6.1, hl⟩ ok fun c o hc e => k _ _ (off c o hc e).2 (off c o hc e).1
theorem sc_Ladder_loss : FnScope ["self", "begin", "end", "middle", "shown", "above", "below"] ["self", "begin", "end"] (defScope s_Ladder_loss) := ⟨rfl, rfl, rfl, by decide +kernel, rfl, by decide +kernel, by decide +kernel⟩
def sp_Ladder_loss (CL : Addr) : Sp := fun vs H Q _ => ∃ (x dx la lp ls : Addr) (row pl : List Int) (b e : Nat), vs = [.ref x, .int b, .int e] ∧ LadX CL H x dx la lp ls row pl ∧ row.Pairwise (· ≤ ·) ∧ b < e ∧ e ≤ row.length ∧ row.length ≤ 1000 ∧ Q (.int (cs (rowF row) b e)) H
theorem ok_Ladder_loss (T : Tx K mg) : FnOk P w K mg base CX0 1 T.a_Ladder_loss T.fd_Ladder_loss ["self", "begin", "end"] (sp_Ladder_loss T.C_Ladder) := by
  refine T.F_Ladder_loss.ok sc_Ladder_loss (fun vs H Q E h => ?_) (fun cdv A outer s H vs Q E hr h => ?_)
  · obtain ⟨x, dx, la, lp, ls, row, pl, b, e, rfl, _⟩ := h
    rfl
  · obtain ⟨x, dx, la, lp, ls, row, pl, b, e, rfl, lx, up, hbe, he, hl, kk⟩ := h
    have hu := hu_of hr
    have hu64 := hr.units
    refine ⟨_, (pss_cons (ps_set (i := 3) sc_Ladder_loss.nd rfl (Or.inl rfl) (pe_op op_uDiv (pe_op (op_uAdd (K := K) rfl) (pv 1) (pv 2)) (pe_int)))
        (pss_cons (ps_set (i := 4) sc_Ladder_loss.nd rfl (Or.inl rfl) (pe_ix (ix_u (K := K) rfl) (u_fld (K := K) rfl (pv 0) rfl) (pv 3) (fun _ _ => rfl)))
        (pss_cons (ps_set (i := 5) sc_Ladder_loss.nd rfl (Or.inl rfl) (pe_op op_uSub (pe_op op_uSub (pe_ix (ix_u (K := K) rfl) (u_fld (K := K) rfl (pv 0) rfl) (pv 2) (fun _ _ => rfl)) (pe_ix (ix_u (K := K) rfl) (u_fld (K := K) rfl (pv 0) rfl) (pv 3) (fun _ _ => rfl))) (pe_op op_uMul (pv 4) (pe_op op_uSub (pv 2) (pv 3)))))
        (pss_cons (ps_set (i := 6) sc_Ladder_loss.nd rfl (Or.inl rfl) (pe_op (op_uAdd (K := K) rfl) (pe_op op_uSub (pe_op op_uMul (pv 4) (pe_op op_uSub (pv 3) (pv 1))) (pe_ix (ix_u (K := K) rfl) (u_fld (K := K) rfl (pv 0) rfl) (pv 3) (fun _ _ => rfl))) (pe_ix (ix_u (K := K) rfl) (u_fld (K := K) rfl (pv 0) rfl) (pv 1) (fun _ _ => rfl))))
        (pss_one (ps_ret (pe_op (op_uAdd (K := K) rfl) (pv 5) (pv 6)))))))), ?_⟩
    walk_at "st"
    walk_at "go"
    rw [show ((b : Int) + (e : Int)) / 2 = (((b + e) / 2 : Nat) : Int) by omega]
    obtain ⟨h1, h2⟩ := mid_bd hbe
    have key := cs_sums (rowF_mon up) hbe he
    generalize (b + e) / 2 = m at *
    have hr1 : ∀ {i : Nat}, i < row.length → (row.map V.int)[i]? = some (V.int (rowF row i)) := fun h => by rw [List.getElem?_map, rowF_at h]; rfl
    have hs1 : ∀ {i : Nat}, i ≤ row.length → ((sumsL row row.length).map V.int)[i]? = some (V.int (sm (rowF row) i)) := fun h => by rw [List.getElem?_map, sumsL_at h]; rfl
    refine lx.fa T.cl_Ladder T.na_Ladder_ascending ?_
    walk_at "go"
    refine U.g_ix (Or.inl (SqL.of lx.ha)) (U.at_nat rfl (hr1 (show m < row.length by omega))) ?_
    walk_at "go"
    refine lx.fs T.cl_Ladder T.na_Ladder_sums ?_
    walk_at "go"
    refine U.g_ix (Or.inl (SqL.of lx.hs)) (U.at_nat rfl (hs1 (show e ≤ row.length by omega))) ?_
    walk_at "go"
    refine lx.fs T.cl_Ladder T.na_Ladder_sums ?_
    walk_at "go"
    refine U.g_ix (Or.inl (SqL.of lx.hs)) (U.at_nat rfl (hs1 (show m ≤ row.length by omega))) ?_
    walk_at "go"
    refine lx.fs T.cl_Ladder T.na_Ladder_sums ?_
    walk_at "go"
    refine U.g_ix (Or.inl (SqL.of lx.hs)) (U.at_nat rfl (hs1 (show m ≤ row.length by omega))) ?_
    walk_at "go"
    refine lx.fs T.cl_Ladder T.na_Ladder_sums ?_
    walk_at "go"
    refine U.g_ix (Or.inl (SqL.of lx.hs)) (U.at_nat rfl (hs1 (show b ≤ row.length by omega))) ?_
    walk_at "go"
    rw [← key]
    exact kk
theorem sc_Ladder_first_losses : FnScope ["self", "size", "found", "end", "begins", "begin"] ["self", "size"] (defScope s_Ladder_first_losses) := ⟨rfl, rfl, rfl, by decide +kernel, rfl, by decide +kernel, by decide +kernel⟩
def sp_first (CL : Addr) : Sp := fun vs H Q _ => ∃ (x dx la lp ls : Addr) (row pl : List Int) (s : Nat), vs = [.ref x, .int s] ∧ LadX CL H x dx la lp ls row pl ∧ row.Pairwise (· ≤ ·) ∧ row.length = pl.length ∧ row.length ≤ 1000 ∧ 1 ≤ s ∧ s ≤ 1000 ∧ ∀ (q : Addr) (H' : Hp), H q = none → Same H H' → H' q = some (.lst ((tab (cs (rowF row)) s row.length).map oV)) → Q (.ref q) H'
theorem ok_Ladder_first_losses (T : Tx K mg) : FnOk P w K mg base CX0 2 T.a_Ladder_first_losses T.fd_Ladder_first_losses ["self", "size"] (sp_first T.C_Ladder) := by
  refine T.F_Ladder_first_losses.ok sc_Ladder_first_losses (fun vs H Q E h => ?_) (fun cdv A outer s H vs Q E hr h => ?_)
  · obtain ⟨x, dx, la, lp, ls, row, pl, s, rfl, _⟩ := h
    rfl
  · obtain ⟨x, dx, la, lp, ls, row, pl, s, rfl, lx, up, hpl, hl, s1, s2, kk⟩ := h
    have hu := hu_of hr
    have hu64 := hr.units
    refine ⟨_, (pss_cons (ps_set (i := 2) sc_Ladder_first_losses.nd rfl (Or.inr rfl) (pe_lst (pa_cons (pe_int) pa_nil)))
        (pss_cons (ps_for PassesOwn.never rfl (pi_range2 (by rfl) T.n_range (pa_cons (pe_int) (pa_cons (pe_op (op_uAdd (K := K) rfl) (pe_callB (call_uLen (K := K) rfl) (by rfl) T.n_len (by decide +kernel) (pa_cons (u_fld (K := K) rfl (pv 0) rfl) pa_nil)) (pe_int)) pa_nil))) (pg_name (i := 3) sc_Ladder_first_losses.nd rfl (Or.inr rfl)) (pss_cons (ps_setLc (i := 4) rfl sc_Ladder_first_losses.nd rfl rfl (sw_true rfl rfl rfl (by decide +kernel)) (pi_range2 (by rfl) T.n_range (pa_cons (pe_callB (call_uMax rfl) (by rfl) T.n_max (by decide +kernel) (pa_cons (pe_int) (pa_cons (pe_op (op_uAdd (K := K) rfl) (pe_op op_uSub (pv 3) (pe_op op_uMul (pe_int) (pv 1))) (pe_int)) pa_nil))) (pa_cons (pe_op (op_uAdd (K := K) rfl) (pe_op op_uSub (pv 3) (pv 1)) (pe_int)) pa_nil))) (blkOk_by (own := [("begin", 5)]) (N := ["self", "size", "found", "end", "begins", "begin"]) (sc := defScope s_Ladder_first_losses) (by decide +kernel)) (fun _ _ _ _ _ => (pg_name (i := 5) sc_Ladder_first_losses.nd rfl (Or.inl rfl))) (fun _ _ _ _ _ => (pts_one (pt_cmpR op_notN (pe_ix (ix_u (K := K) rfl) (pv 2) (pv 5) (fun _ _ => rfl)) pe_non (nomark _)))) (fun _ _ _ _ _ => (pv 5)))
        (pss_one (ps_expr (pe_bm PySem.F.plainAttrs_list PySem.F.slot_list_append PySem.F.type_list_append mt_append (pv 2) (pa_cons (pe_callBK (MD.cr_minD (K := K) rfl rfl hu64) (by rfl) T.n_min (by decide +kernel) (pa_cons (pe_lc rfl sc_Ladder_first_losses.nd (u_list (K := K) rfl (pv 4)) (blkOk_by (own := [("begin", 5)]) (N := ["self", "size", "found", "end", "begins", "begin"]) (sc := defScope s_Ladder_first_losses) (by decide +kernel)) (fun _ _ _ _ _ => (pg_name (i := 5) sc_Ladder_first_losses.nd rfl (Or.inl rfl))) (fun _ _ _ _ _ => pts_nil) (fun _ _ _ _ _ => (pe_op (op_uAdd (K := K) rfl) (pe_ix (ix_u (K := K) rfl) (pv 2) (pv 5) (fun _ _ => rfl)) (pe_meth (pv 0) T.cl_Ladder T.me_Ladder_loss (ok_Ladder_loss T) (hr.mono (by decide)) (b_Ladder_loss T) .nil pass0 (pa_cons (pv 5) (pa_cons (pv 3) pa_nil)))))) pa_nil) (pk_cons (pe_non) pk_nil)) pa_nil))))))
        (pss_one (ps_ret (pv 2))))), ?_⟩
    walk_at "st"
    walk_at "go"
    refine ⟨by decide, fun q nq => ?_⟩
    have sq := U.same_new (o := .lst [V.int 0]) nq
    walk_at "go"
    refine (lx.same sq).fp T.cl_Ladder T.na_Ladder_places ?_
    walk_at "go"
    refine U.g_lenL (Or.inl (SqL.of (lx.same sq).hp)) ?_
    walk_at "go"
    rw [List.length_map, ← hpl]
    refine e_rng2 (by omega) ?_
    rw [show ((row.length : Int) + 1 - 1).toNat = row.length by omega]
    refine forI_by walk_range (fun i σ' H' => ∃ (v3 v4 v5 : Option V), σ' = [some (.ref x), some (.int (s : Int)), some (.ref q), v3, v4, v5] ∧ H' q = some (.lst ((tab (cs (rowF row)) s i).map oV)) ∧ Same H H') ⟨none, none, none, rfl, upd_same, sq⟩ (fun _ _ _ _ _ => trivial) ?ts ?td
    case td =>
      rintro σ' H' ⟨v3, v4, v5, rfl, hq, s'⟩
      walk_at "go"
      exact kk q H' nq s' hq
    case ts =>
      rintro i y σ' H' _ hi ⟨v3, v4, v5, rfl, hq, s'⟩ ⟨rfl, rfl⟩
      have lx' := lx.same s'
      have tl : ((tab (cs (rowF row)) s i).map oV).length = i + 1 := by rw [List.length_map, tab_len]
      have tat : ∀ {b : Nat}, b ≤ i → ((tab (cs (rowF row)) s i).map oV)[b]? = some (oV (F (cs (rowF row)) s b)) := fun h => by rw [List.getElem?_map, tab_at _ _ h]; rfl
      walk_at "go"
      rw [show (if 1 + (i : Int) - 2 * (s : Int) + 1 > 0 then 1 + (i : Int) - 2 * (s : Int) + 1 else 0) = ((i + 2 - 2 * s : Nat) : Int) by split <;> omega]
      refine e_rng2 (by omega) ?_
      rw [show (1 + (i : Int) - (s : Int) + 1 - ((i + 2 - 2 * s : Nat) : Int)).toNat = (i + 2 - s) - (i + 2 - 2 * s) by omega]
      refine lcI_rg (by omega) (fB (tab (cs (rowF row)) s i) (i + 2 - 2 * s)) (fun j H1 A B hj s3 kA kB => ?t1) fun L1 H1 nL1 s3 hL1 => ?c1
      case t1 =>
        walk_at "go"
        refine ⟨rfl, ?_⟩
        have hb : i + 2 - 2 * s + j ≤ i := by omega
        have pt := put_tab (cs (rowF row)) s hb
        walk_at "go"
        refine U.g_ix (Or.inl (SqL.of (s3 _ _ hq))) (U.at_nat (show (((i + 2 - 2 * s : Nat) : Int) + (j : Int)) = ((i + 2 - 2 * s + j : Nat) : Int) by omega) (tat hb)) ?_
        cases hF : F (cs (rowF row)) s (i + 2 - 2 * s + j) with
        | none =>
          refine ⟨rfl, _, rfl, U.g_F (kB ?_ _ (Same.refl _))⟩
          unfold fB
          rw [pt, hF]
          rfl
        | some u =>
          refine ⟨rfl, _, rfl, U.g_T ?_⟩
          walk_at "go"
          refine kA _ _ ?_ (Same.refl _)
          unfold fB
          rw [pt, hF]
          rfl
      have s01 := s'.trans s3
      have lx1 := lx.same s01
      have hq1 := s3 _ _ hq
      walk_at "go"
      refine e_list (SqL.of hL1) ?_
      refine lcI_list (SqL.of hL1) (Nat.le_trans (List.length_filterMap_le _ _) (by rw [List.length_range]; omega)) (hB (cs (rowF row)) (tab (cs (rowF row)) s i) (i + 1)) (fun v H2 A B hv s4 kA kB => ?t2) fun L2 H2 nL2 s4 hL2 => ?c2
      case t2 =>
        obtain ⟨j, hj, ej⟩ := List.mem_filterMap.mp hv
        rw [List.mem_range] at hj
        have hb : i + 2 - 2 * s + j ≤ i := by omega
        have pt := put_tab (cs (rowF row)) s hb
        unfold fB at ej
        rw [pt] at ej
        cases hF : F (cs (rowF row)) s (i + 2 - 2 * s + j) with
        | none => rw [hF] at ej; cases ej
        | some u =>
          rw [hF] at ej
          cases ej
          walk_at "go"
          refine ⟨rfl, ?_⟩
          walk_at "go"
          refine U.g_ix (Or.inl (SqL.of (s4 _ _ hq1))) (U.at_nat (show (((i + 2 - 2 * s : Nat) : Int) + (j : Int)) = ((i + 2 - 2 * s + j : Nat) : Int) by omega) (tat hb)) ?_
          rw [hF]
          walk_at "go"
          refine ⟨x, dx, _, rfl, (lx1.same s4).hi, lad_no (by decide +kernel) (by decide +kernel) (by decide +kernel) la lp ls, ?_⟩
          walk_at "go"
          refine ⟨x, dx, la, lp, ls, row, pl, i + 2 - 2 * s + j, i + 1, ?_, lx1.same s4, up, by omega, by omega, hl, ?_⟩
          · rw [show (((i + 2 - 2 * s : Nat) : Int) + (j : Int)) = ((i + 2 - 2 * s + j : Nat) : Int) by omega, show (1 + (i : Int)) = ((i + 1 : Nat) : Int) by omega]
            rfl
          · walk_at "go"
            refine kA _ _ ?_ (Same.refl _)
            show some (V.int ((put (tab (cs (rowF row)) s i) (((i + 2 - 2 * s : Nat) : Int) + (j : Int)).toNat).getD 0 + cs (rowF row) (((i + 2 - 2 * s : Nat) : Int) + (j : Int)).toNat (i + 1))) = _
            rw [show (((i + 2 - 2 * s : Nat) : Int) + (j : Int)).toNat = i + 2 - 2 * s + j by omega, pt, hF]
            rfl
      rw [cand_two] at hL2
      have key := F_near (c := cs (rowF row)) (s := s) s1 (n := i) (N := row.length) (fun b m e h1 h2 h3 => cs_cut (rowF_mon up) h1 h2 h3) (by omega)
      walk_at "go"
      have fin : ∀ v : V, v = oV (F (cs (rowF row)) s (i + 1)) → rAppend (V.ref q) [v] H2 fun _ H1 => ∃ (w3 w4 w5 : Option V), [some (V.ref x), some (V.int (s : Int)), some (V.ref q), some (V.int (1 + (i : Int))), some (V.ref L1), v5] = [some (V.ref x), some (V.int (s : Int)), some (V.ref q), w3, w4, w5] ∧ H1 q = some (.lst ((tab (cs (rowF row)) s (i + 1)).map oV)) ∧ Same H H1 := fun v hv => by
        refine U.g_appL (s4 _ _ hq1) (by rw [tl]; omega) ?_
        refine ⟨_, _, _, rfl, ?_, same_mut (s01.trans s4) nq⟩
        rw [upd_same, tab_succ, List.map_append, hv]
        rfl
      refine MD.g_minD (SqL.of hL2) (fun e => ?_) (fun m m1 m2 => ?_)
      · walk_at "go"
        refine fin _ ?_
        rw [← key, e]
        rfl
      · walk_at "go"
        refine fin _ ?_
        rw [← key, lmin_in m1 m2]
        rfl
theorem sc_ladder_of : FnScope ["values", "value"] ["values"] (defScope s_ladder_of) := ⟨rfl, rfl, rfl, by decide +kernel, rfl, by decide +kernel, by decide +kernel⟩
def sp_ladder_of (CL : Addr) : Sp := fun vs H Q _ => ∃ (b : Addr) (ns : List Int), vs = [.ref b] ∧ H b = some (.tup (ns.map V.int)) ∧ ns.length ≤ 200 ∧ (∀ n ∈ ns, -1000000 ≤ n ∧ n ≤ 1000000) ∧ ∀ (x dx la lp ls : Addr) (row pl : List Int) (H' : Hp), H x = none → Same H H' → LadX CL H' x dx la lp ls row pl → RowOk ns row pl → Q (.ref x) H'
theorem ok_ladder_of (T : Tx K mg) : FnOk P w K mg base CX0 3 T.a_ladder_of T.fd_ladder_of ["values"] (sp_ladder_of T.C_Ladder) := by
  refine T.F_ladder_of.ok sc_ladder_of (fun vs H Q E h => ?_) (fun cdv A outer s H vs Q E hr h => ?_)
  · obtain ⟨b, ns, rfl, _⟩ := h
    rfl
  · obtain ⟨b, ns, rfl, hb, hl, hn, kk⟩ := h
    have hu := hu_of hr
    have hu64 := hr.units
    refine ⟨_, (pss_cons (ps_if (PW.pt (pw_or (pt_not (pt_val (pe_callB (call_uIsi (K := K) rfl) (by rfl) T.n_isinstance (by decide +kernel) (pa_cons (pv 0) (pa_cons (u_ty (n := "tuple") (by rfl) T.n_tuple (by decide +kernel)) pa_nil))))) (pw_or1 (pt_cmpR op_uGt (pe_callB (call_uLen (K := K) rfl) (by rfl) T.n_len (by decide +kernel) (pa_cons (pv 0) pa_nil)) (u_constI (by rfl) T.m_MOST_VALUES) (nomark _))))) (pss_one (ps_never)) pss_nil)
        (pss_cons (ps_if (pt_not (pt_val (pe_callB (call_uAll (K := K) rfl rfl) (by rfl) T.n_all (by decide +kernel) (pa_cons (pe_lc rfl sc_ladder_of.nd (u_tup (K := K) rfl (pv 0)) (blkOk_by (own := [("value", 1)]) (N := ["values", "value"]) (sc := defScope s_ladder_of) (by decide +kernel)) (fun _ _ _ _ _ => (pg_name (i := 1) sc_ladder_of.nd rfl (Or.inl rfl))) (fun _ _ _ _ _ => pts_nil) (fun _ _ _ _ _ => (pe_call (ok_is_line_value T) (hr.mono (by decide)) rfl T.m_is_line_value T.F_is_line_value.kp (b_is_line_value T) .nil pass0 (pa_cons (pv 1) pa_nil)))) pa_nil)))) (pss_one (ps_never)) pss_nil)
        (pss_one (ps_ret (pe_make T.M_Ladder (ok_Ladder___init__ T) (hr.mono (by decide)) rfl T.m_Ladder (b_Ladder___init__ T) .nil pass0 (pa_cons (pv 0) pa_nil)))))), ?_⟩
    walk_at "st"
    walk_at "go"
    refine e_isi (ty_tup hb) (show kitB "tuple" "tuple" = some true by decide +kernel) ?_
    walk_at "go"
    refine U.g_lenL (Or.inr (SqT.of hb)) ?_
    walk_at "go"
    rw [List.length_map, decide_eq_false (show ¬ ((200 : Int) < (ns.length : Int)) by omega)]
    walk_at "go"
    refine e_tup (SqT.of hb) ?_
    refine lcI_tup (fun H' s' => SqT.of (s' _ _ hb)) (by rw [List.length_map]; omega) (fun _ => some (.bl true)) (fun x H' A B hx s' kA kB => ?t1) fun L1 H1 nL1 s1 hL1 => ?c1
    case t1 =>
      obtain ⟨n, hm, rfl⟩ := List.mem_map.mp hx
      obtain ⟨n1, n2⟩ := hn n hm
      walk_at "go"
      refine ⟨rfl, ?_⟩
      walk_at "go"
      refine ⟨_, rfl, .inl ⟨n, rfl, ?_⟩⟩
      rw [decide_eq_true n1, decide_eq_true n2]
      exact kA _ _ rfl (Same.refl _)
    have e : (ns.map V.int).filterMap (fun _ => some (V.bl true)) = (ns.map fun _ => true).map V.bl := by
      rw [LM.fm_some, List.map_map, List.map_map]
      rfl
    rw [e] at hL1
    walk_at "go"
    refine U.g_allB (SqL.of hL1) ?_
    rw [show ((ns.map fun _ => true).all id) = true by simp]
    walk_at "go"
    unfold tMake
    walk_at "go"
    intro x dx nx ndx hne
    have nx' : upd H1 dx (.own x) x = none := by rw [upd_ne (Ne.symm hne)]; exact nx
    have sX : Same H1 (upd (upd H1 dx (.own x)) x (.ins T.C_Ladder dx [])) := (U.same_new ndx).trans (U.same_new nx')
    refine ⟨x, dx, b, ns, rfl, upd_same, sX _ _ (s1 _ _ hb), by omega, fun la lp ls row pl H2 lx ok off => ⟨rfl, ?_⟩⟩
    have s2 : Same H1 H2 := fun c u e => off c u (ne_of_none e nx) (sX c u e)
    exact kk x dx la lp ls row pl H2 (none_of s1 nx) (s1.trans s2) lx ok
theorem sc_sized_ladder : FnScope ["values", "size", "ladder"] ["values", "size"] (defScope s_sized_ladder) := ⟨rfl, rfl, rfl, by decide +kernel, rfl, by decide +kernel, by decide +kernel⟩
def sp_sized_ladder (CL : Addr) : Sp := fun vs H Q _ => ∃ (b : Addr) (ns : List Int) (z : Int), vs = [.ref b, .int z] ∧ H b = some (.tup (ns.map V.int)) ∧ ns.length ≤ 200 ∧ (∀ n ∈ ns, -1000000 ≤ n ∧ n ≤ 1000000) ∧ 1 ≤ z ∧ z ≤ 200 ∧ ∀ (x dx la lp ls : Addr) (row pl : List Int) (H' : Hp), H x = none → Same H H' → LadX CL H' x dx la lp ls row pl → RowOk ns row pl → Q (.ref x) H'
theorem ok_sized_ladder (T : Tx K mg) : FnOk P w K mg base CX0 4 T.a_sized_ladder T.fd_sized_ladder ["values", "size"] (sp_sized_ladder T.C_Ladder) := by
  refine T.F_sized_ladder.ok sc_sized_ladder (fun vs H Q E h => ?_) (fun cdv A outer s H vs Q E hr h => ?_)
  · obtain ⟨b, ns, z, rfl, _⟩ := h
    rfl
  · obtain ⟨b, ns, z, rfl, hb, hl, hn, z1, z2, kk⟩ := h
    have hu := hu_of hr
    have hu64 := hr.units
    refine ⟨_, (pss_cons (ps_set (i := 2) sc_sized_ladder.nd rfl (Or.inl rfl) (pe_call (ok_ladder_of T) (hr.mono (by decide)) rfl T.m_ladder_of T.F_ladder_of.kp (b_ladder_of T) .nil pass0 (pa_cons (pv 0) pa_nil)))
        (pss_cons (ps_if (PW.pt (pw_or (pt_not (pt_val (pe_call (ok_is_integer T) (hr.mono (by decide)) rfl T.m_is_integer T.F_is_integer.kp (b_is_integer T) .nil pass0 (pa_cons (pv 1) pa_nil)))) (pw_or1 (pt_not (pt_chain op_uLe op_uLe (pe_int) (pv 1) (u_constI (by rfl) T.m_MOST_SIZE)))))) (pss_one (ps_never)) pss_nil)
        (pss_one (ps_ret (pv 2))))), ?_⟩
    walk_at "st"
    walk_at "go"
    refine ⟨b, ns, rfl, hb, hl, hn, fun x dx la lp ls row pl H1 nx s1 lx ok => ?_⟩
    walk_at "go"
    refine ⟨_, "int", true, false, rfl, ty_int, by decide +kernel, by decide +kernel, ?_⟩
    walk_at "go"
    rw [if_neg (by decide)]
    walk_at "go"
    rw [decide_eq_true z1]
    walk_at "go"
    rw [decide_eq_true z2]
    walk_at "go"
    exact kk x dx la lp ls row pl H1 nx s1 lx ok
end
end Toy

namespace Toy
open PySem L2 U M
section
variable {P : Program} {w : World} {K : PySem.W.Frag} {mg : Str → Option Value} {base : Heap}
theorem sc_is_tuple_of : FnScope ["value", "many"] ["value", "many"] (defScope s_is_tuple_of) := ⟨rfl, rfl, rfl, by decide +kernel, rfl, by decide +kernel, by decide +kernel⟩
def sp_is_tuple_of (K : PySem.W.Frag) : Sp := fun vs H Q _ => ∃ (x : V) (n : Int), vs = [x, .int n] ∧ ((∃ (a : Addr) (xs : List V), x = .ref a ∧ H a = some (.tup xs) ∧ Q (.bl (decide ((xs.length : Int) = n))) H) ∨ (∃ t : String, TyX K H x (.type t) ∧ kitB t "tuple" = some false ∧ Q (.bl false) H))
theorem ok_is_tuple_of (T : Tx K mg) : FnOk P w K mg base CX0 1 T.a_is_tuple_of T.fd_is_tuple_of ["value", "many"] (sp_is_tuple_of K) := by
  refine T.F_is_tuple_of.ok sc_is_tuple_of (fun vs H Q E h => ?_) (fun cdv A outer s H vs Q E hr h => ?_)
  · obtain ⟨x, n, rfl, _⟩ := h
    rfl
  · obtain ⟨x, n, rfl, kk⟩ := h
    have hu := hu_of hr
    have hu64 := hr.units
    refine ⟨_, (pss_one (ps_ret (pe_and (pe_callB (call_uIsi (K := K) rfl) (by rfl) T.n_isinstance (by decide +kernel) (pa_cons (pv 0) (pa_cons (u_ty (n := "tuple") (by rfl) T.n_tuple (by decide +kernel)) pa_nil))) (pe_one (pe_cmpR (op_uEq (K := K) rfl hu64) (pe_callB (call_uLen (K := K) rfl) (by rfl) T.n_len (by decide +kernel) (pa_cons (pv 0) pa_nil)) (pv 1) (nomark _)))))), ?_⟩
    walk_at "st"
    walk_at "go"
    rcases kk with ⟨a, xs, rfl, ha, kk⟩ | ⟨t, ht, k1, kk⟩
    · refine e_isi (ty_tup ha) (show kitB "tuple" "tuple" = some true by decide +kernel) ?_
      walk_at "go"
      refine U.g_lenL (Or.inr (SqT.of ha)) ?_
      walk_at "go"
      have e : decide (V.int xs.length = V.int n) = decide ((xs.length : Int) = n) := by
        rw [Bool.eq_iff_iff, decide_eq_true_eq, decide_eq_true_eq]
        exact ⟨fun z => V.int.inj z, fun z => by rw [z]⟩
      show Q (.bl (decide (V.int xs.length = V.int n))) H
      rw [e]
      exact kk
    · refine e_isi ht k1 ?_
      walk_at "go"
      exact kk
end
end Toy

namespace Toy
open PySem L2 U M LM
section
variable {P : Program} {w : World} {K : PySem.W.Frag} {mg : Str → Option Value} {base : Heap}
theorem sc_is_number_below : FnScope ["many", "value"] ["many", "value"] (defScope s_is_number_below) := ⟨rfl, rfl, rfl, by decide +kernel, rfl, by decide +kernel, by decide +kernel⟩
def sp_numb (K : PySem.W.Frag) : Sp := fun vs H Q _ => ∃ (m : Int) (x : V), vs = [.int m, x] ∧ plainV x = true ∧ Q (.bl (numB m x)) H
theorem ok_is_number_below (T : Tx K mg) : FnOk P w K mg base CX0 2 T.a_is_number_below T.fd_is_number_below ["many", "value"] (sp_numb K) := by
  refine T.F_is_number_below.ok sc_is_number_below (fun vs H Q E h => ?_) (fun cdv A outer s H vs Q E hr h => ?_)
  · obtain ⟨m, x, rfl, _⟩ := h
    rfl
  · obtain ⟨m, x, rfl, px, kk⟩ := h
    have hu := hu_of hr
    have hu64 := hr.units
    refine ⟨_, (pss_one (ps_ret (pe_and (pe_call (ok_is_integer T) (hr.mono (by decide)) rfl T.m_is_integer T.F_is_integer.kp (b_is_integer T) .nil pass0 (pa_cons (pv 1) pa_nil)) (pe_one (pe_chain op_uLe op_uLt (pe_int) (pv 1) (pv 0)))))), ?_⟩
    walk_at "st"
    walk_at "go"
    by_cases c : ∃ z, x = .int z
    · obtain ⟨z, rfl⟩ := c
      refine ⟨_, "int", true, false, rfl, ty_int, by decide +kernel, by decide +kernel, true, rfl, ?_⟩
      rw [if_pos rfl]
      walk_at "go"
      have kk : Q (.bl (decide (0 ≤ z) && decide (z < m))) H := kk
      by_cases c : 0 ≤ z
      · rw [if_pos (decide_eq_true c)]
        walk_at "go"
        rw [decide_eq_true c, Bool.true_and] at kk
        exact kk
      · rw [if_neg (by simpa using c)]
        rw [decide_eq_false c, Bool.false_and] at kk
        exact kk
    · obtain ⟨t, b1, b2, h1, h2, h3, h4⟩ := plain_int (K := K) (H := H) px fun z e => c ⟨z, e⟩
      refine ⟨x, t, b1, b2, rfl, h1, h2, h3, ?_⟩
      rw [h4]
      walk_at "go"
      have e : numB m x = false := by
        cases x with
        | int z => exact absurd ⟨z, rfl⟩ c
        | _ => rfl
      rw [← e]
      exact kk
theorem sc_is_ascending : FnScope ["parts", "one", "other"] ["parts"] (defScope s_is_ascending) := ⟨rfl, rfl, rfl, by decide +kernel, rfl, by decide +kernel, by decide +kernel⟩
def sp_asc (K : PySem.W.Frag) : Sp := fun vs H Q _ => ∃ (a : Addr) (ns : List Int), vs = [.ref a] ∧ SqT K H a (ns.map V.int) ∧ (∀ H', Same H H' → SqT K H' a (ns.map V.int)) ∧ ns.length ≤ 1000 ∧ ∀ H', Same H H' → Q (.bl (adj ns)) H'
theorem ok_is_ascending (T : Tx K mg) : FnOk P w K mg base CX0 1 T.a_is_ascending T.fd_is_ascending ["parts"] (sp_asc K) := by
  refine T.F_is_ascending.ok sc_is_ascending (fun vs H Q E h => ?_) (fun cdv A outer s H vs Q E hr h => ?_)
  · obtain ⟨a, ns, rfl, _⟩ := h
    rfl
  · obtain ⟨a, ns, rfl, ha, has, hl, kk⟩ := h
    have hu := hu_of hr
    have hu64 := hr.units
    refine ⟨_, (pss_one (ps_ret (pe_callB (call_uAll (K := K) rfl rfl) (by rfl) T.n_all (by decide +kernel) (pa_cons (pe_lc rfl sc_is_ascending.nd (ZT.pi_zipX (K := K) rfl (by rfl) T.n_zip (pa_cons (pv 0) (pa_cons (pe_slice (U.sl_uA (K := K) rfl) (pv 0) (po_some (pe_int)) po_none) pa_nil))) (blkOk_by (own := [("one", 1), ("other", 2)]) (N := ["parts", "one", "other"]) (sc := defScope s_is_ascending) (by decide +kernel)) (fun _ _ _ _ _ => (u_gtup (K := K) (n := 2) rfl rfl (pgs_cons (pg_name (i := 1) sc_is_ascending.nd rfl (Or.inl rfl)) (pgs_cons (pg_name (i := 2) sc_is_ascending.nd rfl (Or.inl rfl)) pgs_nil)))) (fun _ _ _ _ _ => pts_nil) (fun _ _ _ _ _ => (pe_cmpR op_uLt (pv 1) (pv 2) (nomark _)))) pa_nil)))), ?_⟩
    walk_at "st"
    walk_at "go"
    refine U.g_slT has fun c H1 sc hc => ?_
    rw [cut_one, ← List.map_drop] at hc
    walk_at "go"
    refine ⟨a, c, true, true, ns.map V.int, (ns.drop 1).map V.int, rfl, ZT.sq_t (has _ sc), ZT.sq_t (hc _ (Same.refl _)), ?_⟩
    refine ZT.lcI_zipX (fun H' s' => ZT.sq_t (has _ (sc.trans s'))) (fun H' s' => ZT.sq_t (hc _ s')) (by rw [List.length_map]; omega) (fun i => ((ns[i]?).bind fun a => (ns[i + 1]?).bind fun b => some (decide (a < b))).map V.bl) (fun i x y T H' A B ex ey s' hT kA kB => ?t1) fun L H2 nL s2 hL => ?c1
    case t1 =>
      rw [List.getElem?_map] at ex ey
      rw [List.getElem?_drop] at ey
      cases e1 : ns[i]? with
      | none => rw [e1] at ex; cases ex
      | some p =>
        rw [e1] at ex
        cases ex
        rw [show 1 + i = i + 1 by omega] at ey
        cases e2 : ns[i + 1]? with
        | none => rw [e2] at ey; cases ey
        | some q =>
          rw [e2] at ey
          cases ey
          walk_at "go"
          refine ⟨rfl, ?_⟩
          walk_at "go"
          refine kA _ _ ?_ (Same.refl _)
          rw [e1, e2]
          rfl
    rw [List.length_map, List.length_map, List.length_drop, ← List.map_filterMap] at hL
    walk_at "go"
    refine U.g_allB (SqL.of hL) ?_
    rw [adj_all]
    exact kk _ (sc.trans s2)
theorem sc_is_lot_below : FnScope ["many", "value", "number"] ["many", "value"] (defScope s_is_lot_below) := ⟨rfl, rfl, rfl, by decide +kernel, rfl, by decide +kernel, by decide +kernel⟩
def sp_lot (K : PySem.W.Frag) : Sp := fun vs H Q _ => ∃ (m : Int) (x : V), vs = [.int m, x] ∧ ((plainV x = true ∧ Q (.bl false) H) ∨ ∃ (a : Addr) (xs : List V), x = .ref a ∧ H a = some (.tup xs) ∧ xs.all plainV = true ∧ xs.length ≤ 1000 ∧ ∀ H', Same H H' → Q (.bl (lotB m xs)) H')
theorem ok_is_lot_below (T : Tx K mg) : FnOk P w K mg base CX0 3 T.a_is_lot_below T.fd_is_lot_below ["many", "value"] (sp_lot K) := by
  refine T.F_is_lot_below.ok sc_is_lot_below (fun vs H Q E h => ?_) (fun cdv A outer s H vs Q E hr h => ?_)
  · obtain ⟨m, x, rfl, _⟩ := h
    rfl
  · obtain ⟨m, x, rfl, kk⟩ := h
    have hu := hu_of hr
    have hu64 := hr.units
    refine ⟨_, (pss_cons (ps_if (PW.pt (pw_or (pt_not (pt_val (pe_callB (call_uIsi (K := K) rfl) (by rfl) T.n_isinstance (by decide +kernel) (pa_cons (pv 1) (pa_cons (u_ty (n := "tuple") (by rfl) T.n_tuple (by decide +kernel)) pa_nil))))) (pw_or1 (pt_not (pt_val (pe_callB (call_uAll (K := K) rfl rfl) (by rfl) T.n_all (by decide +kernel) (pa_cons (pe_lc rfl sc_is_lot_below.nd (u_tup (K := K) rfl (pv 1)) (blkOk_by (own := [("number", 2)]) (N := ["many", "value", "number"]) (sc := defScope s_is_lot_below) (by decide +kernel)) (fun _ _ _ _ _ => (pg_name (i := 2) sc_is_lot_below.nd rfl (Or.inl rfl))) (fun _ _ _ _ _ => pts_nil) (fun _ _ _ _ _ => (pe_call (ok_is_number_below T) (hr.mono (by decide)) rfl T.m_is_number_below T.F_is_number_below.kp (b_is_number_below T) .nil pass0 (pa_cons (pv 0) (pa_cons (pv 2) pa_nil))))) pa_nil))))))) (pss_one (ps_ret (pe_bl))) pss_nil)
        (pss_one (ps_ret (pe_call (ok_is_ascending T) (hr.mono (by decide)) rfl T.m_is_ascending T.F_is_ascending.kp (b_is_ascending T) .nil pass0 (pa_cons (pv 1) pa_nil))))), ?_⟩
    walk_at "st"
    walk_at "go"
    rcases kk with ⟨px, kk⟩ | ⟨a, xs, rfl, ha, px, hl, kk⟩
    · obtain ⟨t, ht, k1⟩ := plain_tup (K := K) (H := H) px
      refine e_isi ht k1 ?_
      walk_at "go"
      exact kk
    · refine e_isi (ty_tup ha) (show kitB "tuple" "tuple" = some true by decide +kernel) ?_
      walk_at "go"
      refine e_tup (SqT.of ha) ?_
      refine lcI_tup (fun H' s' => SqT.of (s' _ _ ha)) (by omega) (fun v => some (.bl (numB m v))) (fun x H' A B hx s' kA kB => ?t1) fun L1 H1 nL1 s1 hL1 => ?c1
      case t1 =>
        walk_at "go"
        refine ⟨rfl, ?_⟩
        walk_at "go"
        exact ⟨m, x, rfl, List.all_eq_true.mp px x hx, kA _ _ rfl (Same.refl _)⟩
      have e : xs.filterMap (fun v => some (V.bl (numB m v))) = (xs.map (numB m)).map V.bl := by
        rw [LM.fm_some, List.map_map]; rfl
      rw [e] at hL1
      walk_at "go"
      refine U.g_allB (SqL.of hL1) ?_
      rw [show (xs.map (numB m)).all id = xs.all (numB m) by rw [List.all_map]; rfl]
      refine ⟨_, rfl, U.g_2 (fun c => ?_) (fun c => ?_)⟩
      · have c : xs.all (numB m) = false := by simpa using c
        walk_at "go"
        have kk := kk _ s1
        unfold lotB at kk
        rw [c, Bool.false_and] at kk
        exact kk
      · have c : xs.all (numB m) = true := by simpa using c
        obtain ⟨e1, e2⟩ := nums_map c
        walk_at "go"
        refine ⟨a, xs.map iOf, rfl, SqT.of (by rw [← e1]; exact s1 _ _ ha), fun H' s' => SqT.of (by rw [← e1]; exact s' _ _ (s1 _ _ ha)), by rw [List.length_map]; omega, fun H2 s2 => ?_⟩
        have kk := kk _ (s1.trans s2)
        unfold lotB at kk
        rw [c, Bool.true_and] at kk
        exact kk
end
end Toy

namespace LM
open PySem L2 U M
/-- a value that may be a crowd: none for what is no tuple -/
def CrAt (H : Hp) (v : V) (c : Option (List V)) : Prop := match c with
  | none => plainV v = true
  | some xs => ∃ a, v = .ref a ∧ H a = some (.tup xs) ∧ xs.all plainV = true ∧ xs.length ≤ 1000
theorem CrAt.mono {H H' : Hp} (s : Same H H') {v : V} {c : Option (List V)} (h : CrAt H v c) : CrAt H' v c := by
  cases c with
  | none => exact h
  | some xs => obtain ⟨a, e, h1, h2⟩ := h; exact ⟨a, e, s _ _ h1, h2⟩
theorem crs_mono {H H' : Hp} (s : Same H H') {vs : List V} {cs : List (Option (List V))} (h : Paired (CrAt H) vs cs) : Paired (CrAt H') vs cs := prd_mono (fun _ _ => CrAt.mono s) h
def rangeI (n : Nat) : List Int := (List.range n).map fun i : Nat => (i : Int)
/-- crowds for n places and a size -/
def CrowdsOk (n s : Nat) (nss : List (List Int)) : Prop := (∀ ns ∈ nss, ns.Pairwise (· < ·) ∧ (∀ x ∈ ns, 0 ≤ x ∧ x < (n : Int)) ∧ s ≤ ns.length)
structure PartsP (n s : Nat) (cs : List (Option (List V))) : Prop where
  ex : ∃ nss : List (List Int), cs = nss.map (fun ns => some (ns.map V.int)) ∧ CrowdsOk n s nss ∧ nss.flatten.Perm (rangeI n)
/-- one crowd is fine -/
def crB (n s : Nat) (c : Option (List V)) : Bool := match c with
  | none => false
  | some xs => lotB n xs && decide (s ≤ xs.length)
theorem lotB_iff {m : Int} {ns : List Int} : lotB m (ns.map V.int) = true ↔ (∀ x ∈ ns, 0 ≤ x ∧ x < m) ∧ ns.Pairwise (· < ·) := by
  have e : (ns.map V.int).map iOf = ns := by
    rw [List.map_map, show (iOf ∘ V.int) = id from rfl, List.map_id]
  unfold lotB
  rw [Bool.and_eq_true, e, adj_pw, List.all_map, List.all_eq_true]
  refine and_congr ⟨fun h x hx => ?_, fun h x hx => ?_⟩ Iff.rfl
  · have := h x hx
    have this : (decide (0 ≤ x) && decide (x < m)) = true := this
    rw [Bool.and_eq_true, decide_eq_true_eq, decide_eq_true_eq] at this
    exact this
  · show (decide (0 ≤ x) && decide (x < m)) = true
    rw [Bool.and_eq_true, decide_eq_true_eq, decide_eq_true_eq]
    exact h x hx
theorem lotB_ints {m : Int} {xs : List V} (h : lotB m xs = true) : ∃ ns : List Int, xs = ns.map V.int := by
  unfold lotB at h
  rw [Bool.and_eq_true] at h
  exact ⟨xs.map iOf, (nums_map h.1).1⟩
theorem flat_len {B : Nat} : ∀ {nss : List (List Int)}, (∀ ns ∈ nss, ns.length ≤ B) → nss.flatten.length ≤ B * nss.length
  | [], _ => Nat.zero_le _
  | a :: r, h => by
    have h1 := h a List.mem_cons_self
    have h2 := flat_len (nss := r) fun n hn => h n (List.mem_cons_of_mem _ hn)
    rw [List.flatten_cons, List.length_append, List.length_cons, Nat.mul_succ]
    omega
/-- lists of ints compared -/
theorem eqv_ints : ∀ xs ys : List Int, PyData.eqvAll (xs.map PyData.int) (ys.map PyData.int) = decide (xs = ys)
  | [], [] => rfl
  | [], _ :: _ => rfl
  | _ :: _, [] => rfl
  | x :: xs, y :: ys => by
    show ((x == y) && PyData.eqvAll (xs.map PyData.int) (ys.map PyData.int)) = _
    rw [eqv_ints xs ys, Bool.eq_iff_iff, Bool.and_eq_true, decide_eq_true_eq, decide_eq_true_eq, beq_iff_eq, List.cons.injEq]
theorem g_eqL {K : PySem.W.Frag} {H : Hp} {Q : VK} {l m : Addr} {xs ys : List Int} (hl : SqL K H l (xs.map V.int)) (hm : SqL K H m (ys.map V.int)) (q : Q (.bl (decide (xs = ys))) H) : uEq K false (.ref l) (.ref m) H Q := by
  refine Or.inr ⟨.list (xs.map PyData.int), .list (ys.map PyData.int), Dp.lst hl (ints_dp0 xs), Dp.lst hm (ints_dp0 ys), ?_, ?_, ?_⟩
  · exact ints_sh xs
  · exact ints_sh ys
  · rw [if_neg Bool.false_ne_true]
    show Q (.bl (PyData.eqvAll (xs.map PyData.int) (ys.map PyData.int))) H
    rw [eqv_ints]
    exact q
theorem rangeI_up (n : Nat) : (rangeI n).Pairwise (· ≤ ·) := by
  unfold rangeI
  rw [List.pairwise_map]
  refine List.Pairwise.imp (fun {a b} (h : a < b) => ?_) List.pairwise_lt_range
  omega
theorem rangeI_mem {n : Nat} {x : Int} : x ∈ rangeI n ↔ 0 ≤ x ∧ x < n := by
  unfold rangeI
  rw [List.mem_map]
  constructor
  · rintro ⟨i, hi, rfl⟩; rw [List.mem_range] at hi; omega
  · intro h; exact ⟨x.toNat, List.mem_range.mpr (by omega), by omega⟩
theorem rangeI_len (n : Nat) : (rangeI n).length = n := by unfold rangeI; rw [List.length_map, List.length_range]
/-- the loss that crowds shown so have -/
def lossL (ns : List Int) (nss : List (List Int)) (sh : List Int) : Int := ((nss.zip sh).map fun p => (p.1.map fun z => ab (rowF ns z.toNat - p.2)).sum).sum
theorem crB_some {n s : Nat} {ns : List Int} : crB n s (some (ns.map V.int)) = true ↔ ns.Pairwise (· < ·) ∧ (∀ x ∈ ns, 0 ≤ x ∧ x < (n : Int)) ∧ s ≤ ns.length := by
  show (lotB n (ns.map V.int) && decide (s ≤ (ns.map V.int).length)) = true ↔ _
  rw [Bool.and_eq_true, lotB_iff, decide_eq_true_eq, List.length_map]
  exact ⟨fun h => ⟨h.1.2, h.1.1, h.2⟩, fun h => ⟨⟨h.2.1, h.1⟩, h.2.2⟩⟩
theorem PartsP.all {n s : Nat} {cs : List (Option (List V))} (h : PartsP n s cs) : ∀ c ∈ cs, crB n s c = true := fun c hc => by
  obtain ⟨nss, rfl, ok, _⟩ := h.ex
  obtain ⟨ns, hns, rfl⟩ := List.mem_map.mp hc
  exact crB_some.mpr (ok ns hns)
theorem some_inj {a b : List (List Int)} (h : a.map (fun ns => some (ns.map V.int)) = b.map (fun ns => some (ns.map V.int))) : a = b := by
  have inj : ∀ x y : List Int, x.map V.int = y.map V.int → x = y := fun x y e => by
    have := congrArg (List.map iOf) e
    rw [List.map_map, List.map_map, show (iOf ∘ V.int) = id from rfl, List.map_id, List.map_id] at this
    exact this
  induction a generalizing b with
  | nil => cases b with
    | nil => rfl
    | cons y r => cases h
  | cons x a ih => cases b with
    | nil => cases h
    | cons y r =>
      rw [List.map_cons, List.map_cons, List.cons.injEq] at h
      rw [inj x y (Option.some.inj h.1), ih h.2]
theorem rgV_int (n : Nat) : rgV 0 (n : Int) = (rangeI n).map V.int := by
  unfold rgV rangeI
  rw [List.map_map, show ((n : Int) - 0).toNat = n by omega]
  refine List.map_congr_left fun i _ => ?_
  show V.int (0 + (i : Int)) = V.int (i : Int)
  rw [Int.zero_add]
theorem snoc_ex {α : Type} (l : List α) (i : Nat) (h : i < l.length) : l.take (i + 1) = l.take i ++ [l[i]] := by rw [List.take_succ, List.getElem?_eq_getElem h]; rfl
end LM
namespace Toy
open PySem L2 U M LM
section
variable {P : Program} {w : World} {K : PySem.W.Frag} {mg : Str → Option Value} {base : Heap}
theorem sc_Ladder_middles : FnScope ["self", "begin", "end"] ["self", "begin", "end"] (defScope s_Ladder_middles) := ⟨rfl, rfl, rfl, by decide +kernel, rfl, by decide +kernel, by decide +kernel⟩
def sp_Ladder_middles (CL : Addr) : Sp := fun vs H Q _ => ∃ (x dx la lp ls : Addr) (row pl : List Int) (b e : Nat), vs = [.ref x, .int b, .int e] ∧ LadX CL H x dx la lp ls row pl ∧ b < e ∧ e ≤ row.length ∧ row.length ≤ 1000 ∧ ∀ t H', H t = none → Same H H' → H' t = some (.tup [.int (rowF row ((b + e - 1) / 2)), .int (rowF row ((b + e) / 2))]) → Q (.ref t) H'
theorem ok_Ladder_middles (T : Tx K mg) : FnOk P w K mg base CX0 1 T.a_Ladder_middles T.fd_Ladder_middles ["self", "begin", "end"] (sp_Ladder_middles T.C_Ladder) := by
  refine T.F_Ladder_middles.ok sc_Ladder_middles (fun vs H Q E h => ?_) (fun cdv A outer s H vs Q E hr h => ?_)
  · obtain ⟨x, dx, la, lp, ls, row, pl, b, e, rfl, _⟩ := h
    rfl
  · obtain ⟨x, dx, la, lp, ls, row, pl, b, e, rfl, lx, hbe, he, hl, kk⟩ := h
    have hu := hu_of hr
    have hu64 := hr.units
    refine ⟨_, (pss_one (ps_ret (pe_tup (pa_cons (pe_ix (ix_u (K := K) rfl) (u_fld (K := K) rfl (pv 0) rfl) (pe_op op_uDiv (pe_op op_uSub (pe_op (op_uAdd (K := K) rfl) (pv 1) (pv 2)) (pe_int)) (pe_int)) (fun _ _ => rfl)) (pa_cons (pe_ix (ix_u (K := K) rfl) (u_fld (K := K) rfl (pv 0) rfl) (pe_op op_uDiv (pe_op (op_uAdd (K := K) rfl) (pv 1) (pv 2)) (pe_int)) (fun _ _ => rfl)) pa_nil))))), ?_⟩
    walk_at "st"
    walk_at "go"
    have hr1 : ∀ {i : Nat}, i < row.length → (row.map V.int)[i]? = some (V.int (rowF row i)) := fun h => by rw [List.getElem?_map, rowF_at h]; rfl
    refine lx.fa T.cl_Ladder T.na_Ladder_ascending ?_
    walk_at "go"
    refine U.g_ix (Or.inl (SqL.of lx.ha)) (U.at_nat (show ((b : Int) + (e : Int) - 1) / 2 = (((b + e - 1) / 2 : Nat) : Int) by omega) (hr1 (by omega))) ?_
    walk_at "go"
    refine lx.fa T.cl_Ladder T.na_Ladder_ascending ?_
    walk_at "go"
    refine U.g_ix (Or.inl (SqL.of lx.ha)) (U.at_nat (show ((b : Int) + (e : Int)) / 2 = (((b + e) / 2 : Nat) : Int) by omega) (hr1 (by omega))) ?_
    walk_at "go"
    refine ⟨by show 2 ≤ sizeLine; decide, fun t nt => ?_⟩
    exact kk t _ nt (U.same_new nt) upd_same
theorem sc_has_crowds : FnScope ["values", "size"] ["values", "size"] (defScope s_has_crowds) := ⟨rfl, rfl, rfl, by decide +kernel, rfl, by decide +kernel, by decide +kernel⟩
def sp_has : Sp := fun vs H Q _ => ∃ (b : Addr) (ns : List Int) (s : Nat), vs = [.ref b, .int s] ∧ H b = some (.tup (ns.map V.int)) ∧ ns.length ≤ 1000 ∧ Q (.bl (decide (ns.length = 0) || decide (s ≤ ns.length))) H
theorem ok_has_crowds (T : Tx K mg) : FnOk P w K mg base CX0 1 T.a_has_crowds T.fd_has_crowds ["values", "size"] sp_has := by
  refine T.F_has_crowds.ok sc_has_crowds (fun vs H Q E h => ?_) (fun cdv A outer s H vs Q E hr h => ?_)
  · obtain ⟨b, ns, s, rfl, _⟩ := h
    rfl
  · obtain ⟨b, ns, s, rfl, hb, hl, kk⟩ := h
    have hu := hu_of hr
    have hu64 := hr.units
    refine ⟨_, (pss_one (ps_ret (pe_or (pe_cmpR (op_uEq (K := K) rfl hu64) (pe_callB (call_uLen (K := K) rfl) (by rfl) T.n_len (by decide +kernel) (pa_cons (pv 0) pa_nil)) (pe_int) (nomark _)) (pe_one (pe_cmpR op_uGe (pe_callB (call_uLen (K := K) rfl) (by rfl) T.n_len (by decide +kernel) (pa_cons (pv 0) pa_nil)) (pv 1) (nomark _)))))), ?_⟩
    walk_at "st"
    walk_at "go"
    refine U.g_lenL (Or.inr (SqT.of hb)) ?_
    walk_at "go"
    rw [List.length_map]
    rw [if_neg Bool.false_ne_true]
    have e1 : decide (V.int (ns.length : Int) = V.int 0) = decide (ns.length = 0) := by
      rw [Bool.eq_iff_iff, decide_eq_true_eq, decide_eq_true_eq]
      exact ⟨fun z => by have := V.int.inj z; omega, fun z => by rw [z]; rfl⟩
    rw [e1]
    refine U.g_2 (fun c => ?_) (fun c => ?_)
    · rw [c, Bool.true_or] at kk
      exact kk
    · rw [c, Bool.false_or] at kk
      walk_at "go"
      refine U.g_lenL (Or.inr (SqT.of hb)) ?_
      walk_at "go"
      rw [List.length_map, show decide ((s : Int) ≤ (ns.length : Int)) = decide (s ≤ ns.length) by rw [Bool.eq_iff_iff, decide_eq_true_eq, decide_eq_true_eq]; omega]
      exact kk
theorem sc_parts_places : FnScope ["values", "size", "crowds", "placed", "crowd"] ["values", "size", "crowds"] (defScope s_parts_places) := ⟨rfl, rfl, rfl, by decide +kernel, rfl, by decide +kernel, by decide +kernel⟩
def sp_parts (K : PySem.W.Frag) : Sp := fun vs H Q _ => ∃ (b : Addr) (ns : List Int) (s : Nat) (x : V), vs = [.ref b, .int s, x] ∧ H b = some (.tup (ns.map V.int)) ∧ ns.length ≤ 1000 ∧
  ((∃ t, TyX K H x (.type t) ∧ kitB t "tuple" = some false ∧ Q (.bl false) H) ∨ ∃ (a : Addr) (cv : List V) (cs : List (Option (List V))), x = .ref a ∧ H a = some (.tup cv) ∧ Paired (CrAt H) cv cs ∧ cv.length ≤ 1000 ∧ ∀ H' (c : Bool), Same H H' → (c = true ↔ PartsP ns.length s cs) → Q (.bl c) H')
theorem ok_parts_places (T : Tx K mg) : FnOk P w K mg base CX0 4 T.a_parts_places T.fd_parts_places ["values", "size", "crowds"] (sp_parts K) := by
  refine T.F_parts_places.ok sc_parts_places (fun vs H Q E h => ?_) (fun cdv A outer s H vs Q E hr h => ?_)
  · obtain ⟨b, ns, s, x, rfl, _⟩ := h
    rfl
  · obtain ⟨b, ns, s, x, rfl, hb, hl, kk⟩ := h
    have hu := hu_of hr
    have hu64 := hr.units
    refine ⟨_, (pss_cons (ps_if (pt_not (pt_val (pe_callB (call_uIsi (K := K) rfl) (by rfl) T.n_isinstance (by decide +kernel) (pa_cons (pv 2) (pa_cons (u_ty (n := "tuple") (by rfl) T.n_tuple (by decide +kernel)) pa_nil))))) (pss_one (ps_ret (pe_bl))) pss_nil)
        (pss_cons (ps_set (i := 3) sc_parts_places.nd rfl (Or.inl rfl) (pe_lst pa_nil))
        (pss_cons (ps_for PassesOwn.never rfl (u_tup (K := K) rfl (pv 2)) (pg_name (i := 4) sc_parts_places.nd rfl (Or.inl rfl)) (pss_cons (ps_if (PW.pt (pw_or (pt_not (pt_val (pe_call (ok_is_lot_below T) (hr.mono (by decide)) rfl T.m_is_lot_below T.F_is_lot_below.kp (b_is_lot_below T) .nil pass0 (pa_cons (pe_callB (call_uLen (K := K) rfl) (by rfl) T.n_len (by decide +kernel) (pa_cons (pv 0) pa_nil)) (pa_cons (pv 4) pa_nil))))) (pw_or1 (pt_cmpR op_uLt (pe_callB (call_uLen (K := K) rfl) (by rfl) T.n_len (by decide +kernel) (pa_cons (pv 4) pa_nil)) (pv 1) (nomark _))))) (pss_one (ps_ret (pe_bl))) pss_nil)
        (pss_one (ps_expr (pe_bm PySem.F.plainAttrs_list PySem.F.slot_list_extend PySem.F.type_list_extend mt_extend (pv 3) (pa_cons (pe_callTy (call_uList (K := K) rfl) (by rfl) T.n_list (by decide +kernel) (pa_cons (pv 4) pa_nil)) pa_nil))))))
        (pss_one (ps_ret (pe_cmpR (op_uEq (K := K) rfl hu64) (pe_callB (U.call_uSortI (K := K) rfl) (by rfl) T.n_sorted (by decide +kernel) (pa_cons (pv 3) pa_nil)) (pe_listRg rfl rfl T.n_list (prg_1 rfl T.n_range (pe_callB (call_uLen (K := K) rfl) (by rfl) T.n_len (by decide +kernel) (pa_cons (pv 0) pa_nil)))) (nomark _))))))), ?_⟩
    walk_at "st"
    walk_at "go"
    rcases kk with ⟨t, ht, k1, kk⟩ | ⟨a, cv, cs, rfl, ha, hp, hcl, kk⟩
    · refine e_isi ht k1 ?_
      walk_at "go"
      exact kk
    · refine e_isi (ty_tup ha) (show kitB "tuple" "tuple" = some true by decide +kernel) ?_
      walk_at "go"
      refine ⟨by decide, fun l nl => ?_⟩
      have sl := U.same_new (o := .lst []) nl
      walk_at "go"
      refine e_tup (SqT.of (sl _ _ ha)) ?_
      have lcs := prd_len hp
      refine forI_by (walk_tup (K := K) (a := a) (xs := cv)) (fun i σ' H' => ∃ (v4 : Option V) (nss : List (List Int)), σ' = [some (.ref b), some (.int (s : Int)), some (.ref a), some (.ref l), v4] ∧ nss.length = i ∧ cs.take i = nss.map (fun ns => some (ns.map V.int)) ∧ CrowdsOk ns.length s nss ∧ (∀ ns ∈ nss, ns.length ≤ 1000) ∧ H' l = some (.lst (nss.flatten.map V.int)) ∧ Same H H') ⟨none, [], rfl, rfl, rfl, (fun _ h => by cases h), (fun _ h => by cases h), upd_same, sl⟩ (fun i σ' H' _ ⟨_, _, _, _, _, _, _, _, s'⟩ => SqT.of (s' _ _ ha)) ?ts ?td
      case ts =>
        rintro i y σ' _ H' hi ⟨v4, nss, rfl, nl', ct, cok, c1000, hl', s'⟩ ⟨rfl, ey⟩
        obtain ⟨c, ec, cr⟩ := prd_at (crs_mono s' hp) ey
        have hic : i < cs.length := by omega
        have ecs : cs[i] = c := by rw [List.getElem?_eq_getElem hic] at ec; exact Option.some.inj ec
        have cm : c ∈ cs := by rw [← ecs]; exact List.getElem_mem hic
        have no : crB ns.length s c = false → Q (.bl false) H' := fun h => kk H' false s' ⟨(fun z => by cases z), (fun z => by have := z.all c cm; rw [h] at this; cases this)⟩
        walk_at "go"
        refine U.g_lenL (Or.inr (SqT.of (s' _ _ hb))) ?_
        walk_at "go"
        rw [List.length_map]
        cases c with
        | none =>
          refine ⟨_, y, rfl, .inl ⟨cr, ?_⟩⟩
          walk_at "go"
          exact no rfl
        | some xs =>
          obtain ⟨q, rfl, hq, px, xl⟩ := cr
          refine ⟨_, _, rfl, .inr ⟨q, xs, rfl, hq, px, xl, fun H2 s2 => ?_⟩⟩
          have no2 : crB ns.length s (some xs) = false → Q (.bl false) H2 := fun h => kk H2 false (s'.trans s2) ⟨(fun z => by cases z), (fun z => by have := z.all _ cm; rw [h] at this; cases this)⟩
          cases elot : lotB ns.length xs with
          | false =>
            walk_at "go"
            refine no2 ?_
            show (lotB ns.length xs && decide (s ≤ xs.length)) = false
            rw [elot]; rfl
          | true =>
            obtain ⟨ms, rfl⟩ := lotB_ints elot
            walk_at "go"
            refine U.g_lenL (Or.inr (SqT.of (s2 _ _ hq))) ?_
            walk_at "go"
            refine U.g_2 (fun z => ?_) (fun z => ?_)
            · walk_at "go"
              refine no2 ?_
              show (lotB ns.length (ms.map V.int) && decide (s ≤ (ms.map V.int).length)) = false
              have z := of_decide_eq_true z
              rw [decide_eq_false (by omega), Bool.and_false]
            · have z := of_decide_eq_false z
              have c1 : crB ns.length s (some (ms.map V.int)) = true := by
                show (lotB ns.length (ms.map V.int) && decide (s ≤ (ms.map V.int).length)) = true
                rw [elot, decide_eq_true (by omega)]; rfl
              rw [List.length_map] at xl
              have fl := flat_len c1000
              have hl2 := s2 _ _ hl'
              walk_at "go"
              refine U.g_lstC (Or.inr (SqT.of (s2 _ _ hq))) fun m nm => ?_
              have sm0 := U.same_new (o := .lst (ms.map V.int)) nm
              walk_at "go"
              refine U.g_ext (sm0 _ _ hl2) upd_same (by rw [List.length_map, List.length_map]; omega) ?_
              refine ⟨_, nss ++ [ms], rfl, by rw [List.length_append, nl']; rfl, ?_, fun k hk => ?_, fun k hk => ?_, ?_, same_mut ((s'.trans s2).trans sm0) nl⟩
              · rw [snoc_ex cs i hic, ct, ecs, List.map_append]; rfl
              · rcases List.mem_append.mp hk with hk | hk
                · exact cok k hk
                · rw [List.mem_singleton] at hk; subst hk; exact crB_some.mp c1
              · rcases List.mem_append.mp hk with hk | hk
                · exact c1000 k hk
                · rw [List.mem_singleton] at hk; subst hk; exact xl
              · rw [upd_same, ← List.map_append]
                congr 3
                rw [List.flatten_append]
                simp
      case td =>
        rintro σ' H' ⟨v4, nss, rfl, nl', ct, cok, c1000, hl', s'⟩
        rw [lcs, List.take_of_length_le (Nat.le_refl _)] at ct
        walk_at "go"
        refine U.g_sortI (SqL.of hl') fun ns' m p1 p2 nm => ?_
        have sm0 := U.same_new (o := .lst (ns'.map V.int)) nm
        walk_at "go"
        refine U.g_lenL (Or.inr (SqT.of (sm0 _ _ (s' _ _ hb)))) ?_
        walk_at "go"
        rw [List.length_map]
        refine ⟨RgOk.of_le (by omega) (by omega) (by omega) (by omega), fun r nr => ?_⟩
        have sr := U.same_new (o := .lst (rgV 0 (ns.length : Int))) nr
        refine g_eqL (SqL.of (sr _ _ upd_same)) (SqL.of (by rw [upd_same, rgV_int])) ?_
        refine kk _ _ ((s'.trans sm0).trans sr) ?_
        rw [decide_eq_true_eq]
        constructor
        · intro e
          exact ⟨nss, ct, cok, by rw [← e]; exact p1.symm⟩
        · intro h
          obtain ⟨nss2, e2, _, p3⟩ := h.ex
          have e3 := some_inj (e2.symm.trans ct)
          subst e3
          exact ((p1.trans p3).eq_of_pairwise (fun _ _ _ _ h1 h2 => Int.le_antisymm h1 h2) p2 (rangeI_up _))
end
end Toy

namespace LM
open PySem L2 U M
def isIB (v : V) : Bool := match v with
  | .int _ => true
  | _ => false
def lossP (ns : List Int) (p : List Int × Int) : Int := (p.1.map fun z => ab (rowF ns z.toNat - p.2)).sum
theorem lossL_eq (ns : List Int) (nss : List (List Int)) (sh : List Int) : lossL ns nss sh = ((nss.zip sh).map (lossP ns)).sum := rfl
def lossT (ns : List Int) (nss : List (List Int)) (sh : List Int) (i : Nat) : Int := (((nss.zip sh).take i).map (lossP ns)).sum
theorem lossT_succ {ns : List Int} {nss : List (List Int)} {sh : List Int} {i : Nat} {a : List Int} {b : Int} (h1 : nss[i]? = some a) (h2 : sh[i]? = some b) : lossT ns nss sh (i + 1) = lossT ns nss sh i + lossP ns (a, b) := by
  unfold lossT
  have e : (nss.zip sh)[i]? = some (a, b) := by rw [List.getElem?_zip_eq_some]; exact ⟨h1, h2⟩
  rw [List.take_succ, e, List.map_append, List.sum_append]
  simp
theorem lossT_all {ns : List Int} {nss : List (List Int)} {sh : List Int} {i : Nat} (h : (nss.zip sh).length ≤ i) : lossT ns nss sh i = lossL ns nss sh := by
  unfold lossT
  rw [List.take_of_length_le h]; rfl
end LM
namespace Toy
open PySem L2 U M LM
section
variable {P : Program} {w : World} {K : PySem.W.Frag} {mg : Str → Option Value} {base : Heap}
theorem e_plI {H : Hp} {Q : VK} {E : XK} {x : V} (px : plainV x = true) (q : Q (.bl (isIB x)) H) : sp_is_integer K [x] H Q E := by
  by_cases c : ∃ z, x = .int z
  · obtain ⟨z, rfl⟩ := c
    exact ⟨_, "int", true, false, rfl, ty_int, by decide +kernel, by decide +kernel, q⟩
  · obtain ⟨t, b1, b2, h1, h2, h3, h4⟩ := plain_int (K := K) (H := H) px fun z e => c ⟨z, e⟩
    have e : isIB x = false := by
      cases x with
      | int z => exact absurd ⟨z, rfl⟩ c
      | _ => rfl
    rw [e, ← h4] at q
    exact ⟨_, t, b1, b2, rfl, h1, h2, h3, q⟩
theorem sc_are_shown : FnScope ["crowds", "shown", "value"] ["crowds", "shown"] (defScope s_are_shown) := ⟨rfl, rfl, rfl, by decide +kernel, rfl, by decide +kernel, by decide +kernel⟩
def sp_shown (K : PySem.W.Frag) : Sp := fun vs H Q _ => ∃ (a : Addr) (cv : List V) (x : V), vs = [.ref a, x] ∧ H a = some (.tup cv) ∧ cv.length ≤ 1000 ∧
  ((∃ t, TyX K H x (.type t) ∧ kitB t "tuple" = some false ∧ Q (.bl false) H) ∨ ∃ (q : Addr) (xs : List V), x = .ref q ∧ H q = some (.tup xs) ∧ xs.all plainV = true ∧ xs.length ≤ 1000 ∧ ∀ H', Same H H' → Q (.bl (decide (xs.length = cv.length) && xs.all isIB)) H')
theorem ok_are_shown (T : Tx K mg) : FnOk P w K mg base CX0 2 T.a_are_shown T.fd_are_shown ["crowds", "shown"] (sp_shown K) := by
  refine T.F_are_shown.ok sc_are_shown (fun vs H Q E h => ?_) (fun cdv A outer s H vs Q E hr h => ?_)
  · obtain ⟨a, cv, x, rfl, _⟩ := h
    rfl
  · obtain ⟨a, cv, x, rfl, ha, hl, kk⟩ := h
    have hu := hu_of hr
    have hu64 := hr.units
    refine ⟨_, (pss_one (ps_ret (pe_and (pe_call (ok_is_tuple_of T) (hr.mono (by decide)) rfl T.m_is_tuple_of T.F_is_tuple_of.kp (b_is_tuple_of T) .nil pass0 (pa_cons (pv 1) (pa_cons (pe_callB (call_uLen (K := K) rfl) (by rfl) T.n_len (by decide +kernel) (pa_cons (pv 0) pa_nil)) pa_nil))) (pe_one (pe_callB (call_uAll (K := K) rfl rfl) (by rfl) T.n_all (by decide +kernel) (pa_cons (pe_lc rfl sc_are_shown.nd (u_tup (K := K) rfl (pv 1)) (blkOk_by (own := [("value", 2)]) (N := ["crowds", "shown", "value"]) (sc := defScope s_are_shown) (by decide +kernel)) (fun _ _ _ _ _ => (pg_name (i := 2) sc_are_shown.nd rfl (Or.inl rfl))) (fun _ _ _ _ _ => pts_nil) (fun _ _ _ _ _ => (pe_call (ok_is_integer T) (hr.mono (by decide)) rfl T.m_is_integer T.F_is_integer.kp (b_is_integer T) .nil pass0 (pa_cons (pv 2) pa_nil)))) pa_nil)))))), ?_⟩
    walk_at "st"
    walk_at "go"
    refine U.g_lenL (Or.inr (SqT.of ha)) ?_
    walk_at "go"
    rcases kk with ⟨t, ht, k1, kk⟩ | ⟨q, xs, rfl, hq, px, xl, kk⟩
    · refine ⟨x, _, rfl, .inr ⟨t, ht, k1, ?_⟩⟩
      walk_at "go"
      exact kk
    · refine ⟨_, _, rfl, .inl ⟨q, xs, rfl, hq, ?_⟩⟩
      rw [show decide ((xs.length : Int) = (cv.length : Int)) = decide (xs.length = cv.length) by rw [Bool.eq_iff_iff, decide_eq_true_eq, decide_eq_true_eq]; omega]
      refine ⟨_, rfl, U.g_2 (fun c => ?_) (fun c => ?_)⟩
      · rw [c] at kk
        walk_at "go"
        refine e_tup (SqT.of hq) ?_
        refine lcI_tup (fun H' s' => SqT.of (s' _ _ hq)) (by omega) (fun v => some (.bl (isIB v))) (fun x H' A B hx s' kA kB => ?t1) fun L1 H1 nL1 s1 hL1 => ?c1
        case t1 =>
          walk_at "go"
          refine ⟨rfl, ?_⟩
          walk_at "go"
          exact e_plI (List.all_eq_true.mp px x hx) (kA _ _ rfl (Same.refl _))
        rw [show xs.filterMap (fun v => some (V.bl (isIB v))) = (xs.map isIB).map V.bl by rw [LM.fm_some, List.map_map]; rfl] at hL1
        walk_at "go"
        refine U.g_allB (SqL.of hL1) ?_
        rw [show (xs.map isIB).all id = xs.all isIB by rw [List.all_map]; rfl]
        have kk := kk _ s1
        rw [Bool.true_and] at kk
        exact kk
      · have kk := kk _ (Same.refl H)
        rw [c, Bool.false_and] at kk
        exact kk
theorem sc_loss_shown : FnScope ["values", "crowds", "shown", "total", "crowd", "value", "place"] ["values", "crowds", "shown"] (defScope s_loss_shown) := ⟨rfl, rfl, rfl, by decide +kernel, rfl, by decide +kernel, by decide +kernel⟩
def sp_lossS : Sp := fun vs H Q _ => ∃ (b a q : Addr) (ns : List Int) (cv : List V) (nss : List (List Int)) (sh : List Int), vs = [.ref b, .ref a, .ref q] ∧ H b = some (.tup (ns.map V.int)) ∧ H a = some (.tup cv) ∧ Paired (CrAt H) cv (nss.map fun ns => some (ns.map V.int)) ∧ H q = some (.tup (sh.map V.int)) ∧ sh.length = nss.length ∧ nss.length ≤ 1000 ∧
  (∀ k ∈ nss, ∀ x ∈ k, 0 ≤ x ∧ x < (ns.length : Int)) ∧ ∀ H', Same H H' → Q (.int (lossL ns nss sh)) H'
theorem ok_loss_shown (T : Tx K mg) : FnOk P w K mg base CX0 1 T.a_loss_shown T.fd_loss_shown ["values", "crowds", "shown"] sp_lossS := by
  refine T.F_loss_shown.ok sc_loss_shown (fun vs H Q E h => ?_) (fun cdv A outer s H vs Q E hr h => ?_)
  · obtain ⟨b, a, q, ns, cv, nss, sh, rfl, _⟩ := h
    rfl
  · obtain ⟨b, a, q, ns, cv, nss, sh, rfl, hb, ha, hp, hq, sl, nl, rg, kk⟩ := h
    have hu := hu_of hr
    have hu64 := hr.units
    refine ⟨_, (pss_cons (ps_set (i := 3) sc_loss_shown.nd rfl (Or.inl rfl) (pe_int))
        (pss_cons (ps_for PassesOwn.never rfl (ZT.pi_zipX (K := K) rfl (by rfl) T.n_zip (pa_cons (pv 1) (pa_cons (pv 2) pa_nil))) (u_gtup (K := K) (n := 2) rfl rfl (pgs_cons (pg_name (i := 4) sc_loss_shown.nd rfl (Or.inl rfl)) (pgs_cons (pg_name (i := 5) sc_loss_shown.nd rfl (Or.inr rfl)) pgs_nil))) (pss_one (ps_aug (i := 3) sc_loss_shown.nd rfl (Or.inl rfl) (pe_callB (call_uSum (K := K) rfl rfl) (by rfl) T.n_sum (by decide +kernel) (pa_cons (pe_lc rfl sc_loss_shown.nd (u_tup (K := K) rfl (pv 4)) (blkOk_by (own := [("place", 6)]) (N := ["values", "crowds", "shown", "total", "crowd", "value", "place"]) (sc := defScope s_loss_shown) (by decide +kernel)) (fun _ _ _ _ _ => (pg_name (i := 6) sc_loss_shown.nd rfl (Or.inl rfl))) (fun _ _ _ _ _ => pts_nil) (fun _ _ _ _ _ => (pe_callB call_uAbs (by rfl) T.n_abs (by decide +kernel) (pa_cons (pe_op op_uSub (pe_ix (ix_u (K := K) rfl) (pv 0) (pv 6) (fun _ _ => rfl)) (pv 5)) pa_nil)))) pa_nil)) ip_add)))
        (pss_one (ps_ret (pv 3))))), ?_⟩
    walk_at "st"
    walk_at "go"
    have lcv := prd_len hp
    rw [List.length_map] at lcv
    refine ⟨a, q, true, true, cv, sh.map V.int, rfl, ZT.sq_t (SqT.of ha), ZT.sq_t (SqT.of hq), ?_⟩
    refine forI_by (ZT.walk_zipX (K := K) (t1 := true) (t2 := true) (a := a) (b := q) (xs := cv) (ys := sh.map V.int)) (fun i σ' H' => ∃ (v4 v5 v6 : Option V), σ' = [some (.ref b), some (.ref a), some (.ref q), some (.int (lossT ns nss sh i)), v4, v5, v6] ∧ Same H H') ⟨none, none, none, rfl, Same.refl _⟩ (fun i σ' H' _ ⟨_, _, _, _, s'⟩ => ⟨ZT.sq_t (SqT.of (s' _ _ ha)), ZT.sq_t (SqT.of (s' _ _ hq))⟩) ?ts ?td
    case td =>
      rintro σ' H' ⟨v4, v5, v6, rfl, s'⟩
      rw [lossT_all (by rw [List.length_zip, List.length_map]; omega)]
      walk_at "go"
      exact kk _ s'
    case ts =>
      rintro i y σ' H' H'' hi ⟨v4, v5, v6, rfl, s'⟩ ⟨t, a1, a2, rfl, nt, rfl, e1, e2⟩
      have sT := U.same_new (o := .tup [a1, a2]) nt
      obtain ⟨c, ec, cr⟩ := prd_at (crs_mono (s'.trans sT) hp) e1
      have e2 : (sh.map V.int)[i]? = some a2 := e2
      rw [List.getElem?_map] at ec e2
      cases en : nss[i]? with
      | none => rw [en] at ec; cases ec
      | some k =>
        rw [en] at ec
        cases ec
        obtain ⟨m, rfl, hm, _, ml⟩ := cr
        cases es : sh[i]? with
        | none => rw [es] at e2; cases e2
        | some z =>
          rw [es] at e2
          cases e2
          rw [List.length_map] at ml
          have kr := rg k (List.mem_of_getElem? en)
          have hb1 := (s'.trans sT) _ _ hb
          walk_at "go"
          refine ⟨_, rfl, ?_⟩
          walk_at "go"
          refine e_tup (SqT.of hm) ?_
          refine lcI_tup (fun H' s' => SqT.of (s' _ _ hm)) (by rw [List.length_map]; omega) (fun v => match v with | .int x => some (.int (ab (rowF ns x.toNat - z))) | _ => none) (fun x H2 A B hx s2 kA kB => ?t1) fun L1 H2 nL1 s2 hL1 => ?c1
          case t1 =>
            obtain ⟨x, hxk, rfl⟩ := List.mem_map.mp hx
            obtain ⟨x0, x1⟩ := kr x hxk
            walk_at "go"
            refine ⟨rfl, ?_⟩
            walk_at "go"
            refine U.g_ix (Or.inr (SqT.of (s2 _ _ hb1))) (U.at_nat (show x = ((x.toNat : Nat) : Int) by omega) (show (ns.map V.int)[x.toNat]? = some (V.int (rowF ns x.toNat)) by rw [List.getElem?_map, rowF_at (by omega)]; rfl)) ?_
            walk_at "go"
            exact kA _ _ rfl (Same.refl _)
          have e3 : (k.map V.int).filterMap (fun v => match v with | .int x => some (V.int (ab (rowF ns x.toNat - z))) | _ => none) = (k.map fun x => ab (rowF ns x.toNat - z)).map V.int := by
            rw [List.filterMap_map, List.map_map, ← List.filterMap_eq_map]
            rfl
          rw [e3] at hL1
          walk_at "go"
          refine U.g_sum (SqL.of hL1) ?_
          refine ⟨_, _, rfl, rfl, ?_⟩
          exact ⟨_, _, _, by rw [lossT_succ en es]; rfl, (s'.trans sT).trans s2⟩
end
end Toy

namespace LM
open PySem L2 U M
theorem ints_dp {K : PySem.W.Frag} {H : Hp} : ∀ ns : List Int, DpAll K H (ns.map V.int) (ns.map PyData.int)
  | [] => .nil
  | n :: r => .cons (.int n) (ints_dp r)
theorem ints_shaped (ns : List Int) : SeqAt.shaped (.list (ns.map PyData.int)) = true := by
  unfold SeqAt.shaped
  rw [Bool.and_eq_true]
  refine ⟨lay_all fun d hd => ?_, decide_eq_true ?_⟩
  · obtain ⟨p, hp, rfl⟩ := List.mem_map.mp hd
    rfl
  · have := MD.depth_ints ns
    simp only [PyData.depth]
    omega
/-- a list of ints != [] -/
theorem g_neNil {K : PySem.W.Frag} {H : Hp} {Q : VK} {l m : Addr} {ns : List Int} (hl : SqL K H l (ns.map V.int)) (hm : SqL K H m []) (q : Q (.bl (!ns.isEmpty)) H) : uEq K true (.ref l) (.ref m) H Q := by
  refine Or.inr ⟨.list (ns.map PyData.int), .list [], Dp.lst hl (ints_dp ns), Dp.lst hm .nil, ints_shaped ns, by decide +kernel, ?_⟩
  have e : PyData.eqv (.list (ns.map PyData.int)) (.list []) = ns.isEmpty := by
    cases ns with
    | nil => simp only [List.map_nil, PyData.eqv, PyData.eqvAll, List.isEmpty_nil]
    | cons n r => simp only [List.map_cons, PyData.eqv, PyData.eqvAll, List.isEmpty_cons]
  rw [e, if_pos rfl]
  exact q
def upW (w : Int) : Int := if w = 0 then 3 else if w = 1 then 9 else if w = 2 then 2000 else 7
def ofW (w : Int) : Int := if w = 0 then 0 else if w = 1 then -4 else if w = 2 then -1000 else 999990
theorem w_at {w : Int} (h0 : 0 ≤ w) (h1 : w < 4) : ([.int 3, .int 9, .int 2000, .int 7] : List V)[w.toNat]? = some (.int (upW w)) ∧ ([.int 0, .int (-4), .int (-1000), .int 999990] : List V)[w.toNat]? = some (.int (ofW w)) ∧ 0 < upW w ∧ upW w < 2 ^ 62 ∧ ∀ r : Int, 0 ≤ r → r < upW w → -1000000 ≤ r + ofW w ∧ r + ofW w ≤ 1000000 := by
  have : w = 0 ∨ w = 1 ∨ w = 2 ∨ w = 3 := by omega
  rcases this with rfl | rfl | rfl | rfl
  all_goals
    refine ⟨rfl, rfl, by decide, by decide, fun r r0 r1 => ?_⟩
    unfold upW at r1
    unfold ofW
    simp at r1 ⊢
    omega
end LM
namespace Toy
open PySem L2 U M LM
theorem sb_free {p a : Addr} {n : Nat} {H H' : Hp} (s : SB p H H') (hp : PotAt H' p n) (na : H' a = none) : H a = none := by
  cases e : H a with
  | none => rfl
  | some o =>
    have := s a o e (pot_ne hp na)
    rw [na] at this
    cases this
theorem mapI_at {ms : List Int} {j : Nat} {y : V} (h : (ms.map V.int)[j]? = some y) : ∃ z ∈ ms, y = .int z := by
  obtain ⟨z, hz, e⟩ := List.mem_map.mp (List.mem_of_getElem? h)
  exact ⟨z, hz, e.symm⟩
section
variable {P : Program} {w : World} {K : PySem.W.Frag} {mg : Str → Option Value} {base : Heap}
theorem sc__law_line_values : FnScope ["pot", "most", "amount", "way", "some", "found", "lap"] ["pot", "most"] (defScope s__law_line_values) := ⟨rfl, rfl, rfl, by decide +kernel, rfl, by decide +kernel, by decide +kernel⟩
def sp_lvals : Sp := fun vs H Q _ => ∃ (p : Addr) (m n : Nat), vs = [.ref p, .int m] ∧ m ≤ 60 ∧ PotAt H p (n + 2 * m + 20) ∧ ∀ (q : Addr) (ns : List Int) (H' : Hp), H q = none → H' q = some (.tup (ns.map V.int)) → ns.length ≤ m → inB ns → PotAt H' p n → SB p H H' → Q (.ref q) H'
theorem ok__law_line_values (T : Tx K mg) : FnOk P w K mg base CX0 3 T.a__law_line_values T.fd__law_line_values ["pot", "most"] sp_lvals := by
  refine T.F__law_line_values.ok sc__law_line_values (fun vs H Q E h => ?_) (fun cdv A outer s H vs Q E hr h => ?_)
  · obtain ⟨p, m, n, rfl, _⟩ := h
    rfl
  · obtain ⟨p, m, n, rfl, hm, hp, kk⟩ := h
    have hu := hu_of hr
    have hu64 := hr.units
    refine ⟨_, (pss_cons (ps_asg (pe_tup (pa_cons (pe_call (ok__law_take T) (hr.mono (by decide)) rfl T.m__law_take T.F__law_take.kp (b__law_take T) .nil pass0 (pa_cons (pv 0) (pa_cons (pe_op (op_uAdd (K := K) rfl) (pv 1) (pe_int)) pa_nil))) (pa_cons (pe_call (ok__law_take T) (hr.mono (by decide)) rfl T.m__law_take T.F__law_take.kp (b__law_take T) .nil pass0 (pa_cons (pv 0) (pa_cons (pe_int) pa_nil))) pa_nil))) (u_gtup (K := K) (n := 2) rfl rfl (pgs_cons (pg_name (i := 2) sc__law_line_values.nd rfl (Or.inl rfl)) (pgs_cons (pg_name (i := 3) sc__law_line_values.nd rfl (Or.inr rfl)) pgs_nil))))
        (pss_cons (ps_set (i := 4) sc__law_line_values.nd rfl (Or.inr rfl) (pe_lc rfl sc__law_line_values.nd (pi_range1 (by rfl) T.n_range (pa_cons (pe_op (op_uAdd (K := K) rfl) (pe_int) (pv 2)) pa_nil)) (blkOk_by (own := [("lap", 6)]) (N := ["pot", "most", "amount", "way", "some", "found", "lap"]) (sc := defScope s__law_line_values) (by decide +kernel)) (fun _ _ _ _ _ => (pg_name (i := 6) sc__law_line_values.nd rfl (Or.inl rfl))) (fun _ _ _ _ _ => pts_nil) (fun _ _ _ _ _ => (pe_callTy call_uInt (by rfl) T.n_int (by decide +kernel) (pa_cons (pe_op (op_uAdd (K := K) rfl) (pe_call (ok__law_take T) (hr.mono (by decide)) rfl T.m__law_take T.F__law_take.kp (b__law_take T) .nil pass0 (pa_cons (pv 0) (pa_cons (pe_ix (ix_u (K := K) rfl) (pe_lst (pa_cons (pe_int) (pa_cons (pe_int) (pa_cons (pe_int) (pa_cons (pe_int) pa_nil))))) (pv 3) (fun _ _ => rfl)) pa_nil))) (pe_ix (ix_u (K := K) rfl) (pe_lst (pa_cons (pe_int) (pa_cons (pe_un op_uNeg (pe_int)) (pa_cons (pe_un op_uNeg (pe_int)) (pa_cons (pe_int) pa_nil))))) (pv 3) (fun _ _ => rfl))) pa_nil)))))
        (pss_cons (ps_setLc (i := 5) rfl sc__law_line_values.nd rfl rfl (sw_true rfl rfl rfl (by decide +kernel)) (pi_range1 (by rfl) T.n_range (pa_cons (pv 2) pa_nil)) (blkOk_by (own := [("lap", 6)]) (N := ["pot", "most", "amount", "way", "some", "found", "lap"]) (sc := defScope s__law_line_values) (by decide +kernel)) (fun _ _ _ _ _ => (pg_name (i := 6) sc__law_line_values.nd rfl (Or.inl rfl))) (fun _ _ _ _ _ => pts_nil) (fun _ _ _ _ _ => (pe_callTy call_uInt (by rfl) T.n_int (by decide +kernel) (pa_cons (pe_call (ok__law_of T) (hr.mono (by decide)) rfl T.m__law_of T.F__law_of.kp (b__law_of T) .nil pass0 (pa_cons (pv 0) (pa_cons (pv 4) pa_nil))) pa_nil))))
        (pss_cons (ps_if (PW.pt (pw_and (pt_cmpR (op_uNe (K := K) rfl hu64) (pv 5) (pe_lst pa_nil) (nomark _)) (pw_and1 (pt_cmpR (op_uEq (K := K) rfl hu64) (pe_call (ok__law_take T) (hr.mono (by decide)) rfl T.m__law_take T.F__law_take.kp (b__law_take T) .nil pass0 (pa_cons (pv 0) (pa_cons (pe_int) pa_nil))) (pe_int) (nomark _))))) (pss_one (ps_asg (pe_callTy call_uInt (by rfl) T.n_int (by decide +kernel) (pa_cons (pe_call (ok__law_of T) (hr.mono (by decide)) rfl T.m__law_of T.F__law_of.kp (b__law_of T) .nil pass0 (pa_cons (pv 0) (pa_cons (pe_lst (pa_cons (pe_op op_uPow (pe_int) (pe_int)) (pa_cons (pe_un op_uNeg (pe_op op_uPow (pe_int) (pe_int))) pa_nil))) pa_nil))) pa_nil)) (pg_sub (pv 5) (pe_call (ok__law_take T) (hr.mono (by decide)) rfl T.m__law_take T.F__law_take.kp (b__law_take T) .nil pass0 (pa_cons (pv 0) (pa_cons (pv 2) pa_nil))) set_list))) pss_nil)
        (pss_one (ps_ret (pe_callTy (call_uTuple (K := K) rfl) (by rfl) T.n_tuple (by decide +kernel) (pa_cons (pv 5) pa_nil)))))))), ?_⟩
    walk_at "st"
    walk_at "go"
    refine ⟨p, m + 1, n + 2 * m + 19, rfl, by omega, by omega, hp, fun r H1 r0 r1 hp1 s1 => ?_⟩
    obtain ⟨k, rfl⟩ : ∃ k : Nat, r = (k : Int) := ⟨r.toNat, by omega⟩
    walk_at "go"
    refine ⟨p, 4, n + 2 * m + 18, rfl, by decide, by decide, hp1, fun w H2 w0 w1 hp2 s2 => ?_⟩
    obtain ⟨wa, wb, wc, wd, we⟩ := w_at w0 w1
    walk_at "go"
    refine ⟨by show 2 ≤ sizeLine; decide, fun t nt => ?_⟩
    have s12 : SB p H (upd H2 t (.tup [.int (k : Int), .int w])) := (s1.trans s2).new nt
    have hp2' := hp2.new (o := .tup [.int (k : Int), .int w]) nt
    walk_at "go"
    generalize hH : upd H2 t (.tup [.int (k : Int), .int w]) = H3 at s12 hp2' ⊢
    refine e_rng (by omega) (by omega) ?_
    rw [show (1 + (k : Int)).toNat = k + 1 by omega]
    refine lcI_by walk_range (by omega) fun Ea nE => ⟨fun i acc H' => ∃ ms : List Int, acc = ms.map V.int ∧ ms.length = i ∧ inB ms ∧ PotAt H' p (n + 2 * m + 18 - i) ∧ SB p H H', ⟨[], rfl, rfl, (fun _ h => by cases h), hp2'.new nE, s12.new nE⟩, fun _ _ _ _ _ => trivial, ?turn, ?rest⟩
    case turn =>
      rintro i x acc H' _ A B hi hacc ⟨ms, rfl, ml, mb, hpi, si⟩ ⟨rfl, rfl⟩ kA kB
      have Ep : Ea ≠ p := pot_ne hp2' nE
      walk_at "go"
      refine ⟨rfl, ?_⟩
      walk_at "go"
      refine ⟨by decide, fun a na => ?_⟩
      walk_at "go"
      refine U.g_ix (Or.inl (SqL.of upd_same)) (U.at_nat (show w = ((w.toNat : Nat) : Int) by omega) wa) ?_
      walk_at "go"
      refine ⟨p, upW w, n + 2 * m + 18 - (i + 1), rfl, wc, wd, (hpi.new na).le (by omega), fun z H4 z0 z1 hp4 s4 => ?_⟩
      walk_at "go"
      refine ⟨by decide, fun b nb => ?_⟩
      walk_at "go"
      refine U.g_ix (Or.inl (SqL.of upd_same)) (U.at_nat (show w = ((w.toNat : Nat) : Int) by omega) wb) ?_
      walk_at "go"
      refine kA _ _ (get_new nb (s4 _ _ (get_new na hacc) Ep)) ⟨ms ++ [z + ofW w], by rw [List.map_append]; rfl, by rw [List.length_append, ml]; rfl, ?_, ((hp4.new nb).put (Ne.symm Ep)).le (by omega), ?_⟩
      · intro y hy
        rcases List.mem_append.mp hy with hy | hy
        · exact mb y hy
        · rw [List.mem_singleton] at hy
          subst hy
          exact we z z0 z1
      · exact (((si.new na).trans s4).new nb).mut (sb_free s12 hp2' nE)
    case rest =>
      rintro acc H4 hE ⟨ms, rfl, ml, mb, hp4, s4⟩
      walk_at "go"
      have Ep : Ea ≠ p := pot_ne hp2' nE
      refine e_rng (by omega) (by omega) ?_
      rw [show ((k : Int)).toNat = k by omega]
      refine lcI_by walk_range (by omega) fun Eb nE2 => ⟨fun i acc H' => ∃ ns : List Int, acc = ns.map V.int ∧ ns.length = i ∧ inB ns ∧ PotAt H' p (n + m + 10 - i) ∧ SB p H H' ∧ H' Ea = some (.lst (ms.map V.int)), ⟨[], rfl, rfl, (fun _ h => by cases h), (hp4.new nE2).le (by omega), s4.new nE2, get_new nE2 hE⟩, fun _ _ _ _ _ => trivial, ?turn2, ?rest2⟩
      case turn2 =>
        rintro i x acc H' _ A B hi hacc ⟨ns, rfl, nl, nb, hpi, si, hEa⟩ ⟨rfl, rfl⟩ kA kB
        have Ep2 : Eb ≠ p := pot_ne hp4 nE2
        have Eab : Ea ≠ Eb := ne_of_none hE nE2
        walk_at "go"
        refine ⟨rfl, ?_⟩
        walk_at "go"
        refine ⟨p, .ref Ea, n + m + 10 - (i + 1), rfl, hpi.le (by omega), Or.inl ⟨Ea, _, rfl, Or.inl (SqL.of hEa), by rw [List.length_map]; omega, by rw [List.length_map]; omega, fun H5 s5 => Or.inl (SqL.of (s5 _ _ hEa Ep)), fun j y H5 hy hp5 s5 => ?_⟩⟩
        obtain ⟨z, hz, rfl⟩ := mapI_at hy
        walk_at "go"
        refine kA _ _ (s5 _ _ hacc Ep2) ⟨ns ++ [z], by rw [List.map_append]; rfl, by rw [List.length_append, nl]; rfl, ?_, hp5.put (Ne.symm Ep2), (si.trans s5).mut (sb_free s4 hp4 nE2), get_ne Eab (s5 _ _ hEa Ep)⟩
        intro y hy
        rcases List.mem_append.mp hy with hy | hy
        · exact nb y hy
        · rw [List.mem_singleton] at hy
          subst hy
          exact mb y hz
      case rest2 =>
        rintro acc H5 hEb ⟨ns, rfl, nl, nb, hp5, s5, hEa⟩
        have Ep2 : Eb ≠ p := pot_ne hp4 nE2
        have fin : ∀ (ns' : List Int) (H6 : Hp), H6 Eb = some (.lst (ns'.map V.int)) → ns'.length = k → inB ns' → PotAt H6 p n → SB p H H6 → uTupC K [.ref Eb] H6 Q := fun ns' H6 h1 h2 h3 h4 h5 => by
          refine U.g_tupL (SqL.of h1) fun q nq => ?_
          exact kk q ns' _ (sb_free h5 h4 nq) upd_same (by omega) h3 (h4.new nq) (h5.new nq)
        walk_at "go"
        refine ⟨by decide, fun a na => ?_⟩
        have hp6 := (hp5.new (o := .lst []) na).le (show n + 10 ≤ n + m + 10 - k by omega)
        have s6 := s5.new (o := .lst []) na
        have hEb6 := get_new (o := .lst []) na hEb
        have nsl : (ns.map V.int).length = k := by rw [List.length_map, nl]
        refine g_neNil (SqL.of hEb6) (SqL.of upd_same) ?_
        generalize upd H5 a (.lst []) = H6 at hp6 s6 hEb6 ⊢
        refine ⟨_, rfl, U.g_2 (fun c => ?_) (fun c => ?_)⟩
        · have k0 : 0 < k := by
            cases ns with
            | nil => cases c
            | cons x r => rw [← nl]; exact Nat.succ_pos _
          walk_at "go"
          refine ⟨p, 6, n + 9, rfl, by decide, by decide, hp6, fun r6 H7 r60 r61 hp7 s7 => ?_⟩
          have hEb7 := s7 _ _ hEb6 Ep2
          have s07 := s6.trans s7
          walk_at "go"
          refine U.g_2 (fun c => ?_) (fun c => ?_)
          · walk_at "go"
            refine ⟨by decide, fun b nb' => ?_⟩
            refine ⟨p, .ref b, n + 8, rfl, (hp7.new nb').le (by omega), Or.inl ⟨b, _, rfl, Or.inl (SqL.of upd_same), by decide, by decide, fun H8 s8 => Or.inl (SqL.of (s8 _ _ upd_same (pot_ne hp7 nb'))), fun j y H8 hy hp8 s8 => ?_⟩⟩
            obtain ⟨z, rfl, z0, z1⟩ := intIn_out (all_at (f := intIn (-1000000) 1000000) (by decide +kernel) hy)
            have hEb8 := s8 _ _ (get_new nb' hEb7) Ep2
            have s08 := (s07.new nb').trans s8
            walk_at "go"
            refine ⟨p, k, n + 7, rfl, by omega, by omega, hp8, fun r9 H9 r90 r91 hp9 s9 => ?_⟩
            have hEb9 := s9 _ _ hEb8 Ep2
            have s09 := s08.trans s9
            refine U.g_setL hEb9 (show ixN (ns.map V.int).length r9 = some r9.toNat by unfold ixN; rw [nsl, if_pos r90, if_pos (by omega)]) ?_
            walk_at "go"
            refine fin (ns.set r9.toNat z) _ (by rw [upd_same, List.map_set]) (by rw [List.length_set, nl]) (fun y hy => ?_) ((hp9.put (Ne.symm Ep2)).le (by omega)) (s09.mut (sb_free s4 hp4 nE2))
            rcases List.mem_or_eq_of_mem_set hy with h | h
            · exact nb y h
            · subst h; exact ⟨z0, z1⟩
          · walk_at "go"
            exact fin ns _ hEb7 nl nb (hp7.le (by omega)) s07
        · have e : (!ns.isEmpty) = false := c
          walk_at "go"
          exact fin ns _ hEb6 nl nb (hp6.le (by omega)) s6
theorem sc__law_crowd_cost : FnScope ["members", "row", "one"] ["members"] (defScope s__law_crowd_cost) := ⟨rfl, rfl, rfl, by decide +kernel, rfl, by decide +kernel, by decide +kernel⟩
def sp_cost (K : PySem.W.Frag) : Sp := fun vs H Q _ => ∃ (l : Addr) (ns row : List Int), vs = [.ref l] ∧ (SqL K H l (ns.map V.int) ∨ SqT K H l (ns.map V.int)) ∧ 0 < ns.length ∧ ns.length ≤ 1000 ∧ Row ns row ∧ ∀ H' : Hp, Same H H' → Q (.int (cs (rowF row) 0 row.length)) H'
theorem ok__law_crowd_cost (T : Tx K mg) : FnOk P w K mg base CX0 1 T.a__law_crowd_cost T.fd__law_crowd_cost ["members"] (sp_cost K) := by
  refine T.F__law_crowd_cost.ok sc__law_crowd_cost (fun vs H Q E h => ?_) (fun cdv A outer s H vs Q E hr h => ?_)
  · obtain ⟨l, ns, row, rfl, _⟩ := h
    rfl
  · obtain ⟨l, ns, row, rfl, hl, l0, l1, hrow, kk⟩ := h
    have hu := hu_of hr
    have hu64 := hr.units
    refine ⟨_, (pss_cons (ps_set (i := 1) sc__law_crowd_cost.nd rfl (Or.inr rfl) (pe_callB (ST.cr_sortLT (K := K) rfl) (by rfl) T.n_sorted (by decide +kernel) (pa_cons (pv 0) pa_nil)))
        (pss_one (ps_ret (pe_callTy call_uInt (by rfl) T.n_int (by decide +kernel) (pa_cons (pe_callB (call_uSum (K := K) rfl rfl) (by rfl) T.n_sum (by decide +kernel) (pa_cons (pe_lc rfl sc__law_crowd_cost.nd (u_list (K := K) rfl (pv 1)) (blkOk_by (own := [("one", 2)]) (N := ["members", "row", "one"]) (sc := defScope s__law_crowd_cost) (by decide +kernel)) (fun _ _ _ _ _ => (pg_name (i := 2) sc__law_crowd_cost.nd rfl (Or.inl rfl))) (fun _ _ _ _ _ => pts_nil) (fun _ _ _ _ _ => (pe_callB call_uAbs (by rfl) T.n_abs (by decide +kernel) (pa_cons (pe_op op_uSub (pv 2) (pe_ix (ix_u (K := K) rfl) (pv 1) (pe_op op_uDiv (pe_callB (call_uLen (K := K) rfl) (by rfl) T.n_len (by decide +kernel) (pa_cons (pv 1) pa_nil)) (pe_int)) (fun _ _ => rfl))) pa_nil)))) pa_nil)) pa_nil))))), ?_⟩
    walk_at "st"
    walk_at "go"
    refine ST.g_sortLT hl fun ns' q h1 h2 nq => ?_
    cases hrow.uniq ⟨h1, h2⟩
    have rl := hrow.len
    have sq := U.same_new (o := .lst (row.map V.int)) nq
    walk_at "go"
    refine e_list (SqL.of upd_same) ?_
    refine lcI_list (SqL.of upd_same) (by rw [List.length_map]; omega) (fun v => match v with | .int z => some (.int (ab (z - rowF row (row.length / 2)))) | _ => none) (fun x H2 A B hx s2 kA kB => ?t1) fun L1 H2 nL1 s2 hL1 => ?c1
    case t1 =>
      obtain ⟨n, hm, rfl⟩ := List.mem_map.mp hx
      have hq2 := s2 _ _ (upd_same (H := H) (o := .lst (row.map V.int)) (a := q))
      walk_at "go"
      refine ⟨rfl, ?_⟩
      walk_at "go"
      refine U.g_lenL (Or.inl (SqL.of hq2)) ?_
      walk_at "go"
      rw [List.length_map]
      refine U.g_ix (Or.inl (SqL.of hq2)) (U.at_nat (show (row.length : Int) / 2 = ((row.length / 2 : Nat) : Int) by omega) (show (row.map V.int)[row.length / 2]? = some (V.int (rowF row (row.length / 2))) by rw [List.getElem?_map, rowF_at (by omega)]; rfl)) ?_
      walk_at "go"
      exact kA _ _ rfl (Same.refl _)
    walk_at "go"
    have e : (row.map V.int).filterMap (fun v => match v with | .int z => some (V.int (ab (z - rowF row (row.length / 2)))) | _ => none) = (row.map fun z => ab (z - rowF row (row.length / 2))).map V.int := by
      rw [List.filterMap_map, List.map_map, ← List.filterMap_eq_map]
      rfl
    rw [e] at hL1
    refine U.g_sum (SqL.of hL1) ?_
    walk_at "go"
    have e2 : (row.map fun z => ab (z - rowF row (row.length / 2))).sum = cs (rowF row) 0 row.length := sum_cost row
    rw [e2]
    exact kk _ (sq.trans s2)
end
end Toy

namespace Toy
open PySem L2 U M LM
section
variable {P : Program} {w : World} {K : PySem.W.Frag} {mg : Str → Option Value} {base : Heap}
theorem sc__law_cut_costs : FnScope ["values", "least", "row", "found", "end", "some", "begin"] ["values", "least"] (defScope s__law_cut_costs) := ⟨rfl, rfl, rfl, by decide +kernel, rfl, by decide +kernel, by decide +kernel⟩
def sp_lcuts (K : PySem.W.Frag) : Sp := fun vs H Q _ => ∃ (b : Addr) (ns row : List Int) (s : Nat), vs = [.ref b, .int s] ∧ (SqL K H b (ns.map V.int) ∨ SqT K H b (ns.map V.int)) ∧ ns.length ≤ 200 ∧ Row ns row ∧ 1 ≤ s ∧ s ≤ 1000 ∧ ∀ (q : Addr) (H' : Hp), H q = none → Same H H' → H' q = some (.lst ((tab (cs (rowF row)) s row.length).map oV)) → Q (.ref q) H'
theorem ok__law_cut_costs (T : Tx K mg) : FnOk P w K mg base CX0 2 T.a__law_cut_costs T.fd__law_cut_costs ["values", "least"] (sp_lcuts K) := by
  refine T.F__law_cut_costs.ok sc__law_cut_costs (fun vs H Q E h => ?_) (fun cdv A outer s H vs Q E hr h => ?_)
  · obtain ⟨b, ns, row, s, rfl, _⟩ := h
    rfl
  · obtain ⟨b, ns, row, s, rfl, hb, hl, hrow, h1, h2, kk⟩ := h
    have hu := hu_of hr
    have hu64 := hr.units
    refine ⟨_, (pss_cons (ps_par rfl sc__law_cut_costs.nd (i := 2) (j := 3) rfl rfl (by decide) rfl rfl (pa_cons (pe_callB (ST.cr_sortLT (K := K) rfl) (by rfl) T.n_sorted (by decide +kernel) (pa_cons (pv 0) pa_nil)) (pa_cons (pe_lst (pa_cons (pe_int) pa_nil)) pa_nil)) (by rfl))
        (pss_cons (ps_for PassesOwn.never rfl (pi_range2 (by rfl) T.n_range (pa_cons (pe_int) (pa_cons (pe_op (op_uAdd (K := K) rfl) (pe_callB (call_uLen (K := K) rfl) (by rfl) T.n_len (by decide +kernel) (pa_cons (pv 2) pa_nil)) (pe_int)) pa_nil))) (pg_name (i := 4) sc__law_cut_costs.nd rfl (Or.inl rfl)) (pss_cons (ps_set (i := 5) sc__law_cut_costs.nd rfl (Or.inl rfl) (pe_lst pa_nil))
        (pss_cons (ps_for PassesOwn.never rfl (pi_range1 (by rfl) T.n_range (pa_cons (pe_op (op_uAdd (K := K) rfl) (pe_op op_uSub (pv 4) (pv 1)) (pe_int)) pa_nil)) (pg_name (i := 6) sc__law_cut_costs.nd rfl (Or.inl rfl)) (pss_one (ps_if (pt_cmpR op_notN (pe_ix (ix_u (K := K) rfl) (pv 3) (pv 6) (fun _ _ => rfl)) pe_non (nomark _)) (pss_one (ps_expr (pe_bm PySem.F.plainAttrs_list PySem.F.slot_list_append PySem.F.type_list_append mt_append (pv 5) (pa_cons (pe_op (op_uAdd (K := K) rfl) (pe_ix (ix_u (K := K) rfl) (pv 3) (pv 6) (fun _ _ => rfl)) (pe_call (ok__law_crowd_cost T) (hr.mono (by decide)) rfl T.m__law_crowd_cost T.F__law_crowd_cost.kp (b__law_crowd_cost T) .nil pass0 (pa_cons (pe_slice (sl_u (K := K) rfl) (pv 2) (po_some (pv 6)) (po_some (pv 4))) pa_nil))) pa_nil)))) pss_nil)))
        (pss_one (ps_expr (pe_bm PySem.F.plainAttrs_list PySem.F.slot_list_append PySem.F.type_list_append mt_append (pv 3) (pa_cons (pe_ifExp (pt_cmpR (op_uNe (K := K) rfl hu64) (pv 5) (pe_lst pa_nil) (nomark _)) (pe_callB (cr_min rfl) (by rfl) T.n_min (by decide +kernel) (pa_cons (pv 5) pa_nil)) (pe_non)) pa_nil)))))))
        (pss_one (ps_ret (pv 3))))), ?_⟩
    walk_at "st"
    walk_at "go"
    refine ST.g_sortLT hb fun ns' l p1 p2 nl => ?_
    cases hrow.uniq ⟨p1, p2⟩
    have rl := hrow.len
    have sl := U.same_new (o := .lst (row.map V.int)) nl
    walk_at "go"
    refine ⟨by decide, fun q nq => ?_⟩
    have sq := U.same_new (o := .lst [V.int 0]) nq
    have hl1 := sq _ _ (upd_same (H := H) (o := .lst (row.map V.int)) (a := l))
    have nq0 := U.nb1 nq
    have lq : l ≠ q := ne_of_none (upd_same (H := H) (o := .lst (row.map V.int)) (a := l)) nq
    walk_at "go"
    refine U.g_lenL (Or.inl (SqL.of hl1)) ?_
    walk_at "go"
    rw [List.length_map]
    refine e_rng2 (by omega) ?_
    rw [show ((row.length : Int) + 1 - 1).toNat = row.length by omega]
    refine forI_by walk_range (fun i σ' H' => ∃ (v4 v5 v6 : Option V), σ' = [some (.ref b), some (.int (s : Int)), some (.ref l), some (.ref q), v4, v5, v6] ∧ H' q = some (.lst ((tab (cs (rowF row)) s i).map oV)) ∧ H' l = some (.lst (row.map V.int)) ∧ Same H H') ⟨none, none, none, rfl, upd_same, hl1, sl.trans sq⟩ (fun _ _ _ _ _ => trivial) ?ts ?td
    case td =>
      rintro σ' H' ⟨v4, v5, v6, rfl, hq, _, s'⟩
      walk_at "go"
      exact kk q H' nq0 s' hq
    case ts =>
      rintro i y σ' H' _ hi ⟨v4, v5, v6, rfl, hq, hl', s'⟩ ⟨rfl, rfl⟩
      have tl : ((tab (cs (rowF row)) s i).map oV).length = i + 1 := by rw [List.length_map, tab_len]
      have tat : ∀ {b : Nat}, b ≤ i → ((tab (cs (rowF row)) s i).map oV)[b]? = some (oV (F (cs (rowF row)) s b)) := fun h => by rw [List.getElem?_map, tab_at _ _ h]; rfl
      walk_at "go"
      refine ⟨by decide, fun m nm => ?_⟩
      have sm0 := U.same_new (o := .lst []) nm
      have mq : q ≠ m := ne_of_none hq nm
      have ml : l ≠ m := ne_of_none hl' nm
      have nm0 := none_of s' nm
      walk_at "go"
      refine e_rng (by omega) (by omega) ?_
      rw [show (1 + (i : Int) - (s : Int) + 1).toNat = i + 2 - s by omega]
      refine forI_by walk_range (fun j σ' H2 => ∃ v6 : Option V, σ' = [some (.ref b), some (.int (s : Int)), some (.ref l), some (.ref q), some (.int (1 + (i : Int))), some (.ref m), v6] ∧ H2 q = some (.lst ((tab (cs (rowF row)) s i).map oV)) ∧ H2 l = some (.lst (row.map V.int)) ∧ H2 m = some (.lst ((cand (cs (rowF row)) (tab (cs (rowF row)) s i) 0 j (i + 1)).map V.int)) ∧ Same H H2) ⟨v6, rfl, sm0 _ _ hq, sm0 _ _ hl', upd_same, s'.trans sm0⟩ (fun _ _ _ _ _ => trivial) ?us ?ud
      case us =>
        rintro j z σ2 H2 _ hj ⟨v6, rfl, hq2, hl2, hm2, s2⟩ ⟨rfl, rfl⟩
        have hb' : j ≤ i := by omega
        have pt := put_tab (cs (rowF row)) s hb'
        have csucc : cand (cs (rowF row)) (tab (cs (rowF row)) s i) 0 (j + 1) (i + 1) = cand (cs (rowF row)) (tab (cs (rowF row)) s i) 0 j (i + 1) ++ (match F (cs (rowF row)) s j with | none => [] | some u => [u + cs (rowF row) j (i + 1)]) := by
          unfold cand
          rw [show j + 1 - 0 = j + 1 by omega, show j - 0 = j by omega, List.range'_concat, List.filterMap_append]
          congr 1
          rw [show 0 + 1 * j = j by omega]
          simp only [List.filterMap_cons, List.filterMap_nil, pt]
          cases F (cs (rowF row)) s j <;> rfl
        have cl : (cand (cs (rowF row)) (tab (cs (rowF row)) s i) 0 j (i + 1)).length ≤ j := by
          unfold cand
          refine Nat.le_trans (List.length_filterMap_le _ _) ?_
          rw [List.length_range']
          omega
        walk_at "go"
        refine U.g_ix (Or.inl (SqL.of hq2)) (U.at_nat (show (0 + (j : Int)) = ((j : Nat) : Int) by omega) (tat hb')) ?_
        cases hF : F (cs (rowF row)) s j with
        | none =>
          refine U.g_c ⟨rfl, _, rfl, U.g_F ?_⟩
          walk_at "go"
          exact ⟨_, rfl, hq2, hl2, by rw [hm2, csucc, hF, List.append_nil], s2⟩
        | some u =>
          refine U.g_c ⟨rfl, _, rfl, U.g_T ?_⟩
          walk_at "go"
          refine U.g_ix (Or.inl (SqL.of hq2)) (U.at_nat (show (0 + (j : Int)) = ((j : Nat) : Int) by omega) (tat hb')) ?_
          rw [hF]
          walk_at "go"
          refine U.g_slL (SqL.of hl2) fun c nc => ?_
          rw [show (0 + (j : Int)) = ((j : Nat) : Int) by omega, show (1 + (i : Int)) = ((i + 1 : Nat) : Int) by omega, cut_mid (by rw [List.length_map]; omega) (by omega), ← List.map_drop, ← List.map_take]
          have sc := U.same_new (o := .lst (((row.drop j).take (i + 1 - j)).map V.int)) nc
          have pl : ((row.drop j).take (i + 1 - j)).length = i + 1 - j := by rw [List.length_take, List.length_drop]; omega
          walk_at "go"
          refine ⟨c, _, _, rfl, Or.inl (SqL.of upd_same), by omega, by omega, part_row hrow.up j (i + 1 - j), fun H3 s3 => ?_⟩
          rw [pl, cs_part (by omega) (by omega)]
          refine U.g_addI ?_
          walk_at "go"
          refine U.g_appL (s3 _ _ (sc _ _ hm2)) (by rw [List.length_map]; omega) ?_
          refine ⟨_, rfl, ?_, ?_, ?_, same_mut ((s2.trans sc).trans s3) nm0⟩
          · exact (upd_ne mq).trans (s3 _ _ (sc _ _ hq2))
          · exact (upd_ne ml).trans (s3 _ _ (sc _ _ hl2))
          · rw [upd_same, csucc, hF, List.map_append]
            rfl
      case ud =>
        rintro σ2 H2 ⟨v6, rfl, hq2, hl2, hm2, s2⟩
        walk_at "go"
        have fin : ∀ (H3 : Hp) (v : V), Same H2 H3 → v = oV (F (cs (rowF row)) s (i + 1)) → rAppend (V.ref q) [v] H3 fun _ H4 => ∃ (w4 w5 w6 : Option V), [some (.ref b), some (.int (s : Int)), some (.ref l), some (.ref q), some (.int (1 + (i : Int))), some (.ref m), v6] = [some (.ref b), some (.int (s : Int)), some (.ref l), some (.ref q), w4, w5, w6] ∧ H4 q = some (.lst ((tab (cs (rowF row)) s (i + 1)).map oV)) ∧ H4 l = some (.lst (row.map V.int)) ∧ Same H H4 := fun H3 v s3 hv => by
          refine U.g_appL (s3 _ _ hq2) (by rw [tl]; omega) ?_
          refine ⟨_, _, _, rfl, ?_, (upd_ne lq).trans (s3 _ _ hl2), same_mut (s2.trans s3) nq0⟩
          rw [upd_same, tab_succ, List.map_append, hv]
          rfl
        refine ⟨by decide, fun c nc => ?_⟩
        have sc := U.same_new (o := .lst []) nc
        refine g_neNil (SqL.of (sc _ _ hm2)) (SqL.of upd_same) ⟨_, rfl, U.g_2 (fun h => ?_) (fun h => ?_)⟩
        · walk_at "go"
          refine ⟨m, _, rfl, SqL.of (sc _ _ hm2), ?_, fun v m1 m2 => ?_⟩
          · generalize cand (cs (rowF row)) (tab (cs (rowF row)) s i) 0 (i + 2 - s) (i + 1) = xs at h
            cases xs with
            | nil => cases h
            | cons x r => exact Nat.succ_pos _
          · walk_at "go"
            refine fin _ _ sc ?_
            rw [F_succ, lmin_in m1 m2]
            rfl
        · walk_at "go"
          refine fin _ _ sc ?_
          rw [F_succ]
          generalize cand (cs (rowF row)) (tab (cs (rowF row)) s i) 0 (i + 2 - s) (i + 1) = xs at h
          cases xs with
          | nil => rfl
          | cons x r => cases h
theorem sc__law_least : FnScope ["values", "least"] ["values", "least"] (defScope s__law_least) := ⟨rfl, rfl, rfl, by decide +kernel, rfl, by decide +kernel, by decide +kernel⟩
def sp_least (K : PySem.W.Frag) : Sp := fun vs H Q _ => ∃ (b : Addr) (ns row : List Int) (s : Nat), vs = [.ref b, .int s] ∧ (SqL K H b (ns.map V.int) ∨ SqT K H b (ns.map V.int)) ∧ ns.length ≤ 200 ∧ Row ns row ∧ 1 ≤ s ∧ s ≤ 1000 ∧ ∀ H' : Hp, Same H H' → Q (oV (F (cs (rowF row)) s row.length)) H'
theorem ok__law_least (T : Tx K mg) : FnOk P w K mg base CX0 3 T.a__law_least T.fd__law_least ["values", "least"] (sp_least K) := by
  refine T.F__law_least.ok sc__law_least (fun vs H Q E h => ?_) (fun cdv A outer s H vs Q E hr h => ?_)
  · obtain ⟨b, ns, row, s, rfl, _⟩ := h
    rfl
  · obtain ⟨b, ns, row, s, rfl, hb, hl, hrow, h1, h2, kk⟩ := h
    have hu := hu_of hr
    have hu64 := hr.units
    refine ⟨_, (pss_one (ps_ret (pe_ix (ix_u (K := K) rfl) (pe_call (ok__law_cut_costs T) (hr.mono (by decide)) rfl T.m__law_cut_costs T.F__law_cut_costs.kp (b__law_cut_costs T) .nil pass0 (pa_cons (pv 0) (pa_cons (pv 1) pa_nil))) (pe_un op_uNeg (pe_int)) (fun _ _ => rfl)))), ?_⟩
    walk_at "st"
    walk_at "go"
    refine ⟨b, ns, row, s, rfl, hb, hl, hrow, h1, h2, fun q H1 nq s1 hq => ?_⟩
    walk_at "go"
    obtain ⟨ys, ey⟩ := tab_end (cs (rowF row)) s row.length
    refine U.g_ix (Or.inl (SqL.of hq)) (at_end (map_end oV ey)) ?_
    exact kk _ s1
end
end Toy

namespace LM
open PySem L2
/-- the stretches of a cut as the program and its pairs -/
def cutV2 (B : List (Nat × Nat)) : List (List V) := B.map fun p => [V.int (p.1 : Int), V.int (p.2 : Int)]
theorem near_ex {row : List Int} (up : row.Pairwise (· ≤ ·)) {s e : Nat} (hs : 1 ≤ s) (h0 : 0 < e) (he : e ≤ row.length) {u : Int} (h : F (cs (rowF row)) s e = some u) : ∃ b v, e + 1 - 2 * s ≤ b ∧ b + s ≤ e ∧ F (cs (rowF row)) s b = some v ∧ u = v + cs (rowF row) b e := by
  obtain ⟨n, rfl⟩ : ∃ n, e = n + 1 := ⟨e - 1, by omega⟩
  have key := F_near (c := cs (rowF row)) (s := s) hs (n := n) (N := row.length) (fun b m e h1 h2 h3 => cs_cut (rowF_mon up) h1 h2 h3) he
  rw [h] at key
  obtain ⟨b, v, h1, h2, h3, h4⟩ := mem_cand.mp (lmin_out key).1
  rw [put_tab (cs (rowF row)) s (by omega)] at h3
  exact ⟨b, v, by omega, by omega, h3, h4⟩
end LM
namespace Toy
open PySem L2 U M LM
section
variable {P : Program} {w : World} {K : PySem.W.Frag} {mg : Str → Option Value} {base : Heap}
theorem sc_Ladder_least_stretches : FnScope ["self", "size", "losses", "found", "end", "begin"] ["self", "size"] (defScope s_Ladder_least_stretches) := ⟨rfl, rfl, rfl, by decide +kernel, rfl, by decide +kernel, by decide +kernel⟩
def sp_stretches (CL : Addr) : Sp := fun vs H Q _ => ∃ (x dx la lp ls : Addr) (row pl : List Int) (s : Nat) (u : Int), vs = [.ref x, .int s] ∧ LadX CL H x dx la lp ls row pl ∧ row.Pairwise (· ≤ ·) ∧ row.length = pl.length ∧ row.length ≤ 200 ∧ 1 ≤ s ∧ s ≤ 200 ∧ F (cs (rowF row)) s row.length = some u ∧
  ∀ (q : Addr) (vs : List V) (B : List (Nat × Nat)) (H' : Hp), H q = none → Same H H' → H' q = some (.lst vs) → TupL H' vs (cutV2 B) → Cut s B row.length → (B.map fun b => cs (rowF row) b.1 b.2).sum = u → Q (.ref q) H'
theorem ok_Ladder_least_stretches (T : Tx K mg) : FnOk P w K mg base CX0 3 T.a_Ladder_least_stretches T.fd_Ladder_least_stretches ["self", "size"] (sp_stretches T.C_Ladder) := by
  refine T.F_Ladder_least_stretches.ok sc_Ladder_least_stretches (fun vs H Q E h => ?_) (fun cdv A outer s H vs Q E hr h => ?_)
  · obtain ⟨x, dx, la, lp, ls, row, pl, s, u, rfl, _⟩ := h
    rfl
  · obtain ⟨x, dx, la, lp, ls, row, pl, s, u, rfl, lx, up, hpl, hl, s1, s2, hF, kk⟩ := h
    have hu := hu_of hr
    have hu64 := hr.units
    refine ⟨_, (pss_cons (ps_set (i := 2) sc_Ladder_least_stretches.nd rfl (Or.inl rfl) (pe_meth (pv 0) T.cl_Ladder T.me_Ladder_first_losses (ok_Ladder_first_losses T) (hr.mono (by decide)) (b_Ladder_first_losses T) .nil pass0 (pa_cons (pv 1) pa_nil)))
        (pss_cons (ps_set (i := 3) sc_Ladder_least_stretches.nd rfl (Or.inl rfl) (pe_lst pa_nil))
        (pss_cons (ps_set (i := 4) sc_Ladder_least_stretches.nd rfl (Or.inl rfl) (pe_callB (call_uLen (K := K) rfl) (by rfl) T.n_len (by decide +kernel) (pa_cons (u_fld (K := K) rfl (pv 0) rfl) pa_nil)))
        (pss_cons (ps_while PassesOwn.never (pt_cmpR op_uGt (pv 4) (pe_int) (nomark _)) (pss_cons (ps_set (i := 5) sc_Ladder_least_stretches.nd rfl (Or.inl rfl) (pe_callB (call_uMax rfl) (by rfl) T.n_max (by decide +kernel) (pa_cons (pe_int) (pa_cons (pe_op (op_uAdd (K := K) rfl) (pe_op op_uSub (pv 4) (pe_op op_uMul (pe_int) (pv 1))) (pe_int)) pa_nil))))
        (pss_cons (ps_while PassesOwn.never (PW.pt (pw_or (pt_cmpR op_isN (pe_ix (ix_u (K := K) rfl) (pv 2) (pv 5) (fun _ _ => rfl)) pe_non (nomark _)) (pw_or1 (pt_cmpR (op_uNe (K := K) rfl hu64) (pe_op (op_uAdd (K := K) rfl) (pe_ix (ix_u (K := K) rfl) (pv 2) (pv 5) (fun _ _ => rfl)) (pe_meth (pv 0) T.cl_Ladder T.me_Ladder_loss (ok_Ladder_loss T) (hr.mono (by decide)) (b_Ladder_loss T) .nil pass0 (pa_cons (pv 5) (pa_cons (pv 4) pa_nil)))) (pe_ix (ix_u (K := K) rfl) (pv 2) (pv 4) (fun _ _ => rfl)) (nomark _))))) (pss_one (ps_aug (i := 5) sc_Ladder_least_stretches.nd rfl (Or.inl rfl) (pe_int) ip_add)))
        (pss_cons (ps_expr (pe_bm PySem.F.plainAttrs_list PySem.F.slot_list_append PySem.F.type_list_append mt_append (pv 3) (pa_cons (pe_tup (pa_cons (pv 5) (pa_cons (pv 4) pa_nil))) pa_nil)))
        (pss_one (ps_set (i := 4) sc_Ladder_least_stretches.nd rfl (Or.inl rfl) (pv 5)))))))
        (pss_one (ps_ret (pv 3))))))), ?_⟩
    walk_at "st"
    walk_at "go"
    refine ⟨x, dx, _, rfl, lx.hi, lad_no (by decide +kernel) (by decide +kernel) (by decide +kernel) la lp ls, ?_⟩
    walk_at "go"
    refine ⟨x, dx, la, lp, ls, row, pl, s, rfl, lx, up, hpl, by omega, s1, by omega, fun lq H1 nlq sa hlq => ?_⟩
    walk_at "go"
    refine ⟨by decide, fun q nq => ?_⟩
    have sb := U.same_new (o := .lst []) nq
    walk_at "go"
    refine (lx.same (sa.trans sb)).fp T.cl_Ladder T.na_Ladder_places ?_
    walk_at "go"
    refine U.g_lenL (Or.inl (SqL.of (lx.same (sa.trans sb)).hp)) ?_
    walk_at "go"
    rw [List.length_map, ← hpl]
    have nqH : H q = none := none_of sa nq
    have tat : ∀ {b : Nat}, b ≤ row.length → ((tab (cs (rowF row)) s row.length).map oV)[b]? = some (oV (F (cs (rowF row)) s b)) := fun h => by rw [List.getElem?_map, tab_at _ _ h]; rfl
    refine ⟨fun m σ' H' => ∃ (v5 : Option V) (vs : List V) (B : List (Nat × Nat)) (u1 : Int), σ' = [some (.ref x), some (.int (s : Int)), some (.ref lq), some (.ref q), some (.int (m : Int)), v5] ∧ m ≤ row.length ∧ F (cs (rowF row)) s m = some u1 ∧ (B.map fun b => cs (rowF row) b.1 b.2).sum + u1 = u ∧ (∀ B', Cut s B' m → Cut s (B ++ B') row.length) ∧ B.length + m ≤ row.length ∧ H' q = some (.lst vs) ∧ TupL H' vs (cutV2 B) ∧ Same H H' ∧ H' lq = some (.lst ((tab (cs (rowF row)) s row.length).map oV)), ⟨row.length, none, [], [], u, rfl, Nat.le_refl _, hF, by show 0 + u = u; omega, fun B' h => h, by show 0 + _ ≤ _; omega, upd_same, .nil, sa.trans sb, sb _ _ hlq⟩, ?_⟩
    rintro m σ' H' ⟨v5, vs, B, u1, rfl, hm, hFm, hsum, hcut, hBl, hq, hT, s', hlq'⟩
    walk_at "go"
    refine U.g_2 (fun cc => ?_) (fun cc => ?_)
    · have cc : 0 < m := by have := of_decide_eq_true cc; omega
      obtain ⟨b0, w0, g1, g2, g3, g4⟩ := near_ex up s1 cc hm hFm
      refine ⟨fun σ' H' => ∃ m', m' < m ∧ ∃ (v5 : Option V) (vs : List V) (B : List (Nat × Nat)) (u1 : Int), σ' = [some (.ref x), some (.int (s : Int)), some (.ref lq), some (.ref q), some (.int (m' : Int)), v5] ∧ m' ≤ row.length ∧ F (cs (rowF row)) s m' = some u1 ∧ (B.map fun b => cs (rowF row) b.1 b.2).sum + u1 = u ∧ (∀ B', Cut s B' m' → Cut s (B ++ B') row.length) ∧ B.length + m' ≤ row.length ∧ H' q = some (.lst vs) ∧ TupL H' vs (cutV2 B) ∧ Same H H' ∧ H' lq = some (.lst ((tab (cs (rowF row)) s row.length).map oV)), fun _ _ h => h, ?_⟩
      walk_at "go"
      rw [show (if (m : Int) - 2 * (s : Int) + 1 > 0 then (m : Int) - 2 * (s : Int) + 1 else 0) = ((m + 1 - 2 * s : Nat) : Int) by split <;> omega]
      refine ⟨fun k σ' H'' => ∃ (b : Nat), σ' = [some (.ref x), some (.int (s : Int)), some (.ref lq), some (.ref q), some (.int (m : Int)), some (.int (b : Int))] ∧ b ≤ b0 ∧ k = b0 - b ∧ H'' = H', ⟨b0 - (m + 1 - 2 * s), m + 1 - 2 * s, rfl, g1, rfl, rfl⟩, ?_⟩
      rintro k σ'' H2 ⟨b, rfl, hb, rfl, rfl⟩
      have lx' := lx.same s'
      walk_at "go"
      refine U.g_ix (Or.inl (SqL.of hlq')) (U.at_nat rfl (tat (show b ≤ row.length by omega))) ?_
      walk_at "go"
      have more : b < b0 → ∀ (RT : VK) (BK : L2.St → Hp → Prop), (∃ N : L2.St → Hp → Prop, (∀ σ' H', N σ' H' → ∃ m' : Nat, m' < b0 - b ∧ ∃ b' : Nat, σ' = [some (V.ref x), some (V.int (s : Int)), some (V.ref lq), some (V.ref q), some (V.int (m : Int)), some (V.int (b' : Int))] ∧ b' ≤ b0 ∧ m' = b0 - b' ∧ H' = H2) ∧ tAug 5 (tC (V.int 1)) (ipI fun i j => i + j) { nx := N, rt := RT, bk := BK, ct := N } [some (V.ref x), some (V.int (s : Int)), some (V.ref lq), some (V.ref q), some (V.int (m : Int)), some (V.int (b : Int))] H2) := fun lt RT BK => by
        refine ⟨fun σ' H' => σ' = [some (V.ref x), some (V.int (s : Int)), some (V.ref lq), some (V.ref q), some (V.int (m : Int)), some (V.int ((b : Int) + 1))] ∧ H' = H2, ?_, ?_⟩
        · rintro σ' H' ⟨rfl, rfl⟩
          exact ⟨b0 - (b + 1), by omega, b + 1, by rw [show ((b : Int) + 1) = ((b + 1 : Nat) : Int) by omega], by omega, rfl, rfl⟩
        · exact ⟨_, rfl, _, _, rfl, rfl, rfl, rfl⟩
      cases hFb : F (cs (rowF row)) s b with
      | none =>
        have lt : b < b0 := by
          rcases Nat.lt_or_ge b b0 with h | h
          · exact h
          · have : b = b0 := by omega
            subst this
            rw [hFb] at g3; cases g3
        exact U.g_T (U.g_T (more lt _ _))
      | some w0' =>
        refine U.g_F ?_
        walk_at "go"
        refine U.g_ix (Or.inl (SqL.of hlq')) (U.at_nat rfl (tat (show b ≤ row.length by omega))) ?_
        rw [hFb, show oV (some w0') = V.int w0' from rfl]
        walk_at "go"
        refine ⟨x, dx, _, rfl, lx'.hi, lad_no (by decide +kernel) (by decide +kernel) (by decide +kernel) la lp ls, ?_⟩
        walk_at "go"
        refine ⟨x, dx, la, lp, ls, row, pl, b, m, rfl, lx', up, by omega, hm, by omega, ?_⟩
        walk_at "go"
        refine U.g_ix (Or.inl (SqL.of hlq')) (U.at_nat rfl (tat hm)) ?_
        rw [hFm, show oV (some u1) = V.int u1 from rfl]
        walk_at "go"
        refine U.g_2 (fun c2 => ?_) (fun c2 => ?_)
        · have lt : b < b0 := by
            rcases Nat.lt_or_ge b b0 with h | h
            · exact h
            · have : b = b0 := by omega
              subst this
              rw [hFb] at g3
              cases g3
              rw [← g4, show (if true = true then !decide (V.int u1 = V.int u1) else decide (V.int u1 = V.int u1)) = false by rw [decide_eq_true rfl]; rfl] at c2
              cases c2
          exact more lt _ _
        · have eq : w0' + cs (rowF row) b m = u1 := by
            by_cases z : w0' + cs (rowF row) b m = u1
            · exact z
            · have nz : ¬ V.int (w0' + cs (rowF row) b m) = V.int u1 := fun q => z (V.int.inj q)
              rw [decide_eq_false nz] at c2
              cases c2
          walk_at "go"
          refine ⟨by show 2 ≤ sizeLine; decide, fun t nt => ?_⟩
          have st := U.same_new (o := .tup [.int (b : Int), .int (m : Int)]) nt
          have hq2 := st _ _ hq
          have lvs := prd_len hT
          have lB : (cutV2 B).length = B.length := by unfold cutV2; rw [List.length_map]
          walk_at "go"
          refine U.g_appL hq2 (by omega) ?_
          walk_at "go"
          have ts : M.TS H2 (upd (upd H2 t (.tup [.int (b : Int), .int (m : Int)])) q (.lst (vs ++ [.ref t]))) := (TS.of st).trans (TS.lst hq2)
          refine ⟨b, by omega, _, vs ++ [.ref t], B ++ [(b, m)], w0', rfl, by omega, hFb, ?_, fun B' hB' => ?_, by rw [List.length_append]; show B.length + 1 + b ≤ _; omega, upd_same, ?_, same_mut (s'.trans st) nqH, get_ne (ne_of_none hlq (show H1 q = none from nq)) (st _ _ hlq')⟩
          · rw [List.map_append, List.sum_append]
            show _ + (cs (rowF row) b m + 0) + w0' = u
            omega
          · rw [List.append_assoc]
            exact hcut _ (.cons hB' (by omega))
          · unfold cutV2 at hT ⊢
            rw [List.map_append]
            exact prd_snoc (TupL.mono ts hT) ⟨t, rfl, TS.lst hq2 _ _ upd_same⟩
    · have cc : m = 0 := by have := of_decide_eq_false cc; omega
      subst cc
      walk_at "go"
      rw [F_zero] at hFm
      cases hFm
      have hc := hcut [] .nil
      rw [List.append_nil] at hc
      exact kk q vs B H' nqH s' hq hT hc (by omega)
theorem sc_Ladder_crowd : FnScope ["self", "begin", "end"] ["self", "begin", "end"] (defScope s_Ladder_crowd) := ⟨rfl, rfl, rfl, by decide +kernel, rfl, by decide +kernel, by decide +kernel⟩
def sp_crowd (CL : Addr) : Sp := fun vs H Q _ => ∃ (x dx la lp ls : Addr) (row pl : List Int) (b e : Nat), vs = [.ref x, .int b, .int e] ∧ LadX CL H x dx la lp ls row pl ∧ b < e ∧ e ≤ pl.length ∧ pl.length ≤ 1000 ∧ ∀ (t : Addr) (ms : List Int) (H' : Hp), Same H H' → H' t = some (.tup (ms.map V.int)) → Row ((pl.drop b).take (e - b)) ms → Q (.ref t) H'
theorem ok_Ladder_crowd (T : Tx K mg) : FnOk P w K mg base CX0 1 T.a_Ladder_crowd T.fd_Ladder_crowd ["self", "begin", "end"] (sp_crowd T.C_Ladder) := by
  refine T.F_Ladder_crowd.ok sc_Ladder_crowd (fun vs H Q E h => ?_) (fun cdv A outer s H vs Q E hr h => ?_)
  · obtain ⟨x, dx, la, lp, ls, row, pl, b, e, rfl, _⟩ := h
    rfl
  · obtain ⟨x, dx, la, lp, ls, row, pl, b, e, rfl, lx, hbe, he, hl, kk⟩ := h
    have hu := hu_of hr
    have hu64 := hr.units
    refine ⟨_, (pss_one (ps_ret (pe_callTy (call_uTuple (K := K) rfl) (by rfl) T.n_tuple (by decide +kernel) (pa_cons (pe_callB (U.call_uSortI (K := K) rfl) (by rfl) T.n_sorted (by decide +kernel) (pa_cons (pe_slice (sl_u (K := K) rfl) (u_fld (K := K) rfl (pv 0) rfl) (po_some (pv 1)) (po_some (pv 2))) pa_nil)) pa_nil)))), ?_⟩
    walk_at "st"
    walk_at "go"
    refine lx.fp T.cl_Ladder T.na_Ladder_places ?_
    walk_at "go"
    refine U.g_slL (SqL.of lx.hp) fun l nl => ?_
    have lm : (pl.map V.int).length = pl.length := List.length_map _
    rw [cut_mid (by rw [List.length_map]; omega) (by omega), ← List.map_drop, ← List.map_take]
    have sl := U.same_new (o := .lst (((pl.drop b).take (e - b)).map V.int)) nl
    walk_at "go"
    refine U.g_sortI (SqL.of upd_same) fun ms m p1 p2 nm => ?_
    have sm0 := U.same_new (o := .lst (ms.map V.int)) nm
    walk_at "go"
    refine U.g_tupL (SqL.of upd_same) fun t nt => ?_
    have st := U.same_new (o := .tup (ms.map V.int)) nt
    exact kk t ms _ ((sl.trans sm0).trans st) upd_same ⟨p1, p2⟩
end
end Toy

namespace LM
open PySem L2 U M
theorem RowOk.plr {ns row pl : List Int} (R : RowOk ns row pl) : pl.Perm (rangeI ns.length) := by
  obtain ⟨Pk, e⟩ := RowOk.pl R
  rw [e]
  exact Pk.perm.map Int.ofNat
theorem lt_of_nd {xs : List Int} (h : xs.Pairwise (· ≤ ·)) (nd : xs.Nodup) : xs.Pairwise (· < ·) := by
  refine (h.and nd).imp fun h => ?_
  have := h.2
  omega
theorem rangeI_nd (n : Nat) : (rangeI n).Nodup := by
  unfold rangeI
  rw [List.nodup_iff_pairwise_ne, List.pairwise_map]
  exact List.Pairwise.imp (fun {a b} (h : a < b) => by omega) List.pairwise_lt_range
def sl (pl : List Int) (p : Nat × Nat) : List Int := (pl.drop p.1).take (p.2 - p.1)
theorem cut_flat {pl : List Int} {s : Nat} {B : List (Nat × Nat)} {e : Nat} (C : Cut s B e) : (B.map (sl pl)).flatten.Perm (pl.take e) := by
  induction C with
  | nil => rw [List.take_zero]; exact List.Perm.refl _
  | @cons B b e h l ih =>
    rw [List.map_cons, List.flatten_cons]
    refine List.perm_append_comm.trans ((ih.append (List.Perm.refl _)).trans ?_)
    have : pl.take b ++ sl pl (b, e) = pl.take e := by
      unfold sl
      have e1 : pl.take e = pl.take (b + (e - b)) := by rw [show b + (e - b) = e by omega]
      rw [e1, List.take_add]
    rw [this]
theorem flat_perm : ∀ {xs ys : List (List Int)}, Paired (fun x y => List.Perm y x) xs ys → ys.flatten.Perm xs.flatten
  | _, _, .nil => List.Perm.refl _
  | _, _, .cons a r => by
    rw [List.flatten_cons, List.flatten_cons]
    exact a.append (flat_perm r)
def midL (row : List Int) (p : Nat × Nat) : Int := rowF row ((p.1 + p.2 - 1) / 2)
theorem cut_told {ns row pl : List Int} (R : RowOk ns row pl) {s : Nat} (hs : 1 ≤ s) {B : List (Nat × Nat)} (C : Cut s B row.length) {nss : List (List Int)} (hp : Paired (fun p ms => Row (sl pl p) ms) B nss) :
    CrowdsOk ns.length s nss ∧ nss.flatten.Perm (rangeI ns.length) ∧ lossL ns nss (B.map (midL row)) = (B.map fun p => cs (rowF row) p.1 p.2).sum := by
  have plr := RowOk.plr R
  have nd : pl.Nodup := plr.symm.nodup (rangeI_nd _)
  have ll : row.length = pl.length := by rw [R.len, R.pln]
  refine ⟨fun ms hm => ?_, ?_, ?_⟩
  · obtain ⟨i, hi⟩ := List.getElem?_of_mem hm
    obtain ⟨p, ep, h⟩ := prd_at2 hp hi
    have bd := C.bd p (List.mem_of_getElem? ep)
    have sub : (sl pl p).Sublist pl := (List.take_sublist _ _).trans (List.drop_sublist _ _)
    refine ⟨lt_of_nd h.up (h.perm.symm.nodup (nd.sublist sub)), fun x hx => ?_, ?_⟩
    · exact rangeI_mem.mp (plr.mem_iff.mp (sub.subset (h.perm.mem_iff.mp hx)))
    · rw [h.perm.length_eq]
      unfold sl
      rw [List.length_take, List.length_drop]
      omega
  · have h1 : nss.flatten.Perm (B.map (sl pl)).flatten := by
      refine flat_perm ?_
      clear C
      induction hp with
      | nil => exact .nil
      | cons a _ ih => exact .cons a.perm ih
    have h2 := cut_flat (pl := pl) C
    rw [ll, List.take_of_length_le (Nat.le_refl _)] at h2
    exact (h1.trans h2).trans plr
  · have bd := C.bd
    obtain ⟨Pk, epl⟩ := RowOk.pl R
    clear C
    rw [lossL_eq]
    induction hp with
    | nil => rfl
    | @cons p ms B' nss' a _ ih =>
      rw [List.map_cons, List.zip_cons_cons, List.map_cons, List.sum_cons, ih fun q hq => bd q (List.mem_cons_of_mem _ hq), List.map_cons, List.sum_cons]
      congr 1
      have b1 := bd p List.mem_cons_self
      -- the values of the crowd
      have ev : (sl pl p).map (fun z => rowF ns z.toNat) = (row.drop p.1).take (p.2 - p.1) := by
        unfold sl
        rw [List.map_take, List.map_drop]
        congr 2
        rw [Pk.val, List.map_map]
        rfl
      have l : ((row.drop p.1).take (p.2 - p.1)).length = p.2 - p.1 := by rw [List.length_take, List.length_drop]; omega
      show (ms.map fun z => ab (rowF ns z.toNat - midL row p)).sum = cs (rowF row) p.1 p.2
      rw [sum_perm (a.perm.map fun z => ab (rowF ns z.toNat - midL row p))]
      have e2 : ((sl pl p).map fun z => ab (rowF ns z.toNat - midL row p)) = ((sl pl p).map (fun z => rowF ns z.toNat)).map fun y => ab (y - midL row p) := by rw [List.map_map]; rfl
      rw [e2, ev, sum_sm (fun y => ab (y - midL row p)), l, ← cs_part (by omega) (show p.2 ≤ row.length from b1.2)]
      have M := rowF_mon (row := (row.drop p.1).take (p.2 - p.1)) (R.up.sublist ((List.take_sublist _ _).trans (List.drop_sublist _ _)))
      rw [l] at M
      have lm := low_mid M (show 0 < p.2 - p.1 by omega)
      have em : rowF ((row.drop p.1).take (p.2 - p.1)) ((p.2 - p.1 - 1) / 2) = midL row p := by
        rw [rowF_part row (show (p.2 - p.1 - 1) / 2 < p.2 - p.1 by omega)]
        unfold midL
        congr 1
        omega
      rw [em] at lm
      rw [← lm]
      unfold lossAt sg
      show _ = _ - 0
      omega
theorem cut_len {s : Nat} (hs : 1 ≤ s) {B : List (Nat × Nat)} {e : Nat} (C : Cut s B e) : B.length ≤ e := by
  induction C with
  | nil => exact Nat.le_refl _
  | cons h l ih => rw [List.length_cons]; omega
theorem F_has {c : Nat → Nat → Int} {s n : Nat} (hs : 1 ≤ s) : F c s n = none ↔ ¬ (n = 0 ∨ s ≤ n) := by
  constructor
  · intro h z
    obtain ⟨v, e⟩ := F_one (c := c) hs z
    rw [h] at e; cases e
  · intro h
    cases e : F c s n with
    | none => rfl
    | some v =>
      obtain ⟨b, u, h1, _⟩ := F_mem hs (by omega) e
      exact absurd (Or.inr (by omega)) h
end LM
namespace Toy
open PySem L2 U M LM
theorem crs_ts {H H' : Hp} (t : M.TS H H') {vs : List V} {cs : List (Option (List V))} (h : Paired (CrAt H) vs cs) : Paired (CrAt H') vs cs := prd_mono (fun v c h => by
  cases c with
  | none => exact h
  | some xs => obtain ⟨a, e, h1, h2⟩ := h; exact ⟨a, e, t _ _ h1, h2⟩) h
section
variable {P : Program} {w : World} {K : PySem.W.Frag} {mg : Str → Option Value} {base : Heap}
theorem sc_least_line : FnScope ["values", "size", "ladder", "stretches", "crowds", "shown", "begin", "end"] ["values", "size"] (defScope s_least_line) := ⟨rfl, rfl, rfl, by decide +kernel, rfl, by decide +kernel, by decide +kernel⟩
def sp_line : Sp := fun vs H Q _ => ∃ (b : Addr) (ns row : List Int) (s : Nat), vs = [.ref b, .int s] ∧ H b = some (.tup (ns.map V.int)) ∧ ns.length ≤ 200 ∧ inB ns ∧ Row ns row ∧ 1 ≤ s ∧ s ≤ 200 ∧
  (F (cs (rowF row)) s row.length = none → ∀ H', Same H H' → Q .non H') ∧
  ∀ u, F (cs (rowF row)) s row.length = some u → ∀ (t ca sa : Addr) (cv : List V) (nss : List (List Int)) (sv : List Int) (H' : Hp), Same H H' → H' t = some (.tup [.int u, .ref ca, .ref sa]) → H' ca = some (.tup cv) → Paired (CrAt H') cv (nss.map fun ms => some (ms.map V.int)) → H' sa = some (.tup (sv.map V.int)) → sv.length = nss.length → nss.length ≤ ns.length → CrowdsOk ns.length s nss → nss.flatten.Perm (rangeI ns.length) → lossL ns nss sv = u → (∀ z ∈ sv, -1000000 ≤ z ∧ z ≤ 1000000) → Q (.ref t) H'
theorem ok_least_line (T : Tx K mg) : FnOk P w K mg base CX0 5 T.a_least_line T.fd_least_line ["values", "size"] sp_line := by
  refine T.F_least_line.ok sc_least_line (fun vs H Q E h => ?_) (fun cdv A outer s H vs Q E hr h => ?_)
  · obtain ⟨b, ns, row, s, rfl, _⟩ := h
    rfl
  · obtain ⟨b, ns, row, s, rfl, hb, hl, hn, R, s1, s2, k0, k1⟩ := h
    have hu := hu_of hr
    have hu64 := hr.units
    refine ⟨_, (pss_cons (ps_set (i := 2) sc_least_line.nd rfl (Or.inr rfl) (pe_call (ok_sized_ladder T) (hr.mono (by decide)) rfl T.m_sized_ladder T.F_sized_ladder.kp (b_sized_ladder T) .nil pass0 (pa_cons (pv 0) (pa_cons (pv 1) pa_nil))))
        (pss_cons (ps_if (pt_not (pt_val (pe_call (ok_has_crowds T) (hr.mono (by decide)) rfl T.m_has_crowds T.F_has_crowds.kp (b_has_crowds T) .nil pass0 (pa_cons (pv 0) (pa_cons (pv 1) pa_nil))))) (pss_one (ps_ret (pe_non))) pss_nil)
        (pss_cons (ps_set (i := 3) sc_least_line.nd rfl (Or.inl rfl) (pe_meth (pv 2) T.cl_Ladder T.me_Ladder_least_stretches (ok_Ladder_least_stretches T) (hr.mono (by decide)) (b_Ladder_least_stretches T) .nil pass0 (pa_cons (pv 1) pa_nil)))
        (pss_cons (ps_set (i := 4) sc_least_line.nd rfl (Or.inl rfl) (pe_callTy (call_uTuple (K := K) rfl) (by rfl) T.n_tuple (by decide +kernel) (pa_cons (pe_lc rfl sc_least_line.nd (u_list (K := K) rfl (pv 3)) (blkOk_by (own := [("begin", 6), ("end", 7)]) (N := ["values", "size", "ladder", "stretches", "crowds", "shown", "begin", "end"]) (sc := defScope s_least_line) (by decide +kernel)) (fun _ _ _ _ _ => (u_gtup (K := K) (n := 2) rfl rfl (pgs_cons (pg_name (i := 6) sc_least_line.nd rfl (Or.inl rfl)) (pgs_cons (pg_name (i := 7) sc_least_line.nd rfl (Or.inl rfl)) pgs_nil)))) (fun _ _ _ _ _ => pts_nil) (fun _ _ _ _ _ => (pe_meth (pv 2) T.cl_Ladder T.me_Ladder_crowd (ok_Ladder_crowd T) (hr.mono (by decide)) (b_Ladder_crowd T) .nil pass0 (pa_cons (pv 6) (pa_cons (pv 7) pa_nil))))) pa_nil)))
        (pss_cons (ps_set (i := 5) sc_least_line.nd rfl (Or.inl rfl) (pe_callTy (call_uTuple (K := K) rfl) (by rfl) T.n_tuple (by decide +kernel) (pa_cons (pe_lc rfl sc_least_line.nd (u_list (K := K) rfl (pv 3)) (blkOk_by (own := [("begin", 6), ("end", 7)]) (N := ["values", "size", "ladder", "stretches", "crowds", "shown", "begin", "end"]) (sc := defScope s_least_line) (by decide +kernel)) (fun _ _ _ _ _ => (u_gtup (K := K) (n := 2) rfl rfl (pgs_cons (pg_name (i := 6) sc_least_line.nd rfl (Or.inl rfl)) (pgs_cons (pg_name (i := 7) sc_least_line.nd rfl (Or.inl rfl)) pgs_nil)))) (fun _ _ _ _ _ => pts_nil) (fun _ _ _ _ _ => (pe_ix (ix_u (K := K) rfl) (pe_meth (pv 2) T.cl_Ladder T.me_Ladder_middles (ok_Ladder_middles T) (hr.mono (by decide)) (b_Ladder_middles T) .nil pass0 (pa_cons (pv 6) (pa_cons (pv 7) pa_nil))) (pe_int) (fun _ _ => rfl)))) pa_nil)))
        (pss_one (ps_ret (pe_tup (pa_cons (pe_ix (ix_u (K := K) rfl) (pe_meth (pv 2) T.cl_Ladder T.me_Ladder_first_losses (ok_Ladder_first_losses T) (hr.mono (by decide)) (b_Ladder_first_losses T) .nil pass0 (pa_cons (pv 1) pa_nil)) (pe_un op_uNeg (pe_int)) (fun _ _ => rfl)) (pa_cons (pv 4) (pa_cons (pv 5) pa_nil))))))))))), ?_⟩
    walk_at "st"
    walk_at "go"
    refine ⟨b, ns, (s : Int), rfl, hb, hl, hn, by omega, by omega, fun x dx la lp ls row' pl H1 nx sa lx ok => ?_⟩
    have er : row' = row := ok.row.uniq R
    subst er
    have lr : row'.length = ns.length := R.perm.length_eq
    have lpl : row'.length = pl.length := by rw [ok.len, ok.pln]
    walk_at "go"
    refine ⟨b, ns, s, rfl, sa _ _ hb, by omega, ?_⟩
    have has : F (cs (rowF row')) s row'.length = none ↔ ¬ (row'.length = 0 ∨ s ≤ row'.length) := F_has s1
    rw [lr] at has
    cases eF : F (cs (rowF row')) s row'.length with
    | none =>
      rw [lr] at eF
      have no := has.mp eF
      rw [decide_eq_false (fun z => no (Or.inl z)), decide_eq_false (fun z => no (Or.inr z))]
      refine ⟨_, rfl, U.g_T ?_⟩
      walk_at "go"
      exact k0 (by rw [lr]; exact eF) H1 sa
    | some u =>
      have yes : ns.length = 0 ∨ s ≤ ns.length := Classical.byContradiction fun z => by
        rw [lr] at eF
        rw [has.mpr z] at eF; cases eF
      have eb : (decide (ns.length = 0) || decide (s ≤ ns.length)) = true := by
        rcases yes with z | z
        · rw [decide_eq_true z]; rfl
        · rw [decide_eq_true z, Bool.or_true]
      rw [eb]
      refine ⟨_, rfl, U.g_F ?_⟩
      walk_at "go"
      refine ⟨x, dx, _, rfl, lx.hi, lad_no (by decide +kernel) (by decide +kernel) (by decide +kernel) la lp ls, ?_⟩
      walk_at "go"
      refine ⟨x, dx, la, lp, ls, row', pl, s, u, rfl, lx, ok.up, lpl, by omega, s1, s2, eF, fun q vs B H2 nq sb hq hT C hs => ?_⟩
      have lvs := prd_len hT
      have lB : (cutV2 B).length = B.length := by unfold cutV2; rw [List.length_map]
      have Bl : B.length ≤ row'.length := cut_len s1 C
      have lx2 := lx.same sb
      walk_at "go"
      refine e_list (SqL.of hq) ?_
      refine lcI_by walk_list (by omega) fun Ea nE => ⟨fun i acc H' => ∃ nss : List (List Int), nss.length = i ∧ Paired (CrAt H') acc (nss.map fun ms => some (ms.map V.int)) ∧ Paired (fun p ms => Row (sl pl p) ms) (B.take i) nss ∧ Same H2 H', ⟨[], rfl, .nil, .nil, U.same_new nE⟩, fun i acc H' _ ⟨_, _, _, _, s'⟩ => SqL.of (s' _ _ hq), ?turn, fun acc H3 hE ⟨nss, nsl, hcr, hrw, s3⟩ => ?rest⟩
      case turn =>
        rintro i y acc _ H' A B1 hi hE ⟨nss, nsl, hcr, hrw, s'⟩ ⟨rfl, ey⟩ kA kB
        obtain ⟨p, ep, a, rfl, ha⟩ := prd_at hT ey
        unfold cutV2 at ep
        rw [List.getElem?_map] at ep
        cases eB : B[i]? with
        | none => rw [eB] at ep; cases ep
        | some bb =>
          rw [eB] at ep
          cases ep
          have bd := C.bd bb (List.mem_of_getElem? eB)
          walk_at "go"
          refine U.g_gtup (SqT.of (s' _ _ ha)) rfl ?_
          walk_at "go"
          refine ⟨rfl, ?_⟩
          walk_at "go"
          have lx' := lx2.same s'
          refine ⟨x, dx, _, rfl, lx'.hi, lad_no (by decide +kernel) (by decide +kernel) (by decide +kernel) la lp ls, ?_⟩
          walk_at "go"
          refine ⟨x, dx, la, lp, ls, row', pl, bb.1, bb.2, rfl, lx', by omega, by omega, by omega, fun t ms H4 s4 ht hR => ?_⟩
          have hE4 := s4 _ _ hE
          have ts : M.TS H' (upd H4 Ea (.lst (acc ++ [.ref t]))) := (TS.of s4).trans (TS.lst hE4)
          have mlen : ms.length ≤ 1000 := by rw [hR.perm.length_eq, List.length_take, List.length_drop]; omega
          refine kA _ _ hE4 ⟨nss ++ [ms], by rw [List.length_append, nsl]; rfl, ?_, ?_, same_mut (s'.trans s4) nE⟩
          · rw [List.map_append]
            exact prd_snoc (crs_ts ts hcr) ⟨t, rfl, TS.lst hE4 _ _ ht, by rw [List.all_map]; exact List.all_eq_true.mpr fun _ _ => rfl, by rw [List.length_map]; exact mlen⟩
          · rw [List.take_succ, eB]
            exact prd_snoc hrw hR
      rw [show vs.length = B.length by omega, List.take_of_length_le (Nat.le_refl _)] at hrw
      walk_at "go"
      refine U.g_tupL (SqL.of hE) fun ca nca => ?_
      have sc := U.same_new (o := .tup acc) nca
      generalize qc : upd H3 ca (.tup acc) = H4 at sc ⊢
      have hca : H4 ca = some (.tup acc) := qc ▸ upd_same
      clear qc
      have s24 : Same H2 H4 := s3.trans sc
      walk_at "go"
      refine e_list (SqL.of (s24 _ _ hq)) ?_
      refine lcI_same walk_list (by omega) (fun i => (B[i]?).bind fun p => some (V.int (midL row' p))) (fun H' s => SqL.of (s _ _ (s24 _ _ hq))) (fun i H' x H'' y => by rw [y.1]; exact Same.refl _) (fun i y H' H'' A B1 hi s' hy kA kB => ?t2) fun Eb H5 nEb s5 hEb => ?c2
      case t2 =>
        obtain ⟨rfl, ey⟩ := hy
        obtain ⟨p, ep, a, rfl, ha⟩ := prd_at hT ey
        unfold cutV2 at ep
        rw [List.getElem?_map] at ep
        cases eB : B[i]? with
        | none => rw [eB] at ep; cases ep
        | some bb =>
          rw [eB] at ep kA
          cases ep
          have bd := C.bd bb (List.mem_of_getElem? eB)
          walk_at "go"
          refine U.g_gtup (SqT.of (s' _ _ (s24 _ _ ha))) rfl ?_
          walk_at "go"
          refine ⟨rfl, ?_⟩
          walk_at "go"
          have lx' := lx2.same (s24.trans s')
          refine ⟨x, dx, _, rfl, lx'.hi, lad_no (by decide +kernel) (by decide +kernel) (by decide +kernel) la lp ls, ?_⟩
          walk_at "go"
          refine ⟨x, dx, la, lp, ls, row', pl, bb.1, bb.2, rfl, lx', by omega, by omega, by omega, fun t H6 nt s6 ht => ?_⟩
          walk_at "go"
          exact kA _ _ rfl s6
      rw [show vs.length = B.length by omega, U.range_fm, LM.fm_some] at hEb
      have eEb : B.map (fun p => V.int (midL row' p)) = (B.map (midL row')).map V.int := by rw [List.map_map]; rfl
      rw [eEb] at hEb
      walk_at "go"
      refine U.g_tupL (SqL.of hEb) fun sh nsh => ?_
      have sd := U.same_new (o := .tup ((B.map (midL row')).map V.int)) nsh
      generalize qd : upd H5 sh (.tup ((B.map (midL row')).map V.int)) = H6 at sd ⊢
      have hsh : H6 sh = some (.tup ((B.map (midL row')).map V.int)) := qd ▸ upd_same
      clear qd
      have s46 : Same H4 H6 := s5.trans sd
      have s26 := s24.trans s46
      walk_at "go"
      have lx6 := lx2.same s26
      refine ⟨x, dx, _, rfl, lx6.hi, lad_no (by decide +kernel) (by decide +kernel) (by decide +kernel) la lp ls, ?_⟩
      walk_at "go"
      refine ⟨x, dx, la, lp, ls, row', pl, s, rfl, lx6, ok.up, lpl, by omega, s1, by omega, fun q2 H7 nq2 s7 hq2 => ?_⟩
      walk_at "go"
      obtain ⟨ys, ey⟩ := tab_end (cs (rowF row')) s row'.length
      refine U.g_ix (Or.inl (SqL.of hq2)) (at_end (map_end oV ey)) ?_
      rw [eF]
      walk_at "go"
      refine ⟨by show 3 ≤ sizeLine; decide, fun t nt => ?_⟩
      have s8 := U.same_new (o := .tup [oV (some u), .ref ca, .ref sh]) nt
      obtain ⟨c1, c2, c3⟩ := cut_told ok s1 C hrw
      have z37 := sc.trans (s46.trans (s7.trans s8))
      refine k1 u eF t ca sh acc nss (B.map (midL row')) _ (sa.trans (sb.trans (s26.trans (s7.trans s8)))) upd_same ((s46.trans (s7.trans s8)) _ _ hca) (crs_mono z37 hcr) ((s7.trans s8) _ _ hsh) (by rw [List.length_map]; exact prd_len hrw) (by rw [← prd_len hrw]; omega) c1 c2 (by rw [c3, hs]) fun z hz => ?_
      obtain ⟨p, hp, rfl⟩ := List.mem_map.mp hz
      have bd := C.bd p hp
      have lt : (p.1 + p.2 - 1) / 2 < row'.length := by omega
      refine hn _ (R.perm.mem_iff.mp ?_)
      unfold midL
      exact List.mem_of_getElem? (rowF_at lt)
end
end Toy

namespace LM
open PySem L2 U M
/-- what a value is that may tell a line -/
inductive Nd where
  | non
  | bad
  | trip (L : Int) (nss : List (List Int)) (sh : Option (List Int))
def CrsAt (H : Hp) (a : Addr) (nss : List (List Int)) : Prop := ∃ cv, H a = some (.tup cv) ∧ Paired (CrAt H) cv (nss.map fun ms => some (ms.map V.int)) ∧ nss.length ≤ 1000
def NdAt (H : Hp) (v : V) : Nd → Prop
  | .non => v = .non
  | .bad => (∃ i : Int, v = .int i) ∨ (∃ a xs, v = .ref a ∧ H a = some (.lst xs)) ∨ ∃ a xs, v = .ref a ∧ H a = some (.tup xs) ∧ xs.length ≠ 3
  | .trip L nss sh => ∃ t ca sa, v = .ref t ∧ H t = some (.tup [.int L, .ref ca, .ref sa]) ∧ CrsAt H ca nss ∧ (match sh with
    | some sv => H sa = some (.tup (sv.map V.int)) ∧ sv.length ≤ 1000
    | none => ∃ xs, H sa = some (.lst xs))
theorem NdAt.mono {H H' : Hp} (s : Same H H') {v : V} : ∀ {d : Nd}, NdAt H v d → NdAt H' v d
  | .non, h => h
  | .bad, h => by
    rcases h with h | ⟨a, xs, e, h⟩ | ⟨a, xs, e, h, l⟩
    · exact .inl h
    · exact .inr (.inl ⟨a, xs, e, s _ _ h⟩)
    · exact .inr (.inr ⟨a, xs, e, s _ _ h, l⟩)
  | .trip L nss sh, h => by
    obtain ⟨t, ca, sa, e, h1, ⟨cv, h2, h3, h5⟩, h4⟩ := h
    refine ⟨t, ca, sa, e, s _ _ h1, ⟨cv, s _ _ h2, crs_mono s h3, h5⟩, ?_⟩
    cases sh with
    | some sv => exact ⟨s _ _ h4.1, h4.2⟩
    | none => obtain ⟨xs, h4⟩ := h4; exact ⟨xs, s _ _ h4⟩
/-- what may be told -/
def JP (ns : List Int) (s : Nat) (best : Option Int) (d : Nd) : Prop := match best, d with
  | none, .non => True
  | some u, .trip L nss (some sv) => PartsP ns.length s (nss.map fun ms => some (ms.map V.int)) ∧ sv.length = nss.length ∧ L = u ∧ lossL ns nss sv = u
  | _, _ => False
theorem nd_none {H : Hp} {v : V} {ns : List Int} {s : Nat} {d : Nd} (hd : NdAt H v d) : v = .non ↔ JP ns s none d := by
  cases d with
  | non => exact ⟨fun _ => trivial, fun _ => hd⟩
  | bad =>
    refine ⟨fun z => ?_, fun z => False.elim z⟩
    subst z
    rcases hd with ⟨i, e⟩ | ⟨a, xs, e, _⟩ | ⟨a, xs, e, _⟩ <;> cases e
  | trip L nss sh =>
    refine ⟨fun z => ?_, fun z => False.elim z⟩
    subst z
    obtain ⟨t, ca, sa, e, _⟩ := hd
    cases e
end LM
namespace Toy
open PySem L2 U M LM
section
variable {P : Program} {w : World} {K : PySem.W.Frag} {mg : Str → Option Value} {base : Heap}
theorem sc_shows_line : FnScope ["values", "size", "value", "ladder", "loss", "crowds", "shown"] ["values", "size", "value"] (defScope s_shows_line) := ⟨rfl, rfl, rfl, by decide +kernel, rfl, by decide +kernel, by decide +kernel⟩
def sp_shows : Sp := fun vs H Q _ => ∃ (b : Addr) (ns row : List Int) (s : Nat) (v : V) (d : Nd), vs = [.ref b, .int s, v] ∧ H b = some (.tup (ns.map V.int)) ∧ ns.length ≤ 200 ∧ inB ns ∧ Row ns row ∧ 1 ≤ s ∧ s ≤ 200 ∧ NdAt H v d ∧
  ∀ (c : Bool) (H' : Hp), Same H H' → (c = true ↔ JP ns s (F (cs (rowF row)) s row.length) d) → Q (.bl c) H'
theorem ok_shows_line (T : Tx K mg) : FnOk P w K mg base CX0 5 T.a_shows_line T.fd_shows_line ["values", "size", "value"] sp_shows := by
  refine T.F_shows_line.ok sc_shows_line (fun vs H Q E h => ?_) (fun cdv A outer s H vs Q E hr h => ?_)
  · obtain ⟨b, ns, row, s, v, d, rfl, _⟩ := h
    rfl
  · obtain ⟨b, ns, row, s, v, d, rfl, hb, hl, hn, R, s1, s2, hd, kk⟩ := h
    have hu := hu_of hr
    have hu64 := hr.units
    refine ⟨_, (pss_cons (ps_set (i := 3) sc_shows_line.nd rfl (Or.inl rfl) (pe_call (ok_sized_ladder T) (hr.mono (by decide)) rfl T.m_sized_ladder T.F_sized_ladder.kp (b_sized_ladder T) .nil pass0 (pa_cons (pv 0) (pa_cons (pv 1) pa_nil))))
        (pss_cons (ps_if (pt_not (pt_val (pe_call (ok_has_crowds T) (hr.mono (by decide)) rfl T.m_has_crowds T.F_has_crowds.kp (b_has_crowds T) .nil pass0 (pa_cons (pv 0) (pa_cons (pv 1) pa_nil))))) (pss_one (ps_ret (pe_cmpR op_isN (pv 2) pe_non (nomark _)))) pss_nil)
        (pss_cons (ps_if (pt_not (pt_val (pe_call (ok_is_tuple_of T) (hr.mono (by decide)) rfl T.m_is_tuple_of T.F_is_tuple_of.kp (b_is_tuple_of T) .nil pass0 (pa_cons (pv 2) (pa_cons (pe_int) pa_nil))))) (pss_one (ps_ret (pe_bl))) pss_nil)
        (pss_cons (ps_asg (pv 2) (u_gtup (K := K) (n := 3) rfl rfl (pgs_cons (pg_name (i := 4) sc_shows_line.nd rfl (Or.inl rfl)) (pgs_cons (pg_name (i := 5) sc_shows_line.nd rfl (Or.inl rfl)) (pgs_cons (pg_name (i := 6) sc_shows_line.nd rfl (Or.inl rfl)) pgs_nil)))))
        (pss_cons (ps_if (PW.pt (pw_or (pt_not (pt_val (pe_call (ok_parts_places T) (hr.mono (by decide)) rfl T.m_parts_places T.F_parts_places.kp (b_parts_places T) .nil pass0 (pa_cons (pv 0) (pa_cons (pv 1) (pa_cons (pv 5) pa_nil)))))) (pw_or1 (pt_not (pt_val (pe_call (ok_are_shown T) (hr.mono (by decide)) rfl T.m_are_shown T.F_are_shown.kp (b_are_shown T) .nil pass0 (pa_cons (pv 5) (pa_cons (pv 6) pa_nil)))))))) (pss_one (ps_ret (pe_bl))) pss_nil)
        (pss_one (ps_ret (pe_and (pe_call (ok_is_integer T) (hr.mono (by decide)) rfl T.m_is_integer T.F_is_integer.kp (b_is_integer T) .nil pass0 (pa_cons (pv 4) pa_nil)) (pe_one (pe_chain (op_uEq (K := K) rfl hu64) (op_uEq (K := K) rfl hu64) (pe_ix (ix_u (K := K) rfl) (pe_meth (pv 3) T.cl_Ladder T.me_Ladder_first_losses (ok_Ladder_first_losses T) (hr.mono (by decide)) (b_Ladder_first_losses T) .nil pass0 (pa_cons (pv 1) pa_nil)) (pe_un op_uNeg (pe_int)) (fun _ _ => rfl)) (pv 4) (pe_call (ok_loss_shown T) (hr.mono (by decide)) rfl T.m_loss_shown T.F_loss_shown.kp (b_loss_shown T) .nil pass0 (pa_cons (pv 0) (pa_cons (pv 5) (pa_cons (pv 6) pa_nil)))))))))))))), ?_⟩
    walk_at "st"
    walk_at "go"
    refine ⟨b, ns, (s : Int), rfl, hb, hl, hn, by omega, by omega, fun x dx la lp ls row' pl H1 nx sa lx ok => ?_⟩
    have er : row' = row := ok.row.uniq R
    subst er
    have lr : row'.length = ns.length := R.perm.length_eq
    have lpl : row'.length = pl.length := by rw [ok.len, ok.pln]
    walk_at "go"
    refine ⟨b, ns, s, rfl, sa _ _ hb, by omega, ?_⟩
    have has : F (cs (rowF row')) s row'.length = none ↔ ¬ (row'.length = 0 ∨ s ≤ row'.length) := F_has s1
    rw [lr] at has
    cases eF : F (cs (rowF row')) s row'.length with
    | none =>
      rw [eF] at kk
      rw [lr] at eF
      have no := has.mp eF
      rw [decide_eq_false (fun z => no (Or.inl z)), decide_eq_false (fun z => no (Or.inr z))]
      refine ⟨_, rfl, U.g_T ?_⟩
      walk_at "go"
      refine kk _ H1 sa ?_
      rw [decide_eq_true_eq]
      exact nd_none hd
    | some u =>
      rw [eF] at kk
      have yes : ns.length = 0 ∨ s ≤ ns.length := Classical.byContradiction fun z => by
        rw [lr] at eF
        rw [has.mpr z] at eF; cases eF
      have eb : (decide (ns.length = 0) || decide (s ≤ ns.length)) = true := by
        rcases yes with z | z
        · rw [decide_eq_true z]; rfl
        · rw [decide_eq_true z, Bool.or_true]
      rw [eb]
      refine ⟨_, rfl, U.g_F ?_⟩
      walk_at "go"
      have no : ¬ JP ns s (some u) d → ∀ H', Same H H' → Q (.bl false) H' := fun h H' s' => kk false H' s' ⟨fun z => (by cases z), fun z => absurd z h⟩
      cases d with
      | non =>
        have hd : v = .non := hd
        subst hd
        refine ⟨_, _, rfl, .inr ⟨"NoneType", ty_non, by decide +kernel, ?_⟩⟩
        walk_at "go"
        exact no (fun z => z) _ sa
      | bad =>
        rcases hd with ⟨i, rfl⟩ | ⟨a, xs, rfl, ha⟩ | ⟨a, xs, rfl, ha, l3⟩
        · refine ⟨_, _, rfl, .inr ⟨"int", ty_int, by decide +kernel, ?_⟩⟩
          walk_at "go"
          exact no (fun z => z) _ sa
        · refine ⟨_, _, rfl, .inr ⟨"list", .base (.lst (sa _ _ ha)), by decide +kernel, ?_⟩⟩
          walk_at "go"
          exact no (fun z => z) _ sa
        · refine ⟨_, _, rfl, .inl ⟨a, xs, rfl, sa _ _ ha, ?_⟩⟩
          rw [decide_eq_false (show ¬ (xs.length : Int) = 3 by omega)]
          walk_at "go"
          exact no (fun z => z) _ sa
      | trip L nss sh =>
        obtain ⟨t, ca, xa, rfl, ht, ⟨cv, hca, hcr, nl⟩, hsh⟩ := hd
        have lcv := prd_len hcr
        rw [List.length_map] at lcv
        refine ⟨_, _, rfl, .inl ⟨t, _, rfl, sa _ _ ht, ?_⟩⟩
        rw [show decide ((([V.int L, V.ref ca, V.ref xa].length : Nat) : Int) = 3) = true from rfl]
        walk_at "go"
        refine U.g_gtup (SqT.of (sa _ _ ht)) rfl ?_
        walk_at "go"
        refine ⟨b, ns, s, _, rfl, sa _ _ hb, by omega, .inr ⟨ca, cv, _, rfl, sa _ _ hca, crs_mono sa hcr, by omega, fun H2 c sb hc => ?_⟩⟩
        have s2' := sa.trans sb
        cases c with
        | false =>
          walk_at "go"
          refine no (fun z => ?_) _ s2'
          cases sh with
          | none => exact z
          | some sv => exact absurd (hc.mpr z.1) Bool.false_ne_true
        | true =>
          have pp := hc.mp rfl
          walk_at "go"
          cases sh with
          | none =>
            obtain ⟨xs, hxa⟩ := hsh
            refine ⟨ca, cv, .ref xa, rfl, s2' _ _ hca, by omega, .inl ⟨"list", .base (.lst (s2' _ _ hxa)), by decide +kernel, ?_⟩⟩
            refine ⟨_, rfl, U.g_T ?_⟩
            walk_at "go"
            exact no (fun z => z) _ s2'
          | some sv =>
            obtain ⟨hxa, svl⟩ := hsh
            refine ⟨ca, cv, .ref xa, rfl, s2' _ _ hca, by omega, .inr ⟨xa, sv.map V.int, rfl, s2' _ _ hxa, by rw [List.all_map]; exact List.all_eq_true.mpr fun _ _ => rfl, by rw [List.length_map]; exact svl, fun H3 s3 => ?_⟩⟩
            have s03 := s2'.trans s3
            rw [show (sv.map V.int).all isIB = true by rw [List.all_map]; exact List.all_eq_true.mpr fun _ _ => rfl, List.length_map, Bool.and_true]
            by_cases ll : sv.length = cv.length
            · rw [decide_eq_true ll]
              refine ⟨_, rfl, U.g_F ?_⟩
              walk_at "go"
              refine ⟨_, "int", true, false, rfl, ty_int, by decide +kernel, by decide +kernel, ?_⟩
              walk_at "go"
              rw [if_pos (show (true && !false) = true from rfl)]
              have lx3 := lx.same (sb.trans s3)
              unfold tChain
              walk_at "go"
              refine ⟨x, dx, _, rfl, lx3.hi, lad_no (by decide +kernel) (by decide +kernel) (by decide +kernel) la lp ls, ?_⟩
              walk_at "go"
              refine ⟨x, dx, la, lp, ls, row', pl, s, rfl, lx3, ok.up, lpl, by omega, s1, by omega, fun q2 H4 nq2 s4 hq2 => ?_⟩
              walk_at "go"
              obtain ⟨ys, ey⟩ := tab_end (cs (rowF row')) s row'.length
              refine U.g_ix (Or.inl (SqL.of hq2)) (at_end (map_end oV ey)) ?_
              rw [eF, show oV (some u) = V.int u from rfl]
              walk_at "go"
              have s04 := s03.trans s4
              refine U.g_2 (fun c1 => ?_) (fun c1 => ?_)
              · have c1 : decide (V.int u = V.int L) = true := c1
                have eL : L = u := (V.int.inj (of_decide_eq_true c1)).symm
                subst eL
                walk_at "go"
                have rg : ∀ k ∈ nss, ∀ x ∈ k, 0 ≤ x ∧ x < (ns.length : Int) := fun k hk x hx => by
                  obtain ⟨nss2, e2, ok2, _⟩ := pp.ex
                  have e3 := some_inj e2
                  subst e3
                  exact (ok2 k hk).2.1 x hx
                refine ⟨b, ca, xa, ns, cv, nss, sv, rfl, s04 _ _ hb, s04 _ _ hca, crs_mono s04 hcr, s04 _ _ hxa, by omega, nl, rg, fun H5 s5 => ?_⟩
                refine Or.inl ⟨rfl, ?_⟩
                refine kk _ H5 (s04.trans s5) ?_
                show decide (V.int L = V.int (lossL ns nss sv)) = true ↔ _
                rw [decide_eq_true_eq]
                exact ⟨fun z => ⟨pp, by omega, rfl, (V.int.inj z).symm⟩, fun z => by rw [z.2.2.2]⟩
              · have c1 : decide (V.int u = V.int L) = false := c1
                refine no (fun z => ?_) _ s04
                rw [z.2.2.1, decide_eq_true rfl] at c1
                cases c1
            · rw [decide_eq_false ll]
              refine ⟨_, rfl, U.g_T ?_⟩
              walk_at "go"
              exact no (fun z => ll (by rw [z.2.1]; omega)) _ s03
end
end Toy

namespace LM
open PySem L2 U M
theorem parts_iff {n s : Nat} {nss : List (List Int)} {xs : List Int} (hp : xs.Perm nss.flatten) (hu : xs.Pairwise (· ≤ ·)) (h : ∀ ms ∈ nss, s ≤ ms.length ∧ adj ms = true) : (decide (xs = rangeI n) = true) ↔ PartsP n s (nss.map fun ms => some (ms.map V.int)) := by
  rw [decide_eq_true_eq]
  constructor
  · intro e
    have fp : nss.flatten.Perm (rangeI n) := by rw [← e]; exact hp.symm
    refine ⟨nss, rfl, fun ms hm => ⟨adj_pw.mp (h ms hm).2, fun x hx => ?_, (h ms hm).1⟩, fp⟩
    exact rangeI_mem.mp (fp.mem_iff.mp (List.mem_flatten.mpr ⟨ms, hm, hx⟩))
  · intro z
    obtain ⟨nss2, e2, _, p3⟩ := z.ex
    have e3 := some_inj e2
    subst e3
    exact (hp.trans p3).eq_of_pairwise (fun _ _ _ _ h1 h2 => Int.le_antisymm h1 h2) hu (rangeI_up _)
theorem crs_len {H : Hp} {cv : List V} {nss : List (List Int)} (h : Paired (CrAt H) cv (nss.map fun ms => some (ms.map V.int))) : ∀ ms ∈ nss, ms.length ≤ 1000 := fun ms hm => by
  obtain ⟨i, hi⟩ := List.getElem?_of_mem hm
  obtain ⟨v, _, a, _, _, _, l⟩ := prd_at2 h (show (nss.map fun ms => some (ms.map V.int))[i]? = some (some (ms.map V.int)) by rw [List.getElem?_map, hi]; rfl)
  rw [List.length_map] at l
  exact l
theorem parts_no {n s : Nat} {nss : List (List Int)} {ms : List Int} (hm : ms ∈ nss) (h : ¬ (s ≤ ms.length ∧ adj ms = true)) : ¬ PartsP n s (nss.map fun ms => some (ms.map V.int)) := fun z => by
  obtain ⟨nss2, e2, ok, _⟩ := z.ex
  have e3 := some_inj e2
  subst e3
  have := ok ms hm
  exact h ⟨this.2.2, adj_pw.mpr this.1⟩
end LM
namespace Toy
open PySem L2 U M LM
section
variable {P : Program} {w : World} {K : PySem.W.Frag} {mg : Str → Option Value} {base : Heap}
theorem sc__law_is_int : FnScope ["thing"] ["thing"] (defScope s__law_is_int) := ⟨rfl, rfl, rfl, by decide +kernel, rfl, by decide +kernel, by decide +kernel⟩
def sp_lisint : Sp := fun vs H Q _ => ∃ i : Int, vs = [.int i] ∧ Q (.bl true) H
theorem ok__law_is_int (T : Tx K mg) : FnOk P w K mg base CX0 1 T.a__law_is_int T.fd__law_is_int ["thing"] sp_lisint := by
  refine T.F__law_is_int.ok sc__law_is_int (fun vs H Q E h => ?_) (fun cdv A outer s H vs Q E hr h => ?_)
  · obtain ⟨i, rfl, _⟩ := h
    rfl
  · obtain ⟨i, rfl, kk⟩ := h
    have hu := hu_of hr
    have hu64 := hr.units
    refine ⟨_, (pss_one (ps_ret (pe_and (pe_callB (call_uIsi (K := K) rfl) (by rfl) T.n_isinstance (by decide +kernel) (pa_cons (pv 0) (pa_cons (u_ty (n := "int") (by rfl) T.n_int (by decide +kernel)) pa_nil))) (pe_one (pe_not (pe_callB (call_uIsi (K := K) rfl) (by rfl) T.n_isinstance (by decide +kernel) (pa_cons (pv 0) (pa_cons (u_ty (n := "bool") (by rfl) T.n_bool (by decide +kernel)) pa_nil)))))))), ?_⟩
    walk_at "st"
    walk_at "go"
    refine e_isi (b := true) ty_int (by decide +kernel) ?_
    walk_at "go"
    refine e_isi (b := false) ty_int (by decide +kernel) ?_
    walk_at "go"
    exact kk
theorem sc__law_are_crowds : FnScope ["amount", "least", "value", "places", "crowd", "place", "one", "other"] ["amount", "least", "value"] (defScope s__law_are_crowds) := ⟨rfl, rfl, rfl, by decide +kernel, rfl, by decide +kernel, by decide +kernel⟩
def sp_lare : Sp := fun vs H Q _ => ∃ (n s : Nat) (ca : Addr) (nss : List (List Int)), vs = [.int n, .int s, .ref ca] ∧ n ≤ 1000 ∧ CrsAt H ca nss ∧ ∀ (c : Bool) (H' : Hp), Same H H' → (c = true ↔ PartsP n s (nss.map fun ms => some (ms.map V.int))) → Q (.bl c) H'
theorem ok__law_are_crowds (T : Tx K mg) : FnOk P w K mg base CX0 2 T.a__law_are_crowds T.fd__law_are_crowds ["amount", "least", "value"] sp_lare := by
  refine T.F__law_are_crowds.ok sc__law_are_crowds (fun vs H Q E h => ?_) (fun cdv A outer s H vs Q E hr h => ?_)
  · obtain ⟨n, s, ca, nss, rfl, _⟩ := h
    rfl
  · obtain ⟨n, s, ca, nss, rfl, nb, ⟨cv, hca, hcr, nl⟩, kk⟩ := h
    have hu := hu_of hr
    have hu64 := hr.units
    refine ⟨_, (pss_cons (ps_if (PW.pt (pw_or (pt_not (pt_val (pe_callB (call_uIsi (K := K) rfl) (by rfl) T.n_isinstance (by decide +kernel) (pa_cons (pv 2) (pa_cons (u_ty (n := "tuple") (by rfl) T.n_tuple (by decide +kernel)) pa_nil))))) (pw_or1 (pt_not (pt_val (pe_callB (call_uAll (K := K) rfl rfl) (by rfl) T.n_all (by decide +kernel) (pa_cons (pe_lc rfl sc__law_are_crowds.nd (u_tup (K := K) rfl (pv 2)) (blkOk_by (own := [("crowd", 4)]) (N := ["amount", "least", "value", "places", "crowd", "place", "one", "other"]) (sc := defScope s__law_are_crowds) (by decide +kernel)) (fun _ _ _ _ _ => (pg_name (i := 4) sc__law_are_crowds.nd rfl (Or.inl rfl))) (fun _ _ _ _ _ => pts_nil) (fun _ _ _ _ _ => (pe_callB (call_uIsi (K := K) rfl) (by rfl) T.n_isinstance (by decide +kernel) (pa_cons (pv 4) (pa_cons (u_ty (n := "tuple") (by rfl) T.n_tuple (by decide +kernel)) pa_nil))))) pa_nil))))))) (pss_one (ps_ret (pe_bl))) pss_nil)
        (pss_cons (ps_set (i := 3) sc__law_are_crowds.nd rfl (Or.inl rfl) (pe_lst pa_nil))
        (pss_cons (ps_for PassesOwn.never rfl (u_tup (K := K) rfl (pv 2)) (pg_name (i := 4) sc__law_are_crowds.nd rfl (Or.inl rfl)) (pss_cons (ps_if (PW.pt (pw_or (pt_cmpR op_uLt (pe_callB (call_uLen (K := K) rfl) (by rfl) T.n_len (by decide +kernel) (pa_cons (pv 4) pa_nil)) (pv 1) (nomark _)) (pw_or1 (pt_not (pt_val (pe_callB (call_uAll (K := K) rfl rfl) (by rfl) T.n_all (by decide +kernel) (pa_cons (pe_lc rfl sc__law_are_crowds.nd (u_tup (K := K) rfl (pv 4)) (blkOk_by (own := [("place", 5)]) (N := ["amount", "least", "value", "places", "crowd", "place", "one", "other"]) (sc := defScope s__law_are_crowds) (by decide +kernel)) (fun _ _ _ _ _ => (pg_name (i := 5) sc__law_are_crowds.nd rfl (Or.inl rfl))) (fun _ _ _ _ _ => pts_nil) (fun _ _ _ _ _ => (pe_call (ok__law_is_int T) (hr.mono (by decide)) rfl T.m__law_is_int T.F__law_is_int.kp (b__law_is_int T) .nil pass0 (pa_cons (pv 5) pa_nil)))) pa_nil))))))) (pss_one (ps_ret (pe_bl))) pss_nil)
        (pss_cons (ps_if (pt_not (pt_val (pe_callB (call_uAll (K := K) rfl rfl) (by rfl) T.n_all (by decide +kernel) (pa_cons (pe_lc rfl sc__law_are_crowds.nd (ZT.pi_zipX (K := K) rfl (by rfl) T.n_zip (pa_cons (pv 4) (pa_cons (pe_slice (U.sl_uA (K := K) rfl) (pv 4) (po_some (pe_int)) po_none) pa_nil))) (blkOk_by (own := [("one", 6), ("other", 7)]) (N := ["amount", "least", "value", "places", "crowd", "place", "one", "other"]) (sc := defScope s__law_are_crowds) (by decide +kernel)) (fun _ _ _ _ _ => (u_gtup (K := K) (n := 2) rfl rfl (pgs_cons (pg_name (i := 6) sc__law_are_crowds.nd rfl (Or.inl rfl)) (pgs_cons (pg_name (i := 7) sc__law_are_crowds.nd rfl (Or.inl rfl)) pgs_nil)))) (fun _ _ _ _ _ => pts_nil) (fun _ _ _ _ _ => (pe_cmpR op_uLt (pv 6) (pv 7) (nomark _)))) pa_nil)))) (pss_one (ps_ret (pe_bl))) pss_nil)
        (pss_one (ps_expr (pe_bm PySem.F.plainAttrs_list PySem.F.slot_list_extend PySem.F.type_list_extend mt_extend (pv 3) (pa_cons (pe_callTy (call_uList (K := K) rfl) (by rfl) T.n_list (by decide +kernel) (pa_cons (pv 4) pa_nil)) pa_nil)))))))
        (pss_one (ps_ret (pe_cmpR (op_uEq (K := K) rfl hu64) (pe_callB (U.call_uSortI (K := K) rfl) (by rfl) T.n_sorted (by decide +kernel) (pa_cons (pv 3) pa_nil)) (pe_listRg rfl rfl T.n_list (prg_1 rfl T.n_range (pv 0))) (nomark _))))))), ?_⟩
    have lcv := prd_len hcr
    rw [List.length_map] at lcv
    walk_at "st"
    walk_at "go"
    refine e_isi (b := true) (ty_tup hca) (by decide +kernel) ?_
    walk_at "go"
    refine e_tup (SqT.of hca) ?_
    refine lcI_same (walk_tup (K := K) (a := ca) (xs := cv)) (by omega) (fun _ => some (V.bl true)) (fun H' s => SqT.of (s _ _ hca)) (fun i H' x H'' y => by rw [y.1]; exact Same.refl _) (fun i y H' H'' A B hi s' hy kA kB => ?t1) fun E1 H1 nE1 sa hE1 => ?c1
    case t1 =>
      obtain ⟨rfl, ey⟩ := hy
      obtain ⟨c, ec, cr⟩ := prd_at hcr ey
      rw [List.getElem?_map] at ec
      cases en : nss[i]? with
      | none => rw [en] at ec; cases ec
      | some ms =>
        rw [en] at ec
        cases ec
        obtain ⟨m, rfl, hm, _, _⟩ := cr
        walk_at "go"
        refine ⟨rfl, ?_⟩
        walk_at "go"
        refine e_isi (b := true) (ty_tup (s' _ _ hm)) (by decide +kernel) ?_
        exact kA _ _ rfl (Same.refl _)
    have e : (List.range cv.length).filterMap (fun _ => some (V.bl true)) = ((List.range cv.length).map fun _ => true).map V.bl := by
      rw [List.map_map]
      exact congrFun List.filterMap_eq_map _
    rw [e] at hE1
    walk_at "go"
    refine U.g_allB (SqL.of hE1) ?_
    rw [show ((List.range cv.length).map fun _ => true).all id = true by simp]
    walk_at "go"
    refine ⟨by decide, fun l nll => ?_⟩
    have slx := U.same_new (o := .lst []) nll
    walk_at "go"
    refine e_tup (SqT.of ((sa.trans slx) _ _ hca)) ?_
    have nlH : H l = none := none_of sa nll
    refine forI_by (walk_tup (K := K) (a := ca) (xs := cv)) (fun i σ' H' => ∃ (v4 v5 v6 v7 : Option V), σ' = [some (.int (n : Int)), some (.int (s : Int)), some (.ref ca), some (.ref l), v4, v5, v6, v7] ∧ (∀ ms ∈ nss.take i, s ≤ ms.length ∧ adj ms = true) ∧ H' l = some (.lst ((nss.take i).flatten.map V.int)) ∧ Same H H') ⟨_, _, _, _, rfl, (fun _ h => by cases h), upd_same, sa.trans slx⟩ (fun i σ' H' _ ⟨_, _, _, _, _, _, _, s'⟩ => SqT.of (s' _ _ hca)) ?ts ?td
    case ts =>
      rintro i y σ' _ H2 hi ⟨v4, v5, v6, v7, rfl, hall, hl', s'⟩ ⟨rfl, ey⟩
      obtain ⟨c, ec, cr⟩ := prd_at hcr ey
      rw [List.getElem?_map] at ec
      cases en : nss[i]? with
      | none => rw [en] at ec; cases ec
      | some ms =>
        rw [en] at ec
        cases ec
        obtain ⟨m, rfl, hm, _, ml⟩ := cr
        rw [List.length_map] at ml
        have hm2 := s' _ _ hm
        have mm := List.mem_of_getElem? en
        walk_at "go"
        refine U.g_lenL (Or.inr (SqT.of hm2)) ?_
        walk_at "go"
        rw [List.length_map]
        refine U.g_2 (fun cc => ?_) (fun cc => ?_)
        · have cc := of_decide_eq_true cc
          walk_at "go"
          exact kk false _ s' ⟨fun z => (by cases z), fun z => absurd z (parts_no mm fun q => by omega)⟩
        · have cc := of_decide_eq_false cc
          walk_at "go"
          refine e_tup (SqT.of hm2) ?_
          refine lcI_tup (fun H' s' => SqT.of (s' _ _ hm2)) (by rw [List.length_map]; omega) (fun _ => some (V.bl true)) (fun v H3 A B hv s3 kA kB => ?t3) fun E2 H3 nE2 s3 hE2 => ?c3
          case t3 =>
            obtain ⟨z, _, rfl⟩ := List.mem_map.mp hv
            walk_at "go"
            refine ⟨rfl, ?_⟩
            walk_at "go"
            exact ⟨z, rfl, kA _ _ rfl (Same.refl _)⟩
          have e2 : (ms.map V.int).filterMap (fun _ => some (V.bl true)) = ((ms.map V.int).map fun _ => true).map V.bl := by
            rw [List.map_map]
            exact congrFun List.filterMap_eq_map _
          rw [e2] at hE2
          walk_at "go"
          refine U.g_allB (SqL.of hE2) ?_
          rw [show (((ms.map V.int).map fun _ => true).all id) = true by simp]
          refine ⟨_, rfl, U.g_F ?_⟩
          have hm3 := s3 _ _ hm2
          have has : ∀ H', Same H3 H' → SqT K H' m (ms.map V.int) := fun H' s => SqT.of (s _ _ hm3)
          walk_at "go"
          refine U.g_slT has fun c H4 sc hc => ?_
          rw [cut_one, ← List.map_drop] at hc
          walk_at "go"
          refine ⟨m, c, true, true, ms.map V.int, (ms.drop 1).map V.int, rfl, ZT.sq_t (has _ sc), ZT.sq_t (hc _ (Same.refl _)), ?_⟩
          refine ZT.lcI_zipX (fun H' s' => ZT.sq_t (has _ (sc.trans s'))) (fun H' s' => ZT.sq_t (hc _ s')) (by rw [List.length_map]; omega) (fun i => ((ms[i]?).bind fun a => (ms[i + 1]?).bind fun b => some (decide (a < b))).map V.bl) (fun i x y T H' A B ex ey s' hT kA kB => ?t2) fun E3 H5 nE3 s5 hE3 => ?c2
          case t2 =>
            rw [List.getElem?_map] at ex ey
            rw [List.getElem?_drop] at ey
            cases e1 : ms[i]? with
            | none => rw [e1] at ex; cases ex
            | some p =>
              rw [e1] at ex
              cases ex
              rw [show 1 + i = i + 1 by omega] at ey
              cases e2 : ms[i + 1]? with
              | none => rw [e2] at ey; cases ey
              | some q =>
                rw [e2] at ey
                cases ey
                walk_at "go"
                refine ⟨rfl, ?_⟩
                walk_at "go"
                refine kA _ _ ?_ (Same.refl _)
                rw [e1, e2]
                rfl
          rw [List.length_map, List.length_map, List.length_drop, ← List.map_filterMap] at hE3
          walk_at "go"
          refine U.g_allB (SqL.of hE3) ?_
          rw [adj_all]
          have s25 : Same H2 H5 := s3.trans (sc.trans s5)
          have s05 := s'.trans s25
          cases ea : adj ms with
          | false =>
            refine ⟨_, rfl, U.g_T ?_⟩
            walk_at "go"
            exact kk false _ s05 ⟨fun z => (by cases z), fun z => absurd z (parts_no mm fun q => by rw [ea] at q; cases q.2)⟩
          | true =>
            refine ⟨_, rfl, U.g_F ?_⟩
            walk_at "go"
            have hl5 := s25 _ _ hl'
            refine U.ty_lst hl5 ?_
            walk_at "go"
            refine U.g_lstC (Or.inr (SqT.of (s25 _ _ hm2))) fun k nk => ?_
            have sk := U.same_new (o := .lst (ms.map V.int)) nk
            walk_at "go"
            refine U.g_ext (sk _ _ hl5) upd_same (by
              rw [List.length_map, List.length_map]
              have f2 := flat_len (B := 1000) (nss := nss.take i) fun q hq => crs_len hcr q (List.mem_of_mem_take hq)
              have f3 : (nss.take i).length ≤ 999 := by rw [List.length_take]; omega
              omega) ?_
            refine ⟨_, _, _, _, rfl, fun q hq => ?_, ?_, same_mut (s05.trans sk) nlH⟩
            · rw [List.take_succ, en] at hq
              rcases List.mem_append.mp hq with hq | hq
              · exact hall q hq
              · have hq : q = ms := by simpa using hq
                subst hq
                exact ⟨by omega, ea⟩
            · rw [upd_same, List.take_succ, en, ← List.map_append]
              congr 3
              simp
    case td =>
      rintro σ' H2 ⟨v4, v5, v6, v7, rfl, hall, hl', s'⟩
      rw [lcv, List.take_of_length_le (Nat.le_refl _)] at hall hl'
      walk_at "go"
      refine U.g_sortI (SqL.of hl') fun xs m p1 p2 nm => ?_
      have sm0 := U.same_new (o := .lst (xs.map V.int)) nm
      walk_at "go"
      refine ⟨RgOk.of_le (by omega) (by omega) (by omega) (by omega), fun r nr => ?_⟩
      have sr := U.same_new (o := .lst (rgV 0 (n : Int))) nr
      refine g_eqL (SqL.of (sr _ _ upd_same)) (SqL.of (by rw [upd_same, rgV_int])) ?_
      exact kk _ _ ((s'.trans sm0).trans sr) (parts_iff p1 p2 hall)
theorem sc__law_loss : FnScope ["values", "crowds", "shown", "found", "crowd", "one", "place"] ["values", "crowds", "shown"] (defScope s__law_loss) := ⟨rfl, rfl, rfl, by decide +kernel, rfl, by decide +kernel, by decide +kernel⟩
def sp_lloss : Sp := fun vs H Q _ => ∃ (b ca q : Addr) (ns : List Int) (nss : List (List Int)) (sh : List Int), vs = [.ref b, .ref ca, .ref q] ∧ H b = some (.tup (ns.map V.int)) ∧ CrsAt H ca nss ∧ H q = some (.tup (sh.map V.int)) ∧ sh.length = nss.length ∧
  (∀ k ∈ nss, ∀ x ∈ k, 0 ≤ x ∧ x < (ns.length : Int)) ∧ ∀ H', Same H H' → Q (.int (lossL ns nss sh)) H'
theorem ok__law_loss (T : Tx K mg) : FnOk P w K mg base CX0 1 T.a__law_loss T.fd__law_loss ["values", "crowds", "shown"] sp_lloss := by
  refine T.F__law_loss.ok sc__law_loss (fun vs H Q E h => ?_) (fun cdv A outer s H vs Q E hr h => ?_)
  · obtain ⟨b, ca, q, ns, nss, sh, rfl, _⟩ := h
    rfl
  · obtain ⟨b, a, q, ns, nss, sh, rfl, hb, ⟨cv, ha, hp, nl⟩, hq, sl, rg, kk⟩ := h
    have hu := hu_of hr
    have hu64 := hr.units
    refine ⟨_, (pss_cons (ps_set (i := 3) sc__law_loss.nd rfl (Or.inl rfl) (pe_int))
        (pss_cons (ps_for PassesOwn.never rfl (ZT.pi_zipX (K := K) rfl (by rfl) T.n_zip (pa_cons (pv 1) (pa_cons (pv 2) pa_nil))) (u_gtup (K := K) (n := 2) rfl rfl (pgs_cons (pg_name (i := 4) sc__law_loss.nd rfl (Or.inl rfl)) (pgs_cons (pg_name (i := 5) sc__law_loss.nd rfl (Or.inr rfl)) pgs_nil))) (pss_one (ps_set (i := 3) sc__law_loss.nd rfl (Or.inl rfl) (pe_op (op_uAdd (K := K) rfl) (pv 3) (pe_callB (call_uSum (K := K) rfl rfl) (by rfl) T.n_sum (by decide +kernel) (pa_cons (pe_lc rfl sc__law_loss.nd (u_tup (K := K) rfl (pv 4)) (blkOk_by (own := [("place", 6)]) (N := ["values", "crowds", "shown", "found", "crowd", "one", "place"]) (sc := defScope s__law_loss) (by decide +kernel)) (fun _ _ _ _ _ => (pg_name (i := 6) sc__law_loss.nd rfl (Or.inl rfl))) (fun _ _ _ _ _ => pts_nil) (fun _ _ _ _ _ => (pe_callB call_uAbs (by rfl) T.n_abs (by decide +kernel) (pa_cons (pe_op op_uSub (pe_ix (ix_u (K := K) rfl) (pv 0) (pv 6) (fun _ _ => rfl)) (pv 5)) pa_nil)))) pa_nil))))))
        (pss_one (ps_ret (pe_callTy call_uInt (by rfl) T.n_int (by decide +kernel) (pa_cons (pv 3) pa_nil)))))), ?_⟩
    walk_at "st"
    walk_at "go"
    have lcv := prd_len hp
    rw [List.length_map] at lcv
    refine ⟨a, q, true, true, cv, sh.map V.int, rfl, ZT.sq_t (SqT.of ha), ZT.sq_t (SqT.of hq), ?_⟩
    refine forI_by (ZT.walk_zipX (K := K) (t1 := true) (t2 := true) (a := a) (b := q) (xs := cv) (ys := sh.map V.int)) (fun i σ' H' => ∃ (v4 v5 v6 : Option V), σ' = [some (.ref b), some (.ref a), some (.ref q), some (.int (lossT ns nss sh i)), v4, v5, v6] ∧ Same H H') ⟨none, none, none, rfl, Same.refl _⟩ (fun i σ' H' _ ⟨_, _, _, _, s'⟩ => ⟨ZT.sq_t (SqT.of (s' _ _ ha)), ZT.sq_t (SqT.of (s' _ _ hq))⟩) ?ts ?td
    case td =>
      rintro σ' H' ⟨v4, v5, v6, rfl, s'⟩
      rw [lossT_all (by rw [List.length_zip, List.length_map]; omega)]
      walk_at "go"
      exact kk _ s'
    case ts =>
      rintro i y σ' H' H'' hi ⟨v4, v5, v6, rfl, s'⟩ ⟨t, a1, a2, rfl, nt, rfl, e1, e2⟩
      have sT := U.same_new (o := .tup [a1, a2]) nt
      obtain ⟨c, ec, cr⟩ := prd_at (crs_mono (s'.trans sT) hp) e1
      have e2 : (sh.map V.int)[i]? = some a2 := e2
      rw [List.getElem?_map] at ec e2
      cases en : nss[i]? with
      | none => rw [en] at ec; cases ec
      | some k =>
        rw [en] at ec
        cases ec
        obtain ⟨m, rfl, hm, _, ml⟩ := cr
        cases es : sh[i]? with
        | none => rw [es] at e2; cases e2
        | some z =>
          rw [es] at e2
          cases e2
          rw [List.length_map] at ml
          have kr := rg k (List.mem_of_getElem? en)
          have hb1 := (s'.trans sT) _ _ hb
          walk_at "go"
          refine e_tup (SqT.of hm) ?_
          refine lcI_tup (fun H' s' => SqT.of (s' _ _ hm)) (by rw [List.length_map]; omega) (fun v => match v with | .int x => some (.int (ab (rowF ns x.toNat - z))) | _ => none) (fun x H2 A B hx s2 kA kB => ?t1) fun L1 H2 nL1 s2 hL1 => ?c1
          case t1 =>
            obtain ⟨x, hxk, rfl⟩ := List.mem_map.mp hx
            obtain ⟨x0, x1⟩ := kr x hxk
            walk_at "go"
            refine ⟨rfl, ?_⟩
            walk_at "go"
            refine U.g_ix (Or.inr (SqT.of (s2 _ _ hb1))) (U.at_nat (show x = ((x.toNat : Nat) : Int) by omega) (show (ns.map V.int)[x.toNat]? = some (V.int (rowF ns x.toNat)) by rw [List.getElem?_map, rowF_at (by omega)]; rfl)) ?_
            walk_at "go"
            exact kA _ _ rfl (Same.refl _)
          have e3 : (k.map V.int).filterMap (fun v => match v with | .int x => some (V.int (ab (rowF ns x.toNat - z))) | _ => none) = (k.map fun x => ab (rowF ns x.toNat - z)).map V.int := by
            rw [List.filterMap_map, List.map_map, ← List.filterMap_eq_map]
            rfl
          rw [e3] at hL1
          walk_at "go"
          refine U.g_sum (SqL.of hL1) ?_
          walk_at "go"
          exact ⟨_, _, _, by rw [lossT_succ en es]; rfl, (s'.trans sT).trans s2⟩
end
end Toy

namespace Toy
open PySem L2 U M LM
section
variable {P : Program} {w : World} {K : PySem.W.Frag} {mg : Str → Option Value} {base : Heap}
theorem sc__law_may_line : FnScope ["values", "least", "best", "value", "loss", "crowds", "shown", "one"] ["values", "least", "best", "value"] (defScope s__law_may_line) := ⟨rfl, rfl, rfl, by decide +kernel, rfl, by decide +kernel, by decide +kernel⟩
def sp_lmay : Sp := fun vs H Q _ => ∃ (b : Addr) (ns : List Int) (s : Nat) (best : Option Int) (v : V) (d : Nd), vs = [.ref b, .int s, oV best, v] ∧ H b = some (.tup (ns.map V.int)) ∧ ns.length ≤ 1000 ∧ NdAt H v d ∧ ∀ (c : Bool) (H' : Hp), Same H H' → (c = true ↔ JP ns s best d) → Q (.bl c) H'
theorem ok__law_may_line (T : Tx K mg) : FnOk P w K mg base CX0 3 T.a__law_may_line T.fd__law_may_line ["values", "least", "best", "value"] sp_lmay := by
  refine T.F__law_may_line.ok sc__law_may_line (fun vs H Q E h => ?_) (fun cdv A outer s H vs Q E hr h => ?_)
  · obtain ⟨b, ns, s, best, v, d, rfl, _⟩ := h
    rfl
  · obtain ⟨b, ns, s, best, v, d, rfl, hb, hl, hd, kk⟩ := h
    have hu := hu_of hr
    have hu64 := hr.units
    refine ⟨_, (pss_cons (ps_if (PW.pt (pw_or (pt_cmpR op_isN (pv 2) pe_non (nomark _)) (pw_or (pt_not (pt_val (pe_callB (call_uIsi (K := K) rfl) (by rfl) T.n_isinstance (by decide +kernel) (pa_cons (pv 3) (pa_cons (u_ty (n := "tuple") (by rfl) T.n_tuple (by decide +kernel)) pa_nil))))) (pw_or1 (pt_cmpR (op_uNe (K := K) rfl hu64) (pe_callB (call_uLen (K := K) rfl) (by rfl) T.n_len (by decide +kernel) (pa_cons (pv 3) pa_nil)) (pe_int) (nomark _)))))) (pss_one (ps_ret (pe_and (pe_cmpR op_isN (pv 2) pe_non (nomark _)) (pe_one (pe_cmpR op_isN (pv 3) pe_non (nomark _)))))) pss_nil)
        (pss_cons (ps_asg (pv 3) (u_gtup (K := K) (n := 3) rfl rfl (pgs_cons (pg_name (i := 4) sc__law_may_line.nd rfl (Or.inl rfl)) (pgs_cons (pg_name (i := 5) sc__law_may_line.nd rfl (Or.inl rfl)) (pgs_cons (pg_name (i := 6) sc__law_may_line.nd rfl (Or.inl rfl)) pgs_nil)))))
        (pss_cons (ps_if (PW.pt (pw_or (pt_not (pt_val (pe_call (ok__law_is_int T) (hr.mono (by decide)) rfl T.m__law_is_int T.F__law_is_int.kp (b__law_is_int T) .nil pass0 (pa_cons (pv 4) pa_nil)))) (pw_or (pt_cmpR (op_uNe (K := K) rfl hu64) (pv 4) (pv 2) (nomark _)) (pw_or1 (pt_not (pt_val (pe_call (ok__law_are_crowds T) (hr.mono (by decide)) rfl T.m__law_are_crowds T.F__law_are_crowds.kp (b__law_are_crowds T) .nil pass0 (pa_cons (pe_callB (call_uLen (K := K) rfl) (by rfl) T.n_len (by decide +kernel) (pa_cons (pv 0) pa_nil)) (pa_cons (pv 1) (pa_cons (pv 5) pa_nil)))))))))) (pss_one (ps_ret (pe_bl))) pss_nil)
        (pss_cons (ps_if (PW.pt (pw_or (pt_not (pt_val (pe_callB (call_uIsi (K := K) rfl) (by rfl) T.n_isinstance (by decide +kernel) (pa_cons (pv 6) (pa_cons (u_ty (n := "tuple") (by rfl) T.n_tuple (by decide +kernel)) pa_nil))))) (pw_or (pt_cmpR (op_uNe (K := K) rfl hu64) (pe_callB (call_uLen (K := K) rfl) (by rfl) T.n_len (by decide +kernel) (pa_cons (pv 6) pa_nil)) (pe_callB (call_uLen (K := K) rfl) (by rfl) T.n_len (by decide +kernel) (pa_cons (pv 5) pa_nil)) (nomark _)) (pw_or1 (pt_not (pt_val (pe_callB (call_uAll (K := K) rfl rfl) (by rfl) T.n_all (by decide +kernel) (pa_cons (pe_lc rfl sc__law_may_line.nd (u_tup (K := K) rfl (pv 6)) (blkOk_by (own := [("one", 7)]) (N := ["values", "least", "best", "value", "loss", "crowds", "shown", "one"]) (sc := defScope s__law_may_line) (by decide +kernel)) (fun _ _ _ _ _ => (pg_name (i := 7) sc__law_may_line.nd rfl (Or.inl rfl))) (fun _ _ _ _ _ => pts_nil) (fun _ _ _ _ _ => (pe_call (ok__law_is_int T) (hr.mono (by decide)) rfl T.m__law_is_int T.F__law_is_int.kp (b__law_is_int T) .nil pass0 (pa_cons (pv 7) pa_nil)))) pa_nil)))))))) (pss_one (ps_ret (pe_bl))) pss_nil)
        (pss_one (ps_ret (pe_cmpR (op_uEq (K := K) rfl hu64) (pe_call (ok__law_loss T) (hr.mono (by decide)) rfl T.m__law_loss T.F__law_loss.kp (b__law_loss T) .nil pass0 (pa_cons (pv 0) (pa_cons (pv 5) (pa_cons (pv 6) pa_nil)))) (pv 2) (nomark _)))))))), ?_⟩
    walk_at "st"
    cases best with
    | none =>
      have e0 : oV none = V.non := rfl
      rw [e0]
      walk_at "go"
      refine U.g_T (U.g_T ?_)
      walk_at "go"
      refine U.g_T ?_
      walk_at "go"
      refine kk _ H (Same.refl _) ?_
      rw [decide_eq_true_eq]
      exact nd_none hd
    | some u =>
      have e0 : oV (some u) = V.int u := rfl
      rw [e0]
      have no : ¬ JP ns s (some u) d → ∀ H', Same H H' → Q (.bl false) H' := fun h H' s' => kk false H' s' ⟨fun z => (by cases z), fun z => absurd z h⟩
      walk_at "go"
      refine U.g_F ?_
      walk_at "go"
      cases d with
      | non =>
        have hd : v = .non := hd
        subst hd
        refine e_isi (b := false) ty_non (by decide +kernel) ?_
        walk_at "go"
        exact no (fun z => z) _ (Same.refl _)
      | bad =>
        rcases hd with ⟨i, rfl⟩ | ⟨a, xs, rfl, ha⟩ | ⟨a, xs, rfl, ha, l3⟩
        · refine e_isi (b := false) ty_int (by decide +kernel) ?_
          walk_at "go"
          exact no (fun z => z) _ (Same.refl _)
        · refine e_isi (b := false) (t := "list") (.base (.lst ha)) (by decide +kernel) ?_
          walk_at "go"
          exact no (fun z => z) _ (Same.refl _)
        · refine e_isi (b := true) (ty_tup ha) (by decide +kernel) ?_
          walk_at "go"
          refine U.g_lenL (Or.inr (SqT.of ha)) ?_
          walk_at "go"
          refine U.g_2 (fun _ => ?_) (fun c => ?_)
          · walk_at "go"
            exact no (fun z => z) _ (Same.refl _)
          · have c : (!decide (V.int (xs.length : Int) = V.int 3)) = false := c
            rw [decide_eq_false (fun z => l3 (by have := V.int.inj z; omega))] at c
            cases c
      | trip L nss sh =>
        obtain ⟨t, ca, xa, rfl, ht, hcrs, hsh⟩ := hd
        refine e_isi (b := true) (ty_tup ht) (by decide +kernel) ?_
        walk_at "go"
        refine U.g_lenL (Or.inr (SqT.of ht)) ?_
        walk_at "go"
        refine U.g_F ?_
        walk_at "go"
        refine ⟨L, rfl, ?_⟩
        refine ⟨_, rfl, U.g_F ?_⟩
        walk_at "go"
        by_cases eL : L = u
        · subst eL
          refine ite_no (ne_refl _) ?_
          walk_at "go"
          refine U.g_lenL (Or.inr (SqT.of hb)) ?_
          walk_at "go"
          rw [List.length_map]
          refine ⟨ns.length, s, ca, nss, rfl, hl, hcrs, fun c H1 sa hc => ?_⟩
          cases c with
          | false =>
            refine ⟨_, rfl, U.g_T ?_⟩
            walk_at "go"
            refine no (fun z => ?_) _ sa
            cases sh with
            | none => exact z
            | some sv => exact absurd (hc.mpr z.1) Bool.false_ne_true
          | true =>
            have pp := hc.mp rfl
            refine ⟨_, rfl, U.g_F ?_⟩
            walk_at "go"
            have hcrs1 : CrsAt H1 ca nss := by
              obtain ⟨cv, h2, h3, h5⟩ := hcrs
              exact ⟨cv, sa _ _ h2, crs_mono sa h3, h5⟩
            cases sh with
            | none =>
              obtain ⟨xs, hxa⟩ := hsh
              refine e_isi (b := false) (t := "list") (.base (.lst (sa _ _ hxa))) (by decide +kernel) ?_
              refine ⟨_, rfl, U.g_T ?_⟩
              walk_at "go"
              exact no (fun z => z) _ sa
            | some sv =>
              obtain ⟨hxa, svl⟩ := hsh
              have hx1 := sa _ _ hxa
              refine e_isi (b := true) (ty_tup hx1) (by decide +kernel) ?_
              refine ⟨_, rfl, U.g_F ?_⟩
              walk_at "go"
              refine U.g_lenL (Or.inr (SqT.of hx1)) ?_
              walk_at "go"
              obtain ⟨cv, h2, h3, h5⟩ := id hcrs1
              have lcv := prd_len h3
              rw [List.length_map] at lcv
              refine U.g_lenL (Or.inr (SqT.of h2)) ?_
              walk_at "go"
              rw [List.length_map]
              by_cases ll : sv.length = nss.length
              · rw [show ((sv.length : Nat) : Int) = ((cv.length : Nat) : Int) by omega]
                refine ite_no (ne_refl _) ?_
                walk_at "go"
                refine e_tup (SqT.of hx1) ?_
                refine lcI_tup (fun H' s' => SqT.of (s' _ _ hx1)) (by rw [List.length_map]; omega) (fun _ => some (V.bl true)) (fun v H3 A B hv s3 kA kB => ?t1) fun E2 H3 nE2 s3 hE2 => ?c1
                case t1 =>
                  obtain ⟨z, _, rfl⟩ := List.mem_map.mp hv
                  walk_at "go"
                  refine ⟨rfl, ?_⟩
                  walk_at "go"
                  exact ⟨z, rfl, kA _ _ rfl (Same.refl _)⟩
                have e2 : (sv.map V.int).filterMap (fun _ => some (V.bl true)) = ((sv.map V.int).map fun _ => true).map V.bl := by
                  rw [List.map_map]
                  exact congrFun List.filterMap_eq_map _
                rw [e2] at hE2
                walk_at "go"
                refine U.g_allB (SqL.of hE2) ?_
                rw [show (((sv.map V.int).map fun _ => true).all id) = true by simp]
                refine ⟨_, rfl, U.g_F ?_⟩
                walk_at "go"
                have s03 := sa.trans s3
                have rg : ∀ k ∈ nss, ∀ x ∈ k, 0 ≤ x ∧ x < (ns.length : Int) := fun k hk x hx => by
                  obtain ⟨nss2, e2, ok2, _⟩ := pp.ex
                  have e3 := some_inj e2
                  subst e3
                  exact (ok2 k hk).2.1 x hx
                refine ⟨b, ca, xa, ns, nss, sv, rfl, s03 _ _ hb, ⟨cv, s3 _ _ h2, crs_mono s3 h3, h5⟩, s3 _ _ hx1, ll, rg, fun H5 s5 => ?_⟩
                walk_at "go"
                refine kk _ H5 (s03.trans s5) ?_
                show decide (V.int (lossL ns nss sv) = V.int L) = true ↔ _
                rw [decide_eq_true_eq]
                exact ⟨fun z => ⟨pp, ll, rfl, V.int.inj z⟩, fun z => by rw [z.2.2.2]⟩
              · rw [show (if true = true then !decide (V.int (sv.length : Int) = V.int (cv.length : Int)) else decide (V.int (sv.length : Int) = V.int (cv.length : Int))) = true by rw [if_pos rfl, decide_eq_false (fun z => ll (by have := V.int.inj z; omega))]; rfl]
                refine U.g_T ?_
                walk_at "go"
                exact no (fun z => ll z.2.1) _ sa
        · rw [show (if true = true then !decide (V.int L = V.int u) else decide (V.int L = V.int u)) = true by rw [if_pos rfl, decide_eq_false (fun z => eL (V.int.inj z))]; rfl]
          refine U.g_T ?_
          walk_at "go"
          refine no (fun z => ?_) _ (Same.refl _)
          cases sh with
          | none => exact z
          | some sv => exact eL z.2.2.1
end
end Toy

namespace LM
open PySem L2 U M
def gV (g : List Nat) : List V := g.map fun i : Nat => V.int (i : Int)
/-- a crowd, crowds, at their addresses, none of which is l -/
def GAv (l : Addr) (H : Hp) (v : V) (g : List Nat) : Prop := ∃ a, v = .ref a ∧ a ≠ l ∧ H a = some (.lst (gV g))
def CAv (l : Addr) (H : Hp) (v : V) (cr : List (List Nat)) : Prop := ∃ a vs, v = .ref a ∧ a ≠ l ∧ H a = some (.lst vs) ∧ Paired (GAv l H) vs cr
theorem GAv.mono {l : Addr} {H H' : Hp} (s : SB l H H') {v : V} {g : List Nat} (h : GAv l H v g) : GAv l H' v g := let ⟨a, e, n, h⟩ := h; ⟨a, e, n, s _ _ h n⟩
theorem CAv.mono {l : Addr} {H H' : Hp} (s : SB l H H') {v : V} {cr : List (List Nat)} (h : CAv l H v cr) : CAv l H' v cr := let ⟨a, vs, e, n, h1, h2⟩ := h; ⟨a, vs, e, n, s _ _ h1 n, prd_mono (fun _ _ => GAv.mono s) h2⟩
theorem cas_mono {l : Addr} {H H' : Hp} (s : SB l H H') {vs : List V} {crs : List (List (List Nat))} (h : Paired (CAv l H) vs crs) : Paired (CAv l H') vs crs := prd_mono (fun _ _ => CAv.mono s) h
/-- crowds, told of no address -/
def CAt (H : Hp) (v : V) (cr : List (List Nat)) : Prop := ∃ a vs, v = .ref a ∧ H a = some (.lst vs) ∧ Paired (fun v g => ∃ a, v = .ref a ∧ H a = some (.lst (gV g))) vs cr
theorem CAt.av {l : Addr} {H : Hp} (n : H l = none) {v : V} {cr : List (List Nat)} (h : CAt H v cr) : CAv l H v cr := by
  obtain ⟨a, vs, e, h1, h2⟩ := h
  exact ⟨a, vs, e, ne_of_none h1 n, h1, prd_mono (fun w g hw => by obtain ⟨c, e, h⟩ := hw; exact ⟨c, e, ne_of_none h n, h⟩) h2⟩
theorem CAv.at {l : Addr} {H : Hp} {v : V} {cr : List (List Nat)} (h : CAv l H v cr) : CAt H v cr := by
  obtain ⟨a, vs, e, _, h1, h2⟩ := h
  exact ⟨a, vs, e, h1, prd_mono (fun w g hw => by obtain ⟨c, e, _, h⟩ := hw; exact ⟨c, e, h⟩) h2⟩
theorem CAt.mono {H H' : Hp} (s : Same H H') {v : V} {cr : List (List Nat)} (h : CAt H v cr) : CAt H' v cr := by
  obtain ⟨a, vs, e, h1, h2⟩ := h
  exact ⟨a, vs, e, s _ _ h1, prd_mono (fun w g hw => by obtain ⟨c, e, h⟩ := hw; exact ⟨c, e, s _ _ h⟩) h2⟩
theorem prd_take {α β : Type} {R : α → β → Prop} : ∀ (n : Nat) {xs : List α} {ys : List β}, Paired R xs ys → Paired R (xs.take n) (ys.take n)
  | 0, _, _, _ => by rw [List.take_zero, List.take_zero]; exact .nil
  | n + 1, _, _, .nil => .nil
  | n + 1, _, _, .cons a r => .cons a (prd_take n r)
theorem prd_drop {α β : Type} {R : α → β → Prop} : ∀ (n : Nat) {xs : List α} {ys : List β}, Paired R xs ys → Paired R (xs.drop n) (ys.drop n)
  | 0, _, _, h => h
  | n + 1, _, _, .nil => .nil
  | n + 1, _, _, .cons a r => prd_drop n r
theorem prd_app {α β : Type} {R : α → β → Prop} : ∀ {xs xs' : List α} {ys ys' : List β}, Paired R xs ys → Paired R xs' ys' → Paired R (xs ++ xs') (ys ++ ys')
  | _, _, _, _, .nil, h => h
  | _, _, _, _, .cons a r, h => .cons a (prd_app r h)
theorem prd_filter {α β : Type} {R : α → β → Prop} (p : β → Bool) : ∀ {xs : List α} {ys : List β}, Paired R xs ys → Paired R ((xs.zip ys).filterMap fun q => if p q.2 = true then some q.1 else none) (ys.filter p)
  | _, _, .nil => .nil
  | x :: xs, y :: ys, .cons a r => by
    rw [List.zip_cons_cons, List.filterMap_cons, List.filter_cons]
    by_cases c : p y = true
    · rw [if_pos c, if_pos c]
      exact .cons a (prd_filter p r)
    · rw [if_neg c, if_neg c]
      exact prd_filter p r
/-- what one parting gives with a place more -/
def stepP (n : Nat) (cr : List (List Nat)) : List (List (List Nat)) := (cr ++ [[n]]) :: (List.range cr.length).map fun k => cr.take k ++ [(cr[k]?).getD [] ++ [n]] ++ cr.drop (k + 1)
theorem parts_step (n : Nat) : parts (n + 1) = (parts n).flatMap (stepP n) := rfl
theorem parts_len : ∀ n, n ≤ 6 → (parts n).length ≤ 203 ∧ ∀ cr ∈ parts n, cr.length ≤ 6 ∧ ∀ g ∈ cr, g.length ≤ 6 := by
  have h : (List.range 7).all (fun n => decide ((parts n).length ≤ 203) && (parts n).all fun cr => decide (cr.length ≤ 6) && cr.all fun g => decide (g.length ≤ 6)) = true := by decide +kernel
  intro n hn
  have := List.all_eq_true.mp h n (List.mem_range.mpr (by omega))
  rw [Bool.and_eq_true, decide_eq_true_eq, List.all_eq_true] at this
  refine ⟨this.1, fun cr hcr => ?_⟩
  have := this.2 cr hcr
  rw [Bool.and_eq_true, decide_eq_true_eq, List.all_eq_true] at this
  exact ⟨this.1, fun g hg => of_decide_eq_true (this.2 g hg)⟩
theorem take_flat_len {n : Nat} (hn : n + 1 ≤ 6) (j : Nat) : (((parts n).take j).flatMap (stepP n)).length ≤ 203 := by
  refine Nat.le_trans ?_ (parts_len (n + 1) hn).1
  rw [parts_step]
  have : (parts n) = (parts n).take j ++ (parts n).drop j := (List.take_append_drop _ _).symm
  conv => rhs; rw [this, List.flatMap_append, List.length_append]
  omega
end LM
namespace Toy
open PySem L2 U M LM
section
variable {P : Program} {w : World} {K : PySem.W.Frag} {mg : Str → Option Value} {base : Heap}
theorem sc__law_partings : FnScope ["amount", "least", "found", "place", "later", "crowds", "at", "crowd"] ["amount", "least"] (defScope s__law_partings) := ⟨rfl, rfl, rfl, by decide +kernel, rfl, by decide +kernel, by decide +kernel⟩
def sp_partings : Sp := fun vs H Q _ => ∃ (n s : Nat), vs = [.int n, .int s] ∧ n ≤ 6 ∧ ∀ (l : Addr) (vs : List V) (H' : Hp), Same H H' → H' l = some (.lst vs) → Paired (CAt H') vs ((parts n).filter fun cr => cr.all fun g => decide (s ≤ g.length)) → Q (.ref l) H'
theorem ok__law_partings (T : Tx K mg) : FnOk P w K mg base CX0 1 T.a__law_partings T.fd__law_partings ["amount", "least"] sp_partings := by
  refine T.F__law_partings.ok sc__law_partings (fun vs H Q E h => ?_) (fun cdv A outer s H vs Q E hr h => ?_)
  · obtain ⟨n, s, rfl, _⟩ := h
    rfl
  · obtain ⟨n, s, rfl, n6, kk⟩ := h
    have hu := hu_of hr
    have hu64 := hr.units
    refine ⟨_, (pss_cons (ps_set (i := 2) sc__law_partings.nd rfl (Or.inl rfl) (pe_lst (pa_cons (pe_lst pa_nil) pa_nil)))
        (pss_cons (ps_for PassesOwn.never rfl (pi_range1 (by rfl) T.n_range (pa_cons (pv 0) pa_nil)) (pg_name (i := 3) sc__law_partings.nd rfl (Or.inl rfl)) (pss_cons (ps_set (i := 4) sc__law_partings.nd rfl (Or.inl rfl) (pe_lst pa_nil))
        (pss_cons (ps_for PassesOwn.never rfl (u_list (K := K) rfl (pv 2)) (pg_name (i := 5) sc__law_partings.nd rfl (Or.inl rfl)) (pss_cons (ps_expr (pe_bm PySem.F.plainAttrs_list PySem.F.slot_list_append PySem.F.type_list_append mt_append (pv 4) (pa_cons (pe_op (op_uAdd (K := K) rfl) (pv 5) (pe_lst (pa_cons (pe_lst (pa_cons (pv 3) pa_nil)) pa_nil))) pa_nil)))
        (pss_one (ps_for PassesOwn.never rfl (pi_range1 (by rfl) T.n_range (pa_cons (pe_callB (call_uLen (K := K) rfl) (by rfl) T.n_len (by decide +kernel) (pa_cons (pv 5) pa_nil)) pa_nil)) (pg_name (i := 6) sc__law_partings.nd rfl (Or.inl rfl)) (pss_one (ps_expr (pe_bm PySem.F.plainAttrs_list PySem.F.slot_list_append PySem.F.type_list_append mt_append (pv 4) (pa_cons (pe_op (op_uAdd (K := K) rfl) (pe_op (op_uAdd (K := K) rfl) (pe_slice (sl_u (K := K) rfl) (pv 5) po_none (po_some (pv 6))) (pe_lst (pa_cons (pe_op (op_uAdd (K := K) rfl) (pe_ix (ix_u (K := K) rfl) (pv 5) (pv 6) (fun _ _ => rfl)) (pe_lst (pa_cons (pv 3) pa_nil))) pa_nil))) (pe_slice (sl_u (K := K) rfl) (pv 5) (po_some (pe_op (op_uAdd (K := K) rfl) (pv 6) (pe_int))) po_none)) pa_nil))))))))
        (pss_one (ps_set (i := 2) sc__law_partings.nd rfl (Or.inl rfl) (pv 4))))))
        (pss_one (ps_ret (pe_lc rfl sc__law_partings.nd (u_list (K := K) rfl (pv 2)) (blkOk_by (own := [("crowds", 5)]) (N := ["amount", "least", "found", "place", "later", "crowds", "at", "crowd"]) (sc := defScope s__law_partings) (by decide +kernel)) (fun _ _ _ _ _ => (pg_name (i := 5) sc__law_partings.nd rfl (Or.inl rfl))) (fun _ _ _ _ _ => (pts_one (pt_val (pe_callB (call_uAll (K := K) rfl rfl) (by rfl) T.n_all (by decide +kernel) (pa_cons (pe_lc rfl sc__law_partings.nd (u_list (K := K) rfl (pv 5)) (blkOk_by (own := [("crowd", 7)]) (by kernel_rfl)) (fun _ _ _ _ _ => (pg_name (i := 7) sc__law_partings.nd rfl (Or.inl rfl))) (fun _ _ _ _ _ => pts_nil) (fun _ _ _ _ _ => (pe_cmpR op_uGe (pe_callB (call_uLen (K := K) rfl) (by rfl) T.n_len (by decide +kernel) (pa_cons (pv 7) pa_nil)) (pv 1) (nomark _)))) pa_nil))))) (fun _ _ _ _ _ => (pv 5))))))), ?_⟩
    walk_at "st"
    walk_at "go"
    refine ⟨by decide, fun e0 ne0 => ?_⟩
    have se := U.same_new (o := .lst []) ne0
    walk_at "go"
    refine ⟨by show 1 ≤ sizeLine; decide, fun f0 nf0 => ?_⟩
    have sf := U.same_new (o := .lst [.ref e0]) nf0
    walk_at "go"
    refine e_rng (by omega) (by omega) ?_
    refine forI_by walk_range (fun i σ' H' => ∃ (f : Addr) (vs : List V) (v3 v4 v5 v6 v7 : Option V), σ' = [some (.int (n : Int)), some (.int (s : Int)), some (.ref f), v3, v4, v5, v6, v7] ∧ H' f = some (.lst vs) ∧ Paired (CAt H') vs (parts i) ∧ Same H H') ⟨f0, [.ref e0], _, _, _, _, _, rfl, upd_same, .cons ⟨e0, [], rfl, sf _ _ upd_same, .nil⟩ .nil, se.trans sf⟩ (fun _ _ _ _ _ => trivial) ?os ?od
    case od =>
      rintro σ' H' ⟨f, vs, v3, v4, v5, v6, v7, rfl, hf, hP, s'⟩
      rw [show (n : Int).toNat = n by omega] at hP
      have pn := parts_len n n6
      have lvs := prd_len hP
      walk_at "go"
      refine e_list (SqL.of hf) ?_
      refine lcI_same walk_list (by omega) (fun i => ((vs.zip (parts n))[i]?).bind fun q => if (q.2.all fun g => decide (s ≤ g.length)) = true then some q.1 else none) (fun H2 s2 => SqL.of (s2 _ _ hf)) (fun i H' x H'' y => by rw [y.1]; exact Same.refl _) (fun i y H1 H2 A B hi s2 hy kA kB => ?t1) fun L H2 nL s2 hL => ?c1
      case t1 =>
        obtain ⟨rfl, ey⟩ := hy
        obtain ⟨cr, ecr, c, gs, rfl, hc, hgs⟩ := prd_at hP ey
        have cr6 := pn.2 cr (List.mem_of_getElem? ecr)
        have lgs := prd_len hgs
        have ez : (vs.zip (parts n))[i]? = some (V.ref c, cr) := by rw [List.getElem?_zip_eq_some]; exact ⟨ey, ecr⟩
        rw [ez] at kA kB
        have hc2 := s2 _ _ hc
        walk_at "go"
        refine ⟨rfl, ?_⟩
        walk_at "go"
        refine e_list (SqL.of hc2) ?_
        refine lcI_same walk_list (by omega) (fun k => (cr[k]?).bind fun g => some (V.bl (decide (s ≤ g.length)))) (fun H3 s3 => SqL.of (s3 _ _ hc2)) (fun i H' x H'' y => by rw [y.1]; exact Same.refl _) (fun k y H3 H4 A B hk s3 hy kA' kB' => ?t2) fun L3 H3 nL3 s3 hL3 => ?c2
        case t2 =>
          obtain ⟨rfl, ey'⟩ := hy
          obtain ⟨g, eg, gk, rfl, hgk⟩ := prd_at hgs ey'
          rw [eg] at kA'
          have hg2 := s3 _ _ (s2 _ _ hgk)
          walk_at "go"
          refine ⟨rfl, ?_⟩
          walk_at "go"
          refine U.g_lenL (Or.inl (SqL.of hg2)) ?_
          walk_at "go"
          refine kA' _ _ ?_ (Same.refl _)
          show some (V.bl (decide (s ≤ g.length))) = _
          unfold gV
          rw [List.length_map]
          congr 2
          rw [Bool.eq_iff_iff, decide_eq_true_eq, decide_eq_true_eq]
          omega
        rw [lgs, U.range_fm, LM.fm_some, show (cr.map fun g => V.bl (decide (s ≤ g.length))) = (cr.map fun g => decide (s ≤ g.length)).map V.bl by rw [List.map_map]; rfl] at hL3
        walk_at "go"
        refine U.g_allB (SqL.of hL3) ?_
        rw [show (cr.map fun g => decide (s ≤ g.length)).all id = cr.all fun g => decide (s ≤ g.length) by rw [List.all_map]; rfl]
        refine ⟨_, rfl, ?_⟩
        refine U.g_2 (fun cc => ?_) (fun cc => ?_)
        · walk_at "go"
          exact kA _ _ (by show (if _ then _ else _) = _; rw [if_pos cc]) s3
        · exact kB (by show (if _ then _ else _) = _; rw [if_neg (by rw [cc]; decide)]) _ s3
      rw [show vs.length = (vs.zip (parts n)).length by rw [List.length_zip]; omega, U.range_fm] at hL
      walk_at "go"
      exact kk L _ H2 (s'.trans s2) hL (prd_filter (fun cr : List (List Nat) => cr.all fun g => decide (s ≤ g.length)) (prd_mono (fun _ _ => CAt.mono s2) hP))
    case os =>
      rintro i y σ' _ H1 hi ⟨f, vs, v3, v4, v5, v6, v7, rfl, hf, hP, s'⟩ ⟨rfl, rfl⟩
      have hi : i < n := by omega
      walk_at "go"
      refine ⟨by decide, fun l nl => ?_⟩
      have sl := U.same_new (o := .lst []) nl
      have hf2 := sl _ _ hf
      have fl : f ≠ l := ne_of_none hf nl
      have hPl : Paired (CAv l (upd H1 l (.lst []))) vs (parts i) := cas_mono (SB.of sl) (prd_mono (fun _ _ => CAt.av nl) hP)
      have pl6 := parts_len i (by omega)
      have lvs := prd_len hP
      walk_at "go"
      refine e_list (SqL.of hf2) ?_
      refine forI_by walk_list (fun j σ' H' => ∃ (ws : List V) (v5 v6 v7 : Option V), σ' = [some (.int (n : Int)), some (.int (s : Int)), some (.ref f), some (.int (0 + (i : Int))), some (.ref l), v5, v6, v7] ∧ H' l = some (.lst ws) ∧ Paired (CAv l H') ws (((parts i).take j).flatMap (stepP i)) ∧ SB l (upd H1 l (.lst [])) H') ⟨[], _, _, _, rfl, upd_same, .nil, SB.refl _ _⟩ (fun j σ' H' _ ⟨_, _, _, _, _, _, _, s2⟩ => SqL.of (s2 _ _ hf2 fl)) ?ps ?pd
      case pd =>
        rintro σ' H2 ⟨ws, v5, v6, v7, rfl, hw, hW, s2⟩
        rw [lvs, List.take_of_length_le (Nat.le_refl _), ← parts_step] at hW
        walk_at "go"
        exact ⟨l, ws, _, _, _, _, _, rfl, hw, prd_mono (fun _ _ => CAv.at) hW, fun b o e => s2 b o (sl _ _ (s' _ _ e)) (ne_of_none (s' _ _ e) nl)⟩
      case ps =>
        rintro j x σ' _ H2 hj ⟨ws, v5, v6, v7, rfl, hw, hW, s2⟩ ⟨rfl, ex⟩
        obtain ⟨cr, ecr, hc⟩ := prd_at (cas_mono s2 hPl) ex
        obtain ⟨c, gs, rfl, cl, hcl, hgs⟩ := hc
        have cr6 := pl6.2 cr (List.mem_of_getElem? ecr)
        have lgs := prd_len hgs
        have tfl := take_flat_len (n := i) (by omega) j
        have lws := prd_len hW
        walk_at "go"
        have hcB : H2 l = some (.lst ws) := hw
        rw [Int.zero_add]
        refine ⟨by show 1 ≤ sizeLine; decide, fun g1 ng1 => ?_⟩
        generalize qA1 : upd H2 g1 (.lst [V.int (i : Int)]) = A1
        have sA1 : Same H2 A1 := qA1 ▸ U.same_new ng1
        have eA1 : A1 g1 = some (.lst [V.int (i : Int)]) := qA1 ▸ upd_same
        clear qA1
        walk_at "go"
        refine ⟨by show 1 ≤ sizeLine; decide, fun o1 no1 => ?_⟩
        generalize qA2 : upd A1 o1 (.lst [V.ref g1]) = A2
        have sA2 : Same A1 A2 := qA2 ▸ U.same_new no1
        have eA2 : A2 o1 = some (.lst [V.ref g1]) := qA2 ▸ upd_same
        clear qA2
        walk_at "go"
        refine Or.inl ⟨c, o1, gs, [.ref g1], rfl, rfl, (sA1.trans sA2) _ _ hcl, eA2, by show gs.length + 1 ≤ sizeLine; have : (1000 : Nat) ≤ sizeLine := (by decide); omega, fun k1 nk1 => ?_⟩
        generalize qA3 : upd A2 k1 (.lst (gs ++ [.ref g1])) = A3
        have sA3 : Same A2 A3 := qA3 ▸ U.same_new nk1
        have eA3 : A3 k1 = some (.lst (gs ++ [.ref g1])) := qA3 ▸ upd_same
        clear qA3
        have sA := sA1.trans (sA2.trans sA3)
        have g1l : g1 ≠ l := (ne_of_none hw ng1).symm
        have k1l : k1 ≠ l := (ne_of_none ((sA1.trans sA2) _ _ hw) nk1).symm
        have hwA := sA _ _ hw
        have cA : CAv l A3 (.ref k1) (cr ++ [[i]]) := ⟨k1, _, rfl, k1l, eA3, prd_snoc (prd_mono (fun _ _ => GAv.mono (SB.of sA)) hgs) ⟨g1, rfl, g1l, (sA2.trans sA3) _ _ eA1⟩⟩
        walk_at "go"
        refine U.g_appL hwA (by omega) ?_
        walk_at "go"
        have putA : SB l A3 (upd A3 l (.lst (ws ++ [.ref k1]))) := fun b o e nb => by rw [upd_ne nb]; exact e
        have sB2 : SB l H2 (upd A3 l (.lst (ws ++ [.ref k1]))) := (SB.of sA).trans putA
        generalize qB : upd A3 l (.lst (ws ++ [.ref k1])) = HB at putA sB2 ⊢
        have hwB : HB l = some (.lst (ws ++ [.ref k1])) := qB ▸ upd_same
        clear qB
        have hcB := sB2 _ _ hcl cl
        refine U.g_lenL (Or.inl (SqL.of hcB)) ?_
        walk_at "go"
        refine e_rng (by omega) (by omega) ?_
        refine forI_by walk_range (fun k σ' H' => ∃ (ws' : List V) (v6 v7 : Option V), σ' = [some (.int (n : Int)), some (.int (s : Int)), some (.ref f), some (.int (i : Int)), some (.ref l), some (.ref c), v6, v7] ∧ H' l = some (.lst ws') ∧ Paired (CAv l H') ws' (((parts i).take j).flatMap (stepP i) ++ ((cr ++ [[i]]) :: (List.range k).map fun k => cr.take k ++ [(cr[k]?).getD [] ++ [i]] ++ cr.drop (k + 1))) ∧ SB l HB H') ⟨_, _, _, rfl, hwB, prd_snoc (cas_mono sB2 hW) (CAv.mono putA cA), SB.refl _ _⟩ (fun _ _ _ _ _ => trivial) ?is ?id
        case id =>
          rintro σ' H3 ⟨ws', v6, v7, rfl, hw3, hW3, s3⟩
          rw [show ((gs.length : Nat) : Int).toNat = gs.length by omega, lgs] at hW3
          walk_at "go"
          refine ⟨ws', _, _, _, rfl, hw3, ?_, s2.trans (sB2.trans s3)⟩
          rw [List.take_succ, ecr, List.flatMap_append]
          show Paired _ ws' (_ ++ (stepP i cr ++ []))
          rw [List.append_nil]
          exact hW3
        case is =>
          rintro k y σ' _ H3 hk ⟨ws', v6, v7, rfl, hw3, hW3, s3⟩ ⟨rfl, rfl⟩
          have hk : k < gs.length := by omega
          have hc3 := s3 _ _ hcB cl
          have lw3 := prd_len hW3
          rw [List.length_append, List.length_cons, List.length_map, List.length_range] at lw3
          obtain ⟨w, ew⟩ : ∃ w, gs[k]? = some w := ⟨_, List.getElem?_eq_getElem hk⟩
          have hgs3 : Paired (GAv l H3) gs cr := prd_mono (fun _ _ => GAv.mono (sB2.trans s3)) hgs
          obtain ⟨g, eg, gk, rfl, gkl, hgk⟩ := prd_at hgs3 ew
          have g6 := cr6.2 g (List.mem_of_getElem? eg)
          dsimp only
          rw [Int.zero_add]
          walk_at "go"
          refine U.g_slL (SqL.of hc3) fun p1 np1 => ?_
          rw [cut_take]
          generalize qB1 : upd H3 p1 (.lst (gs.take k)) = B1
          have sB1 : Same H3 B1 := qB1 ▸ U.same_new np1
          have eB1 : B1 p1 = some (.lst (gs.take k)) := qB1 ▸ upd_same
          clear qB1
          walk_at "go"
          refine U.g_ix (v := .ref gk) (Or.inl (SqL.of (sB1 _ _ hc3))) (U.at_nat rfl ew) ?_
          walk_at "go"
          refine ⟨by show 1 ≤ sizeLine; decide, fun p2 np2 => ?_⟩
          generalize qB2 : upd B1 p2 (.lst [V.int (i : Int)]) = B2
          have sB2 : Same B1 B2 := qB2 ▸ U.same_new np2
          have eB2 : B2 p2 = some (.lst [V.int (i : Int)]) := qB2 ▸ upd_same
          clear qB2
          refine Or.inl ⟨gk, p2, gV g, [V.int (i : Int)], rfl, rfl, (sB1.trans sB2) _ _ hgk, eB2, by unfold gV; rw [List.length_map]; show g.length + 1 ≤ sizeLine; have : (1000 : Nat) ≤ sizeLine := (by decide); omega, fun p3 np3 => ?_⟩
          generalize qB3 : upd B2 p3 (.lst (gV g ++ [V.int (i : Int)])) = B3
          have sB3 : Same B2 B3 := qB3 ▸ U.same_new np3
          have eB3 : B3 p3 = some (.lst (gV g ++ [V.int (i : Int)])) := qB3 ▸ upd_same
          clear qB3
          walk_at "go"
          refine ⟨by show 1 ≤ sizeLine; decide, fun p4 np4 => ?_⟩
          generalize qB4 : upd B3 p4 (.lst [V.ref p3]) = B4
          have sB4 : Same B3 B4 := qB4 ▸ U.same_new np4
          have eB4 : B4 p4 = some (.lst [V.ref p3]) := qB4 ▸ upd_same
          clear qB4
          refine Or.inl ⟨p1, p4, gs.take k, [V.ref p3], rfl, rfl, (sB2.trans (sB3.trans sB4)) _ _ eB1, eB4, by rw [List.length_take]; show min k gs.length + 1 ≤ sizeLine; have : (1000 : Nat) ≤ sizeLine := (by decide); omega, fun p5 np5 => ?_⟩
          generalize qB5 : upd B4 p5 (.lst (gs.take k ++ [V.ref p3])) = B5
          have sB5 : Same B4 B5 := qB5 ▸ U.same_new np5
          have eB5 : B5 p5 = some (.lst (gs.take k ++ [V.ref p3])) := qB5 ▸ upd_same
          clear qB5
          walk_at "go"
          have s35 : Same H3 B5 := sB1.trans (sB2.trans (sB3.trans (sB4.trans sB5)))
          rw [show ((k : Int) + 1) = ((k + 1 : Nat) : Int) by omega]
          refine U.g_slL (SqL.of (s35 _ _ hc3)) fun p6 np6 => ?_
          rw [cut_from (by omega)]
          generalize qB6 : upd B5 p6 (.lst (gs.drop (k + 1))) = B6
          have sB6 : Same B5 B6 := qB6 ▸ U.same_new np6
          have eB6 : B6 p6 = some (.lst (gs.drop (k + 1))) := qB6 ▸ upd_same
          clear qB6
          refine Or.inl ⟨p5, p6, gs.take k ++ [V.ref p3], gs.drop (k + 1), rfl, rfl, sB6 _ _ eB5, eB6, by rw [List.length_append, List.length_take, List.length_drop]; show min k gs.length + 1 + _ ≤ sizeLine; have : (1000 : Nat) ≤ sizeLine := (by decide); omega, fun p7 np7 => ?_⟩
          generalize qB7 : upd B6 p7 (.lst (gs.take k ++ [V.ref p3] ++ gs.drop (k + 1))) = B7
          have sB7 : Same B6 B7 := qB7 ▸ U.same_new np7
          have eB7 : B7 p7 = some (.lst (gs.take k ++ [V.ref p3] ++ gs.drop (k + 1))) := qB7 ▸ upd_same
          clear qB7
          have s37 : Same H3 B7 := s35.trans (sB6.trans sB7)
          have p3l : p3 ≠ l := (ne_of_none ((sB1.trans sB2) _ _ hw3) np3).symm
          have p7l : p7 ≠ l := (ne_of_none ((s35.trans sB6) _ _ hw3) np7).symm
          have hgs7 : Paired (GAv l B7) gs cr := prd_mono (fun _ _ => GAv.mono (SB.of s37)) hgs3
          have c7 : CAv l B7 (.ref p7) (cr.take k ++ [(cr[k]?).getD [] ++ [i]] ++ cr.drop (k + 1)) := ⟨p7, _, rfl, p7l, eB7, prd_app (prd_app (prd_take k hgs7) (.cons ⟨p3, rfl, p3l, by rw [(sB4.trans (sB5.trans (sB6.trans sB7))) _ _ eB3, eg]; unfold gV; rw [Option.getD_some, List.map_append]; rfl⟩ .nil)) (prd_drop (k + 1) hgs7)⟩
          walk_at "go"
          refine U.g_appL (s37 _ _ hw3) (by omega) ?_
          have put7 : SB l B7 (upd B7 l (.lst (ws' ++ [.ref p7]))) := fun b o e nb => by rw [upd_ne nb]; exact e
          refine ⟨_, _, _, rfl, upd_same, ?_, s3.trans ((SB.of s37).trans put7)⟩
          rw [List.range_succ, List.map_append, ← List.cons_append, ← List.append_assoc]
          exact prd_snoc (cas_mono ((SB.of s37).trans put7) hW3) (CAv.mono put7 c7)
end
end Toy

namespace LM
open PySem L2 U M
theorem rowok_ex (ns : List Int) : ∃ row pl, RowOk ns row pl := by
  let L := (idx ns).mergeSort fun a b => decide (a.1 ≤ b.1)
  have hp : L.Perm (idx ns) := List.mergeSort_perm _ _
  have hs : L.Pairwise (fun a b => a.1 ≤ b.1) := by
    have := List.pairwise_mergeSort (le := fun a b : Int × Int => decide (a.1 ≤ b.1)) (fun a b c h1 h2 => by simp at *; omega) (fun a b => by simp; omega) (idx ns)
    exact this.imp fun h => by simpa using h
  have l := hp.length_eq
  rw [idx_len] at l
  refine ⟨L.map (·.1), L.map (·.2), List.pairwise_map.mpr hs, by rw [List.length_map]; exact l, by rw [List.length_map]; exact l, ?_⟩
  rw [zip_maps]
  have : L.map (fun x => (x.1, x.2)) = L := by
    have e : (fun x : Int × Int => (x.1, x.2)) = id := rfl
    rw [e, List.map_id]
  rw [this]
  exact hp
theorem parts_min_row {ns row : List Int} (R : Row ns row) {s : Nat} (hs : 1 ≤ s) : lmin (((parts ns.length).filter fun cr => cr.all fun g => decide (s ≤ g.length)).map fun cr => (cr.map fun g => cst (g.map (rowF ns))).sum) = F (cs (rowF row)) s row.length := by
  obtain ⟨row', pl, ok⟩ := rowok_ex ns
  rw [parts_min ok hs, ok.row.uniq R]
theorem prd_memR {α β : Type} {R S : α → β → Prop} : ∀ {xs : List α} {ys : List β}, (∀ x y, y ∈ ys → R x y → S x y) → Paired R xs ys → Paired S xs ys
  | _, _, _, .nil => .nil
  | _, _, h, .cons a r => .cons (h _ _ List.mem_cons_self a) (prd_memR (fun x y hy q => h x y (List.mem_cons_of_mem _ hy) q) r)
end LM
namespace Toy
open PySem L2 U M LM
section
variable {P : Program} {w : World} {K : PySem.W.Frag} {mg : Str → Option Value} {base : Heap}
theorem sc__law_all_least : FnScope ["values", "least", "some", "crowds", "crowd", "at"] ["values", "least"] (defScope s__law_all_least) := ⟨rfl, rfl, rfl, by decide +kernel, rfl, by decide +kernel, by decide +kernel⟩
def sp_alll : Sp := fun vs H Q _ => ∃ (b : Addr) (ns row : List Int) (s : Nat), vs = [.ref b, .int s] ∧ H b = some (.tup (ns.map V.int)) ∧ ns.length ≤ 6 ∧ Row ns row ∧ 1 ≤ s ∧ ∀ H', Same H H' → Q (oV (F (cs (rowF row)) s row.length)) H'
theorem ok__law_all_least (T : Tx K mg) : FnOk P w K mg base CX0 2 T.a__law_all_least T.fd__law_all_least ["values", "least"] sp_alll := by
  refine T.F__law_all_least.ok sc__law_all_least (fun vs H Q E h => ?_) (fun cdv A outer s H vs Q E hr h => ?_)
  · obtain ⟨b, ns, row, s, rfl, _⟩ := h
    rfl
  · obtain ⟨b, ns, row, s, rfl, hb, n6, R, s1, kk⟩ := h
    have hu := hu_of hr
    have hu64 := hr.units
    refine ⟨_, (pss_cons (ps_set (i := 2) sc__law_all_least.nd rfl (Or.inl rfl) (pe_lst pa_nil))
        (pss_cons (ps_for PassesOwn.never rfl (u_list (K := K) rfl (pe_call (ok__law_partings T) (hr.mono (by decide)) rfl T.m__law_partings T.F__law_partings.kp (b__law_partings T) .nil pass0 (pa_cons (pe_callB (call_uLen (K := K) rfl) (by rfl) T.n_len (by decide +kernel) (pa_cons (pv 0) pa_nil)) (pa_cons (pv 1) pa_nil)))) (pg_name (i := 3) sc__law_all_least.nd rfl (Or.inl rfl)) (pss_one (ps_expr (pe_bm PySem.F.plainAttrs_list PySem.F.slot_list_append PySem.F.type_list_append mt_append (pv 2) (pa_cons (pe_callB (call_uSum (K := K) rfl rfl) (by rfl) T.n_sum (by decide +kernel) (pa_cons (pe_lc rfl sc__law_all_least.nd (u_list (K := K) rfl (pv 3)) (blkOk_by (own := [("crowd", 4)]) (N := ["values", "least", "some", "crowds", "crowd", "at"]) (sc := defScope s__law_all_least) (by decide +kernel)) (fun _ _ _ _ _ => (pg_name (i := 4) sc__law_all_least.nd rfl (Or.inl rfl))) (fun _ _ _ _ _ => pts_nil) (fun _ _ _ _ _ => (pe_call (ok__law_crowd_cost T) (hr.mono (by decide)) rfl T.m__law_crowd_cost T.F__law_crowd_cost.kp (b__law_crowd_cost T) .nil pass0 (pa_cons (pe_lc rfl sc__law_all_least.nd (u_list (K := K) rfl (pv 4)) (blkOk_by (own := [("at", 5)]) (by kernel_rfl)) (fun _ _ _ _ _ => (pg_name (i := 5) sc__law_all_least.nd rfl (Or.inl rfl))) (fun _ _ _ _ _ => pts_nil) (fun _ _ _ _ _ => (pe_ix (ix_u (K := K) rfl) (pv 0) (pv 5) (fun _ _ => rfl)))) pa_nil)))) pa_nil)) pa_nil)))))
        (pss_one (ps_ret (pe_ifExp (pt_cmpR (op_uNe (K := K) rfl hu64) (pv 2) (pe_lst pa_nil) (nomark _)) (pe_callTy call_uInt (by rfl) T.n_int (by decide +kernel) (pa_cons (pe_callB (U.call_uMinL (K := K) rfl rfl) (by rfl) T.n_min (by decide +kernel) (pa_cons (pv 2) pa_nil)) pa_nil)) (pe_non)))))), ?_⟩
    walk_at "st"
    walk_at "go"
    refine ⟨by decide, fun l nl => ?_⟩
    have sl := U.same_new (o := .lst []) nl
    have hb1 := sl _ _ hb
    walk_at "go"
    refine U.g_lenL (Or.inr (SqT.of hb1)) ?_
    walk_at "go"
    rw [List.length_map]
    refine ⟨ns.length, s, rfl, n6, fun f vs H1 sa hf hP => ?_⟩
    generalize hC : ((parts ns.length).filter fun cr => cr.all fun g => decide (s ≤ g.length)) = crs at hP
    have pn := parts_len ns.length n6
    have hmem : ∀ cr ∈ crs, cr ∈ parts ns.length ∧ ∀ g ∈ cr, s ≤ g.length := fun cr h => by
      rw [← hC, List.mem_filter] at h
      exact ⟨h.1, fun g hg => of_decide_eq_true (List.all_eq_true.mp h.2 g hg)⟩
    have hcl : crs.length ≤ 203 := by rw [← hC]; exact Nat.le_trans (List.length_filter_le _ _) pn.1
    have lvs := prd_len hP
    have hl1 : H1 l = some (.lst []) := sa _ _ upd_same
    have nlist : ∀ {a : Addr} {xs : List V}, H1 a = some (.lst xs) → xs ≠ [] → a ≠ l := fun e ne q => by
      rw [q, hl1] at e
      injection e with e
      injection e with e
      exact ne e.symm
    let tot : List (List Nat) → Int := fun cr => (cr.map fun g => cst (g.map (rowF ns))).sum
    refine e_list (SqL.of hf) ?_
    refine forI_by walk_list (fun j σ' H' => ∃ (v3 v4 v5 : Option V), σ' = [some (.ref b), some (.int (s : Int)), some (.ref l), v3, v4, v5] ∧ H' l = some (.lst (((crs.take j).map tot).map V.int)) ∧ SB l H1 H') ⟨_, _, _, rfl, hl1, SB.refl _ _⟩ (fun j σ' H' _ ⟨_, _, _, _, hl2, s2⟩ => SqL.of (show H' f = some (.lst vs) by
      by_cases q : vs = []
      · by_cases fl : f = l
        · have : crs = [] := List.length_eq_zero_iff.mp (by rw [← lvs, q]; rfl)
          rw [this, List.take_nil] at hl2
          rw [fl, hl2, q]; rfl
        · exact s2 _ _ hf fl
      · exact s2 _ _ hf (nlist hf q))) ?ps ?pd
    case ps =>
      rintro j x σ' _ H2 hj ⟨v3, v4, v5, rfl, hl2, s2⟩ ⟨rfl, ex⟩
      obtain ⟨cr, ecr, c, gs, rfl, hc, hgs⟩ := prd_at hP ex
      obtain ⟨cp, cg⟩ := hmem cr (List.mem_of_getElem? ecr)
      have cr6 := pn.2 cr cp
      have lgs := prd_len hgs
      have flat := parts_flat _ cr cp
      have hc2 : H2 c = some (.lst gs) := by
        by_cases q : gs = []
        · by_cases cl : c = l
          · have hcr : cr = [] := List.length_eq_zero_iff.mp (by rw [← lgs, q]; rfl)
            have n0 : ns.length = 0 := by
              have := flat.length_eq
              rw [hcr, List.length_range] at this
              exact this.symm
            have c1 : crs.length ≤ 1 := by rw [← hC]; refine Nat.le_trans (List.length_filter_le _ _) ?_; rw [n0]; exact Nat.le_refl _
            have j0 : j = 0 := by omega
            rw [j0, List.take_zero] at hl2
            rw [cl, hl2, q]; rfl
          · exact s2 _ _ hc cl
        · exact s2 _ _ hc (nlist hc q)
      have hgs2 : Paired (fun v g => ∃ a, v = .ref a ∧ H2 a = some (.lst (gV g)) ∧ g ∈ cr) gs cr := by
        refine prd_memR (fun v g hg h => ?_) hgs
        obtain ⟨a, e, h⟩ := h
        refine ⟨a, e, s2 _ _ h (nlist h fun z => ?_), hg⟩
        have := cg g hg
        have lz : (gV g).length = 0 := by rw [z]; rfl
        unfold gV at lz
        rw [List.length_map] at lz
        omega
      walk_at "go"
      refine e_list (SqL.of hc2) ?_
      have b2 : H2 b = some (.tup (ns.map V.int)) := s2 _ _ (sa _ _ hb1) (ne_of_none hb nl)
      refine lcI_same walk_list (by omega) (fun k => (cr[k]?).bind fun g => some (V.int (cst (g.map (rowF ns))))) (fun H' s => SqL.of (s _ _ hc2)) (fun i H' x H'' y => by rw [y.1]; exact Same.refl _) (fun k y H' H3 A B hk s3 hy kA kB => ?t1) fun E1 H3 nE1 s3 hE1 => ?c1
      case t1 =>
        obtain ⟨rfl, ey⟩ := hy
        obtain ⟨g, eg, gk, rfl, hgk, gm⟩ := prd_at hgs2 ey
        rw [eg] at kA
        have g6 := cr6.2 g gm
        have gs1 := cg g gm
        have hg3 := s3 _ _ hgk
        walk_at "go"
        refine ⟨rfl, ?_⟩
        walk_at "go"
        refine e_list (SqL.of hg3) ?_
        have lg : (gV g).length = g.length := by unfold gV; rw [List.length_map]
        refine lcI_same walk_list (by omega) (fun m => (g[m]?).bind fun i => some (V.int (rowF ns i))) (fun H' s => SqL.of (s _ _ hg3)) (fun i H' x H'' y => by rw [y.1]; exact Same.refl _) (fun m y H' H4 A B hm s4 hy kA' kB' => ?t2) fun E2 H4 nE2 s4 hE2 => ?c2
        case t2 =>
          obtain ⟨rfl, ey'⟩ := hy
          unfold gV at ey'
          rw [List.getElem?_map] at ey'
          cases ei : g[m]? with
          | none => rw [ei] at ey'; cases ey'
          | some i =>
            rw [ei] at ey' kA'
            cases ey'
            have il : i < ns.length := List.mem_range.mp (flat.mem_iff.mp (List.mem_flatten.mpr ⟨g, gm, List.mem_of_getElem? ei⟩))
            walk_at "go"
            refine ⟨rfl, ?_⟩
            walk_at "go"
            refine U.g_ix (Or.inr (SqT.of (s4 _ _ (s3 _ _ b2)))) (U.at_nat rfl (show (ns.map V.int)[i]? = some (V.int (rowF ns i)) by rw [List.getElem?_map, rowF_at il]; rfl)) ?_
            exact kA' _ _ rfl (Same.refl _)
        rw [lg, U.range_fm, LM.fm_some, show (g.map fun i => V.int (rowF ns i)) = (g.map (rowF ns)).map V.int by rw [List.map_map]; rfl] at hE2
        refine ⟨E2, g.map (rowF ns), srt (g.map (rowF ns)), rfl, Or.inl (SqL.of hE2), by rw [List.length_map]; omega, by rw [List.length_map]; omega, row_srt _, fun H5 s5 => ?_⟩
        exact kA _ _ rfl (s4.trans s5)
      rw [lgs, U.range_fm, LM.fm_some, show (cr.map fun g => V.int (cst (g.map (rowF ns)))) = (cr.map fun g => cst (g.map (rowF ns))).map V.int by rw [List.map_map]; rfl] at hE1
      walk_at "go"
      refine U.g_sum (SqL.of hE1) ?_
      walk_at "go"
      refine U.g_appL (s3 _ _ hl2) (by rw [List.length_map, List.length_map, List.length_take]; omega) ?_
      refine ⟨_, _, _, rfl, ?_, s2.trans ((SB.of s3).trans fun b' o' e' nb => by rw [upd_ne nb]; exact e')⟩
      rw [upd_same, List.take_succ, ecr, List.map_append, List.map_append]
      rfl
    case pd =>
      rintro σ' H2 ⟨v3, v4, v5, rfl, hl2, s2⟩
      rw [lvs, List.take_of_length_le (Nat.le_refl _)] at hl2
      walk_at "go"
      refine ⟨by decide, fun e ne => ?_⟩
      have se := U.same_new (o := .lst []) ne
      have key : lmin (crs.map tot) = F (cs (rowF row)) s row.length := by rw [← hC]; exact parts_min_row R s1
      have sE : Same H (upd H2 e (.lst [])) := fun b' o' e' => se _ _ (s2 _ _ (sa _ _ (sl _ _ e')) (ne_of_none e' nl))
      refine g_neNil (SqL.of (se _ _ hl2)) (SqL.of upd_same) ⟨_, rfl, U.g_2 (fun h => ?_) (fun h => ?_)⟩
      · walk_at "go"
        refine U.g_minL (SqL.of (se _ _ hl2)) ?_ fun v m1 m2 => ?_
        · generalize crs.map tot = xs at h
          cases xs with
          | nil => cases h
          | cons x r => exact Nat.succ_pos _
        · walk_at "go"
          have k2 := kk _ sE
          rw [← key, lmin_in m1 m2] at k2
          exact k2
      · walk_at "go"
        have k2 := kk _ sE
        rw [← key] at k2
        generalize crs.map tot = xs at h k2
        cases xs with
        | nil => exact k2
        | cons x r => cases h
end
end Toy

namespace LM
open PySem L2 U M
/-- what a value of the near ones is, while the list l that holds them grows: no list that it rests on is l -/
def NdAv (l : Addr) (H : Hp) (v : V) : Prop := ∃ d : Nd, match d with
  | .non => v = .non
  | .bad => (∃ i : Int, v = .int i) ∨ (∃ a xs, v = .ref a ∧ a ≠ l ∧ H a = some (.lst xs)) ∨ ∃ a xs, v = .ref a ∧ a ≠ l ∧ H a = some (.tup xs) ∧ xs.length ≠ 3
  | .trip L nss sh => ∃ t ca sa cv, v = .ref t ∧ t ≠ l ∧ ca ≠ l ∧ sa ≠ l ∧ H t = some (.tup [.int L, .ref ca, .ref sa]) ∧ H ca = some (.tup cv) ∧ nss.length ≤ 1000 ∧ Paired (fun v c => CrAt H v c ∧ ∀ a, v = .ref a → a ≠ l) cv (nss.map fun ms => some (ms.map V.int)) ∧ (match sh with
    | some sv => H sa = some (.tup (sv.map V.int)) ∧ sv.length ≤ 1000
    | none => ∃ xs, H sa = some (.lst xs))
theorem crav_mono {l : Addr} {H H' : Hp} (s : SB l H H') {cv : List V} {cs : List (Option (List V))} (h : Paired (fun v c => CrAt H v c ∧ ∀ a, v = .ref a → a ≠ l) cv cs) : Paired (fun v c => CrAt H' v c ∧ ∀ a, v = .ref a → a ≠ l) cv cs := prd_mono (fun v c h => by
  refine ⟨?_, h.2⟩
  cases c with
  | none => exact h.1
  | some xs => obtain ⟨a, e, h1, h2⟩ := h.1; exact ⟨a, e, s _ _ h1 (h.2 a e), h2⟩) h
theorem NdAv.mono {l : Addr} {H H' : Hp} (s : SB l H H') {v : V} (h : NdAv l H v) : NdAv l H' v := by
  obtain ⟨d, h⟩ := h
  cases d with
  | non => exact ⟨.non, h⟩
  | bad =>
    refine ⟨.bad, ?_⟩
    rcases h with h | ⟨a, xs, e, n, h⟩ | ⟨a, xs, e, n, h, k⟩
    · exact .inl h
    · exact .inr (.inl ⟨a, xs, e, n, s _ _ h n⟩)
    · exact .inr (.inr ⟨a, xs, e, n, s _ _ h n, k⟩)
  | trip L nss sh =>
    obtain ⟨t, ca, sa, cv, e, n1, n2, n3, h1, h2, h3, h4, h5⟩ := h
    refine ⟨.trip L nss sh, t, ca, sa, cv, e, n1, n2, n3, s _ _ h1 n1, s _ _ h2 n2, h3, crav_mono s h4, ?_⟩
    cases sh with
    | some sv => exact ⟨s _ _ h5.1 n3, h5.2⟩
    | none => obtain ⟨xs, h5⟩ := h5; exact ⟨xs, s _ _ h5 n3⟩
theorem NdAv.at {l : Addr} {H : Hp} {v : V} (h : NdAv l H v) : ∃ d, NdAt H v d := by
  obtain ⟨d, h⟩ := h
  cases d with
  | non => exact ⟨.non, h⟩
  | bad =>
    refine ⟨.bad, ?_⟩
    rcases h with h | ⟨a, xs, e, n, h⟩ | ⟨a, xs, e, n, h, k⟩
    · exact .inl h
    · exact .inr (.inl ⟨a, xs, e, h⟩)
    · exact .inr (.inr ⟨a, xs, e, h, k⟩)
  | trip L nss sh =>
    obtain ⟨t, ca, sa, cv, e, n1, n2, n3, h1, h2, h3, h4, h5⟩ := h
    refine ⟨.trip L nss sh, t, ca, sa, e, h1, ⟨cv, h2, prd_mono (fun _ _ h => h.1) h4, h3⟩, ?_⟩
    cases sh with
    | some sv => exact h5
    | none => exact h5
def NdL (l : Addr) (H : Hp) (ws : List V) : Prop := ∀ w ∈ ws, NdAv l H w
theorem NdL.mono {l : Addr} {H H' : Hp} (s : SB l H H') {ws : List V} (h : NdL l H ws) : NdL l H' ws := fun w hw => (h w hw).mono s
theorem NdL.add {l : Addr} {H : Hp} {ws : List V} {w : V} (h : NdL l H ws) (hw : NdAv l H w) : NdL l H (w :: ws) := fun u hu => (List.mem_cons.mp hu).elim (fun e => e ▸ hw) (h u)
theorem sb_put {l : Addr} {H : Hp} {o : HO} : SB l H (upd H l o) := fun b x e nb => by rw [upd_ne nb]; exact e
end LM

namespace LM
open PySem L2 U M
/-- t[lo:hi] and t + u of tuples that stand as tuples: the result stands as one, it is new or one of them -/
theorem g_slTT {K : PySem.W.Frag} {H : Hp} {Q : VK} {a : Addr} {xs : List V} {lo hi : Option Int} (h : H a = some (.tup xs)) (q : ∀ (c : Addr) (H' : Hp), Same H H' → H' c = some (.tup (cutV xs lo hi)) → (c = a ∨ H c = none) → Q (.ref c) H') : uSlA K (.ref a) lo hi H Q := by
  refine Or.inr ⟨a, xs, rfl, SqT.of h, fun hw => ?_, fun _ p np => q p _ (U.same_new np) upd_same (Or.inr np)⟩
  have e : cutV xs lo hi = xs := by
    unfold cutV
    rw [hw.1, hw.2, List.drop_zero, Nat.sub_zero, List.take_of_length_le (Nat.le_refl _)]
  exact q a H (Same.refl _) (by rw [e]; exact h) (Or.inl rfl)
theorem g_addTT {K : PySem.W.Frag} {H : Hp} {Q : VK} {a b : Addr} {xs ys : List V} (h : H a = some (.tup xs)) (h2 : H b = some (.tup ys)) (hz : xs.length + ys.length ≤ sizeLine) (q : ∀ (c : Addr) (H' : Hp), Same H H' → H' c = some (.tup (xs ++ ys)) → (c = a ∨ c = b ∨ H c = none) → Q (.ref c) H') : uAddA K (.ref a) (.ref b) H Q := by
  refine Or.inr ⟨a, b, xs, ys, rfl, rfl, SqT.of h, SqT.of h2, hz, fun e => ?_, fun _ e => ?_, fun _ _ p np => q p _ (U.same_new np) upd_same (Or.inr (Or.inr np))⟩
  · exact q b H (Same.refl _) (by rw [e]; exact h2) (Or.inr (Or.inl rfl))
  · exact q a H (Same.refl _) (by rw [e, List.append_nil]; exact h) (Or.inl rfl)
theorem prd_reverse {α β : Type} {R : α → β → Prop} : ∀ {xs : List α} {ys : List β}, Paired R xs ys → Paired R xs.reverse ys.reverse
  | _, _, .nil => .nil
  | _, _, .cons a r => by
    rw [List.reverse_cons, List.reverse_cons]
    exact prd_app (prd_reverse r) (.cons a .nil)
end LM

namespace LM
open PySem L2 U M
theorem eqv_nilT (ds : List PyData) : PyData.eqv (.tuple ds) (.tuple []) = decide (ds.length = 0) := by
  cases ds <;> rfl
/-- a tuple of data != () -/
theorem g_neNilT {K : PySem.W.Frag} {H : Hp} {Q : VK} {l e : Addr} {vs : List V} {ds : List PyData} (hl : H l = some (.tup vs)) (hd : DpAll K H vs ds) (sh : SeqAt.shaped (.tuple ds) = true) (he : H e = some (.tup [])) (q : Q (.bl (!decide (ds.length = 0))) H) : uEq K true (.ref l) (.ref e) H Q :=
  Or.inr ⟨.tuple ds, .tuple [], Dp.tup (SqT.of hl) hd, Dp.tup (SqT.of he) .nil, sh, rfl, by rw [eqv_nilT, if_pos rfl]; exact q⟩
theorem crs_dp {K : PySem.W.Frag} {H : Hp} : ∀ {cv : List V} {nss : List (List Int)}, Paired (CrAt H) cv (nss.map fun ms => some (ms.map V.int)) → DpAll K H cv (nss.map fun ms => PyData.tuple (ms.map PyData.int))
  | _, [], .nil => .nil
  | _, ms :: r, .cons h t => by
    obtain ⟨a, rfl, ha, _⟩ := h
    exact .cons (Dp.tup (SqT.of ha) (ints_dp ms)) (crs_dp t)
theorem tint_lay (ms : List Int) : PyData.canLayAll0 (ms.map PyData.int) = true := lay_all fun d hd => by
  obtain ⟨p, hp, rfl⟩ := List.mem_map.mp hd
  rfl
theorem tint_depth (ms : List Int) : PyData.depthAll (ms.map PyData.int) ≤ 0 := depth_all fun d hd => by
  obtain ⟨p, hp, rfl⟩ := List.mem_map.mp hd
  exact Nat.le_refl _
theorem ints_shT (ns : List Int) : SeqAt.shaped (.tuple (ns.map PyData.int)) = true := by
  unfold SeqAt.shaped
  rw [Bool.and_eq_true]
  refine ⟨tint_lay ns, decide_eq_true ?_⟩
  have := tint_depth ns
  simp only [PyData.depth]
  omega
theorem crs_shaped (nss : List (List Int)) : SeqAt.shaped (.tuple (nss.map fun ms => PyData.tuple (ms.map PyData.int))) = true := by
  unfold SeqAt.shaped
  rw [Bool.and_eq_true]
  refine ⟨lay_all fun d hd => ?_, decide_eq_true ?_⟩
  · obtain ⟨ms, hm, rfl⟩ := List.mem_map.mp hd
    exact tint_lay ms
  · have : PyData.depthAll (nss.map fun ms => PyData.tuple (ms.map PyData.int)) ≤ 1 := depth_all fun d hd => by
      obtain ⟨ms, hm, rfl⟩ := List.mem_map.mp hd
      have := tint_depth ms
      simp only [PyData.depth]
      omega
    simp only [PyData.depth]
    omega
theorem prd_unc {α β : Type} {R : α → β → Prop} {xs : List α} {y : β} {ys : List β} (h : Paired R xs (y :: ys)) : ∃ x xs', xs = x :: xs' ∧ R x y ∧ Paired R xs' ys := by
  cases h with
  | cons a r => exact ⟨_, _, rfl, a, r⟩
theorem plain_ints (ms : List Int) : (ms.map V.int).all plainV = true := List.all_eq_true.mpr fun v hv => by
  obtain ⟨z, _, rfl⟩ := List.mem_map.mp hv
  rfl
theorem told_len {nss : List (List Int)} {n : Nat} (h : nss.flatten.Perm (rangeI n)) {ms : List Int} (hm : ms ∈ nss) : ms.length ≤ n := by
  have := (List.sublist_flatten_of_mem hm).length_le
  rw [h.length_eq] at this
  unfold rangeI at this
  rw [List.length_map, List.length_range] at this
  exact this
end LM
namespace Toy
open PySem L2 U M LM
section
variable {P : Program} {w : World} {K : PySem.W.Frag} {mg : Str → Option Value} {base : Heap}
theorem sc__law_near : FnScope ["pot", "values", "told", "found", "loss", "crowds", "shown", "amount", "row", "crowd", "at", "one"] ["pot", "values", "told"] (defScope s__law_near) := ⟨rfl, rfl, rfl, by decide +kernel, rfl, by decide +kernel, by decide +kernel⟩
/-- what least_line told -/
def ToldAt (H : Hp) (n : Nat) (v : V) : Prop := v = .non ∨ ∃ (t ca sa : Addr) (cv : List V) (nss : List (List Int)) (sv : List Int) (L : Int), v = .ref t ∧ H t = some (.tup [.int L, .ref ca, .ref sa]) ∧ H ca = some (.tup cv) ∧ Paired (CrAt H) cv (nss.map fun ms => some (ms.map V.int)) ∧ H sa = some (.tup (sv.map V.int)) ∧ sv.length = nss.length ∧ nss.length ≤ n ∧ (∀ z ∈ sv, -1000000 ≤ z ∧ z ≤ 1000000) ∧ ∀ ms ∈ nss, ms.length ≤ n
def sp_near : Sp := fun vs H Q _ => ∃ (p b : Addr) (ns : List Int) (v : V), vs = [.ref p, .ref b, v] ∧ H b = some (.tup (ns.map V.int)) ∧ ns.length ≤ 200 ∧ ToldAt H ns.length v ∧ ∀ (l : Addr) (ws : List V) (H' : Hp), Same H H' → H' l = some (.lst ws) → (∀ w ∈ ws, ∃ d, NdAt H' w d) → Q (.ref l) H'
theorem ok__law_near (T : Tx K mg) : FnOk P w K mg base CX0 2 T.a__law_near T.fd__law_near ["pot", "values", "told"] sp_near := by
  refine T.F__law_near.ok sc__law_near (fun vs H Q E h => ?_) (fun cdv A outer s H vs Q E hr h => ?_)
  · obtain ⟨p, b, ns, v, rfl, _⟩ := h
    rfl
  · obtain ⟨p, b, ns, v, rfl, hb, hl, ht, kk⟩ := h
    have hu := hu_of hr
    have hu64 := hr.units
    refine ⟨_, (pss_cons (ps_set (i := 3) sc__law_near.nd rfl (Or.inl rfl) (pe_lst (pa_cons (pv 2) (pa_cons (pe_non) (pa_cons (pe_tup pa_nil) (pa_cons (pe_int) (pa_cons (pe_tup (pa_cons (pe_int) (pa_cons (pe_tup pa_nil) (pa_cons (pe_tup pa_nil) pa_nil)))) pa_nil)))))))
        (pss_cons (ps_if (PW.pt (pw_or (pt_not (pt_val (pe_callB (call_uIsi (K := K) rfl) (by rfl) T.n_isinstance (by decide +kernel) (pa_cons (pv 2) (pa_cons (u_ty (n := "tuple") (by rfl) T.n_tuple (by decide +kernel)) pa_nil))))) (pw_or1 (pt_cmpR (op_uNe (K := K) rfl hu64) (pe_callB (call_uLen (K := K) rfl) (by rfl) T.n_len (by decide +kernel) (pa_cons (pv 2) pa_nil)) (pe_int) (nomark _))))) (pss_one (ps_ret (pv 3))) pss_nil)
        (pss_cons (ps_if (PW.pt (pw_or (pt_not (pt_val (pe_callB (call_uIsi (K := K) rfl) (by rfl) T.n_isinstance (by decide +kernel) (pa_cons (pe_ix (ix_u (K := K) rfl) (pv 2) (pe_int) (fun _ _ => rfl)) (pa_cons (u_ty (n := "tuple") (by rfl) T.n_tuple (by decide +kernel)) pa_nil))))) (pw_or1 (pt_not (pt_val (pe_callB (call_uIsi (K := K) rfl) (by rfl) T.n_isinstance (by decide +kernel) (pa_cons (pe_ix (ix_u (K := K) rfl) (pv 2) (pe_int) (fun _ _ => rfl)) (pa_cons (u_ty (n := "tuple") (by rfl) T.n_tuple (by decide +kernel)) pa_nil)))))))) (pss_one (ps_ret (pv 3))) pss_nil)
        (pss_cons (ps_asg (pv 2) (u_gtup (K := K) (n := 3) rfl rfl (pgs_cons (pg_name (i := 4) sc__law_near.nd rfl (Or.inl rfl)) (pgs_cons (pg_name (i := 5) sc__law_near.nd rfl (Or.inl rfl)) (pgs_cons (pg_name (i := 6) sc__law_near.nd rfl (Or.inl rfl)) pgs_nil)))))
        (pss_cons (ps_expr (pe_bm PySem.F.plainAttrs_list PySem.F.slot_list_extend PySem.F.type_list_extend mt_extend (pv 3) (pa_cons (pe_lst (pa_cons (pe_tup (pa_cons (pv 4) (pa_cons (pv 5) (pa_cons (pe_callTy (call_uList (K := K) rfl) (by rfl) T.n_list (by decide +kernel) (pa_cons (pv 6) pa_nil)) pa_nil)))) (pa_cons (pe_lst (pa_cons (pv 4) (pa_cons (pv 5) (pa_cons (pv 6) pa_nil)))) (pa_cons (pe_tup (pa_cons (pv 4) (pa_cons (RV.pe_revT (K := K) rfl (pv 5)) (pa_cons (RV.pe_revT (K := K) rfl (pv 6)) pa_nil)))) pa_nil)))) pa_nil)))
        (pss_cons (ps_expr (pe_bm PySem.F.plainAttrs_list PySem.F.slot_list_extend PySem.F.type_list_extend mt_extend (pv 3) (pa_cons (pe_lst (pa_cons (pe_tup (pa_cons (pv 4) (pa_cons (pv 5) (pa_cons (pe_slice (U.sl_uA (K := K) rfl) (pv 6) (po_some (pe_int)) po_none) pa_nil)))) (pa_cons (pe_tup (pa_cons (pv 4) (pa_cons (pe_slice (U.sl_uA (K := K) rfl) (pv 5) (po_some (pe_int)) po_none) (pa_cons (pe_slice (U.sl_uA (K := K) rfl) (pv 6) (po_some (pe_int)) po_none) pa_nil)))) (pa_cons (pe_tup (pa_cons (pv 4) (pa_cons (pe_op (U.op_uAddA (K := K) rfl) (pv 5) (pe_tup (pa_cons (pe_tup pa_nil) pa_nil))) (pa_cons (pe_op (U.op_uAddA (K := K) rfl) (pv 6) (pe_tup (pa_cons (pe_int) pa_nil))) pa_nil)))) pa_nil)))) pa_nil)))
        (pss_cons (ps_if (PW.pt (pw_and (pt_cmpR (op_uNe (K := K) rfl hu64) (pv 5) (pe_tup pa_nil) (nomark _)) (pw_and (pt_cmpR (op_uNe (K := K) rfl hu64) (pe_ix (ix_u (K := K) rfl) (pv 5) (pe_int) (fun _ _ => rfl)) (pe_tup pa_nil) (nomark _)) (pw_and1 (pt_cmpR (op_uNe (K := K) rfl hu64) (pv 6) (pe_tup pa_nil) (nomark _)))))) (pss_cons (ps_expr (pe_bm PySem.F.plainAttrs_list PySem.F.slot_list_append PySem.F.type_list_append mt_append (pv 3) (pa_cons (pe_tup (pa_cons (pv 4) (pa_cons (pv 5) (pa_cons (pe_op (U.op_uAddA (K := K) rfl) (pe_tup (pa_cons (pe_op (op_uAdd (K := K) rfl) (pe_ix (ix_u (K := K) rfl) (pv 6) (pe_int) (fun _ _ => rfl)) (pe_int)) pa_nil)) (pe_slice (U.sl_uA (K := K) rfl) (pv 6) (po_some (pe_int)) po_none)) pa_nil)))) pa_nil)))
        (pss_cons (ps_expr (pe_bm PySem.F.plainAttrs_list PySem.F.slot_list_append PySem.F.type_list_append mt_append (pv 3) (pa_cons (pe_tup (pa_cons (pv 4) (pa_cons (pe_op (U.op_uAddA (K := K) rfl) (pe_tup (pa_cons (RV.pe_revT (K := K) rfl (pe_ix (ix_u (K := K) rfl) (pv 5) (pe_int) (fun _ _ => rfl))) pa_nil)) (pe_slice (U.sl_uA (K := K) rfl) (pv 5) (po_some (pe_int)) po_none)) (pa_cons (pv 6) pa_nil)))) pa_nil)))
        (pss_one (ps_expr (pe_bm PySem.F.plainAttrs_list PySem.F.slot_list_append PySem.F.type_list_append mt_append (pv 3) (pa_cons (pe_tup (pa_cons (pv 4) (pa_cons (pe_op (U.op_uAddA (K := K) rfl) (pe_tup (pa_cons (pe_op (U.op_uAddA (K := K) rfl) (pe_ix (ix_u (K := K) rfl) (pv 5) (pe_int) (fun _ _ => rfl)) (pe_slice (U.sl_uA (K := K) rfl) (pe_ix (ix_u (K := K) rfl) (pv 5) (pe_int) (fun _ _ => rfl)) po_none (po_some (pe_int)))) pa_nil)) (pe_slice (U.sl_uA (K := K) rfl) (pv 5) (po_some (pe_int)) po_none)) (pa_cons (pv 6) pa_nil)))) pa_nil)))))) pss_nil)
        (pss_cons (ps_set (i := 7) sc__law_near.nd rfl (Or.inl rfl) (pe_callB (call_uLen (K := K) rfl) (by rfl) T.n_len (by decide +kernel) (pa_cons (pv 1) pa_nil)))
        (pss_cons (ps_if (pt_cmpR op_uGt (pv 7) (pe_int) (nomark _)) (pss_cons (ps_set (i := 8) sc__law_near.nd rfl (Or.inl rfl) (pe_callB (U.call_uSortP (K := K) rfl) (by rfl) T.n_sorted (by decide +kernel) (pa_cons (pe_lc rfl sc__law_near.nd (ET.pi_enumT (K := K) rfl (by rfl) T.n_enumerate (pa_cons (pv 1) pa_nil)) (blkOk_by (own := [("at", 10), ("one", 11)]) (N := ["pot", "values", "told", "found", "loss", "crowds", "shown", "amount", "row", "crowd", "at", "one"]) (sc := defScope s__law_near) (by decide +kernel)) (fun _ _ _ _ _ => (u_gtup (K := K) (n := 2) rfl rfl (pgs_cons (pg_name (i := 10) sc__law_near.nd rfl (Or.inl rfl)) (pgs_cons (pg_name (i := 11) sc__law_near.nd rfl (Or.inl rfl)) pgs_nil)))) (fun _ _ _ _ _ => pts_nil) (fun _ _ _ _ _ => (pe_tup (pa_cons (pv 11) (pa_cons (pv 10) pa_nil))))) pa_nil)))
        (pss_cons (ps_set (i := 9) sc__law_near.nd rfl (Or.inl rfl) (pe_callTy (call_uTuple (K := K) rfl) (by rfl) T.n_tuple (by decide +kernel) (pa_cons (pe_callB (U.call_uSortI (K := K) rfl) (by rfl) T.n_sorted (by decide +kernel) (pa_cons (pe_lc rfl sc__law_near.nd (u_list (K := K) rfl (pv 8)) (blkOk_by (own := [("one", 11), ("at", 10)]) (N := ["pot", "values", "told", "found", "loss", "crowds", "shown", "amount", "row", "crowd", "at", "one"]) (sc := defScope s__law_near) (by decide +kernel)) (fun _ _ _ _ _ => (u_gtup (K := K) (n := 2) rfl rfl (pgs_cons (pg_name (i := 11) sc__law_near.nd rfl (Or.inl rfl)) (pgs_cons (pg_name (i := 10) sc__law_near.nd rfl (Or.inl rfl)) pgs_nil)))) (fun _ _ _ _ _ => pts_nil) (fun _ _ _ _ _ => (pv 10))) pa_nil)) pa_nil)))
        (pss_one (ps_expr (pe_bm PySem.F.plainAttrs_list PySem.F.slot_list_append PySem.F.type_list_append mt_append (pv 3) (pa_cons (pe_tup (pa_cons (pe_call (ok__law_crowd_cost T) (hr.mono (by decide)) rfl T.m__law_crowd_cost T.F__law_crowd_cost.kp (b__law_crowd_cost T) .nil pass0 (pa_cons (pv 1) pa_nil)) (pa_cons (pe_tup (pa_cons (pv 9) pa_nil)) (pa_cons (pe_tup (pa_cons (pe_ix (ix_u (K := K) rfl) (pe_ix (ix_u (K := K) rfl) (pv 8) (pe_op op_uDiv (pv 7) (pe_int)) (fun _ _ => rfl)) (pe_int) (fun _ _ => rfl)) pa_nil)) pa_nil)))) pa_nil)))))) pss_nil)
        (pss_one (ps_ret (pv 3)))))))))))), ?_⟩
    walk_at "st"
    walk_at "go"
    refine ⟨Nat.le_of_ble_eq_true rfl, fun a1 na1 => ?_⟩
    generalize qn1 : upd H a1 (.tup []) = N1
    have sn1 : Same H N1 := qn1 ▸ U.same_new na1
    have en1 : N1 a1 = some (.tup []) := qn1 ▸ upd_same
    clear qn1
    walk_at "go"
    refine ⟨Nat.le_of_ble_eq_true rfl, fun a2 na2 => ?_⟩
    generalize qn2 : upd N1 a2 (.tup []) = N2
    have sn2 : Same N1 N2 := qn2 ▸ U.same_new na2
    have en2 : N2 a2 = some (.tup []) := qn2 ▸ upd_same
    clear qn2
    walk_at "go"
    refine ⟨Nat.le_of_ble_eq_true rfl, fun a3 na3 => ?_⟩
    generalize qn3 : upd N2 a3 (.tup []) = N3
    have sn3 : Same N2 N3 := qn3 ▸ U.same_new na3
    have en3 : N3 a3 = some (.tup []) := qn3 ▸ upd_same
    clear qn3
    walk_at "go"
    refine ⟨Nat.le_of_ble_eq_true rfl, fun a4 na4 => ?_⟩
    generalize qn4 : upd N3 a4 (.tup [.int 0, .ref a2, .ref a3]) = N4
    have sn4 : Same N3 N4 := qn4 ▸ U.same_new na4
    have en4 : N4 a4 = some (.tup [.int 0, .ref a2, .ref a3]) := qn4 ▸ upd_same
    clear qn4
    walk_at "go"
    refine ⟨Nat.le_of_ble_eq_true rfl, fun a5 na5 => ?_⟩
    generalize qn5 : upd N4 a5 (.lst [v, .non, .ref a1, .int 0, .ref a4]) = N5
    have sn5 : Same N4 N5 := qn5 ▸ U.same_new na5
    have en5 : N5 a5 = some (.lst [v, .non, .ref a1, .int 0, .ref a4]) := qn5 ▸ upd_same
    clear qn5
    have sH : Same H N5 := sn1.trans (sn2.trans (sn3.trans (sn4.trans sn5)))
    have s4H : Same H N4 := sn1.trans (sn2.trans (sn3.trans sn4))
    have ol : ∀ {c : Addr} {o : HO}, H c = some o → c ≠ a5 := fun e => ne_of_none (s4H _ _ e) na5
    have x1 := (sn2.trans (sn3.trans sn4)) _ _ en1
    have x2 := (sn3.trans sn4) _ _ en2
    have x3 := sn4 _ _ en3
    have base : NdL a5 N5 [.non, .ref a1, .int 0, .ref a4] := fun w hw => by
      simp only [List.mem_cons, List.not_mem_nil, or_false] at hw
      rcases hw with rfl | rfl | rfl | rfl
      · exact ⟨.non, rfl⟩
      · exact ⟨.bad, .inr (.inr ⟨a1, [], rfl, ne_of_none x1 na5, sn5 _ _ x1, by decide⟩)⟩
      · exact ⟨.bad, .inl ⟨0, rfl⟩⟩
      · exact ⟨.trip 0 [] (some []), a4, a2, a3, [], rfl, ne_of_none en4 na5, ne_of_none x2 na5, ne_of_none x3 na5, sn5 _ _ en4, sn5 _ _ x2, Nat.zero_le _, .nil, sn5 _ _ x3, Nat.zero_le _⟩
    walk_at "go"
    rcases ht with rfl | ⟨t, ca, sa, cv, nss, sv, L, rfl, h1, h2, h3, h4, h5, h6, h7⟩
    · refine e_isi (b := false) ty_non (by decide +kernel) ?_
      walk_at "go"
      exact kk a5 _ N5 sH en5 fun w hw => (NdL.add base ⟨.non, rfl⟩ w hw).at
    have hcrav : ∀ {H' : Hp}, SB a5 N5 H' → Paired (fun v c => CrAt H' v c ∧ ∀ a, v = .ref a → a ≠ a5) cv (nss.map fun ms => some (ms.map V.int)) := fun s => crav_mono s (prd_mono (fun v c h => by
      refine ⟨?_, fun a e => ?_⟩
      · cases c with
        | none => exact h
        | some xs => obtain ⟨a, e, q1, q2⟩ := h; exact ⟨a, e, sH _ _ q1, q2⟩
      · cases c with
        | none => subst e; cases h
        | some xs => obtain ⟨a', e', q1, _⟩ := h; cases e.symm.trans e'; exact ol q1) h3)
    have O : NdL a5 N5 [.ref t, .non, .ref a1, .int 0, .ref a4] := NdL.add base ⟨.trip L nss (some sv), t, ca, sa, cv, rfl, ol h1, ol h2, ol h4, sH _ _ h1, sH _ _ h2, by omega, hcrav (SB.refl _ _), sH _ _ h4, by omega⟩
    have k1 := sH _ _ h1
    have h8 := h7.2
    have k2 := sH _ _ h2
    have k4 := sH _ _ h4
    refine e_isi (b := true) (ty_tup k1) (by decide +kernel) ?_
    walk_at "go"
    refine U.g_lenL (Or.inr (SqT.of k1)) ?_
    walk_at "go"
    refine U.g_F ?_
    walk_at "go"
    refine e_isi (b := true) (ty_tup k2) (by decide +kernel) ?_
    refine ⟨_, rfl, U.g_F ?_⟩
    walk_at "go"
    refine e_isi (b := true) (ty_tup k4) (by decide +kernel) ?_
    refine ⟨_, rfl, U.g_F ?_⟩
    walk_at "go"
    have f5 := en5
    have sb5 : SB a5 N5 N5 := SB.refl _ _
    have O5 := O
    refine U.g_lstC (Or.inr (SqT.of k4)) fun a6 na6 => ?_
    generalize qn6 : upd N5 a6 (.lst (sv.map V.int)) = N6
    have sn6 : Same N5 N6 := qn6 ▸ U.same_new na6
    have en6 : N6 a6 = some (.lst (sv.map V.int)) := qn6 ▸ upd_same
    clear qn6
    have ne6 : a6 ≠ a5 := (ne_of_none f5 na6).symm
    have f6 := sn6 _ _ f5
    have sb6 : SB a5 N5 N6 := sb5.trans (SB.of sn6)
    walk_at "go"
    refine ⟨Nat.le_of_ble_eq_true rfl, fun a7 na7 => ?_⟩
    generalize qn7 : upd N6 a7 (.tup [.int L, .ref ca, .ref a6]) = N7
    have sn7 : Same N6 N7 := qn7 ▸ U.same_new na7
    have en7 : N7 a7 = some (.tup [.int L, .ref ca, .ref a6]) := qn7 ▸ upd_same
    clear qn7
    have ne7 : a7 ≠ a5 := (ne_of_none f6 na7).symm
    have f7 := sn7 _ _ f6
    have sb7 : SB a5 N5 N7 := sb6.trans (SB.of sn7)
    walk_at "go"
    refine ⟨Nat.le_of_ble_eq_true rfl, fun a8 na8 => ?_⟩
    generalize qn8 : upd N7 a8 (.lst [.int L, .ref ca, .ref sa]) = N8
    have sn8 : Same N7 N8 := qn8 ▸ U.same_new na8
    have en8 : N8 a8 = some (.lst [.int L, .ref ca, .ref sa]) := qn8 ▸ upd_same
    clear qn8
    have ne8 : a8 ≠ a5 := (ne_of_none f7 na8).symm
    have f8 := sn8 _ _ f7
    have sb8 : SB a5 N5 N8 := sb7.trans (SB.of sn8)
    walk_at "go"
    refine ⟨_, rfl, ca, cv, rfl, SqT.of (sb8 _ _ k2 (ol h2)), fun a9 na9 => ?_⟩
    generalize qn9 : upd N8 a9 (.tup cv.reverse) = N9
    have sn9 : Same N8 N9 := qn9 ▸ U.same_new na9
    have en9 : N9 a9 = some (.tup cv.reverse) := qn9 ▸ upd_same
    clear qn9
    have ne9 : a9 ≠ a5 := (ne_of_none f8 na9).symm
    have f9 := sn9 _ _ f8
    have sb9 : SB a5 N5 N9 := sb8.trans (SB.of sn9)
    walk_at "go"
    refine ⟨_, rfl, sa, sv.map V.int, rfl, SqT.of (sb9 _ _ k4 (ol h4)), fun a10 na10 => ?_⟩
    generalize qn10 : upd N9 a10 (.tup (sv.map V.int).reverse) = N10
    have sn10 : Same N9 N10 := qn10 ▸ U.same_new na10
    have en10 : N10 a10 = some (.tup (sv.map V.int).reverse) := qn10 ▸ upd_same
    clear qn10
    have ne10 : a10 ≠ a5 := (ne_of_none f9 na10).symm
    have f10 := sn10 _ _ f9
    have sb10 : SB a5 N5 N10 := sb9.trans (SB.of sn10)
    walk_at "go"
    refine ⟨Nat.le_of_ble_eq_true rfl, fun a11 na11 => ?_⟩
    generalize qn11 : upd N10 a11 (.tup [.int L, .ref a9, .ref a10]) = N11
    have sn11 : Same N10 N11 := qn11 ▸ U.same_new na11
    have en11 : N11 a11 = some (.tup [.int L, .ref a9, .ref a10]) := qn11 ▸ upd_same
    clear qn11
    have ne11 : a11 ≠ a5 := (ne_of_none f10 na11).symm
    have f11 := sn11 _ _ f10
    have sb11 : SB a5 N5 N11 := sb10.trans (SB.of sn11)
    walk_at "go"
    refine ⟨Nat.le_of_ble_eq_true rfl, fun a12 na12 => ?_⟩
    generalize qn12 : upd N11 a12 (.lst [.ref a7, .ref a8, .ref a11]) = N12
    have sn12 : Same N11 N12 := qn12 ▸ U.same_new na12
    have en12 : N12 a12 = some (.lst [.ref a7, .ref a8, .ref a11]) := qn12 ▸ upd_same
    clear qn12
    have ne12 : a12 ≠ a5 := (ne_of_none f11 na12).symm
    have f12 := sn12 _ _ f11
    have sb12 : SB a5 N5 N12 := sb11.trans (SB.of sn12)
    walk_at "go"
    refine U.g_ext f12 en12 (Nat.le_of_ble_eq_true rfl) ?_
    walk_at "go"
    have X12 : NdL a5 N12 [.ref a7, .ref a8, .ref a11] := fun w hw => by
      simp only [List.mem_cons, List.not_mem_nil, or_false] at hw
      rcases hw with rfl | rfl | rfl
      · exact ⟨.trip L nss none, a7, ca, a6, cv, rfl, ne7, ol h2, ne6, ((((((SB.of sn8).trans (SB.of sn9)).trans (SB.of sn10)).trans (SB.of sn11)).trans (SB.of sn12)) _ _ en7 ne7), (sb12 _ _ k2 (ol h2)), by omega, hcrav sb12, _, (((((((SB.of sn7).trans (SB.of sn8)).trans (SB.of sn9)).trans (SB.of sn10)).trans (SB.of sn11)).trans (SB.of sn12)) _ _ en6 ne6)⟩
      · exact ⟨.bad, .inr (.inl ⟨a8, _, rfl, ne8, (((((SB.of sn9).trans (SB.of sn10)).trans (SB.of sn11)).trans (SB.of sn12)) _ _ en8 ne8)⟩)⟩
      · exact ⟨.trip L nss.reverse (some sv.reverse), a11, a9, a10, cv.reverse, rfl, ne11, ne9, ne10, ((SB.of sn12) _ _ en11 ne11), ((((SB.of sn10).trans (SB.of sn11)).trans (SB.of sn12)) _ _ en9 ne9), by rw [List.length_reverse]; omega, by rw [List.map_reverse]; exact prd_reverse (hcrav sb12), by rw [List.map_reverse]; exact (((SB.of sn11).trans (SB.of sn12)) _ _ en10 ne10), by rw [List.length_reverse]; omega⟩
    generalize qn13 : upd N12 a5 (.lst ([.ref t, .non, .ref a1, .int 0, .ref a4] ++ [.ref a7, .ref a8, .ref a11])) = N13
    have sp13 : SB a5 N12 N13 := qn13 ▸ sb_put
    have f13 : N13 a5 = some (.lst ([.ref t, .non, .ref a1, .int 0, .ref a4] ++ [.ref a7, .ref a8, .ref a11])) := qn13 ▸ upd_same
    have sb13 : SB a5 N5 N13 := sb12.trans sp13
    have O13 : NdL a5 N13 ([.ref t, .non, .ref a1, .int 0, .ref a4] ++ [.ref a7, .ref a8, .ref a11]) := fun w hw => (List.mem_append.mp hw).elim (fun h => (O5 w h).mono (((((((((SB.of sn6).trans (SB.of sn7)).trans (SB.of sn8)).trans (SB.of sn9)).trans (SB.of sn10)).trans (SB.of sn11)).trans (SB.of sn12)).trans sp13))) fun h => (X12 w h).mono sp13
    clear qn13
    refine g_slTT (sb13 _ _ k4 (ol h4)) fun a14 N14 sn14 en14 nn14 => ?_
    have ne14 : a14 ≠ a5 := by
      rcases nn14 with q | q
      · rw [q]; exact ol h4
      · exact (ne_of_none f13 q).symm
    have f14 := sn14 _ _ f13
    have sb14 : SB a5 N5 N14 := sb13.trans (SB.of sn14)
    rw [cut_one, ← List.map_drop] at en14
    walk_at "go"
    refine ⟨Nat.le_of_ble_eq_true rfl, fun a15 na15 => ?_⟩
    generalize qn15 : upd N14 a15 (.tup [.int L, .ref ca, .ref a14]) = N15
    have sn15 : Same N14 N15 := qn15 ▸ U.same_new na15
    have en15 : N15 a15 = some (.tup [.int L, .ref ca, .ref a14]) := qn15 ▸ upd_same
    clear qn15
    have ne15 : a15 ≠ a5 := (ne_of_none f14 na15).symm
    have f15 := sn15 _ _ f14
    have sb15 : SB a5 N5 N15 := sb14.trans (SB.of sn15)
    walk_at "go"
    refine g_slTT (sb15 _ _ k2 (ol h2)) fun a16 N16 sn16 en16 nn16 => ?_
    have ne16 : a16 ≠ a5 := by
      rcases nn16 with q | q
      · rw [q]; exact ol h2
      · exact (ne_of_none f15 q).symm
    have f16 := sn16 _ _ f15
    have sb16 : SB a5 N5 N16 := sb15.trans (SB.of sn16)
    rw [cut_one] at en16
    walk_at "go"
    refine g_slTT (sb16 _ _ k4 (ol h4)) fun a17 N17 sn17 en17 nn17 => ?_
    have ne17 : a17 ≠ a5 := by
      rcases nn17 with q | q
      · rw [q]; exact ol h4
      · exact (ne_of_none f16 q).symm
    have f17 := sn17 _ _ f16
    have sb17 : SB a5 N5 N17 := sb16.trans (SB.of sn17)
    rw [cut_one, ← List.map_drop] at en17
    walk_at "go"
    refine ⟨Nat.le_of_ble_eq_true rfl, fun a18 na18 => ?_⟩
    generalize qn18 : upd N17 a18 (.tup [.int L, .ref a16, .ref a17]) = N18
    have sn18 : Same N17 N18 := qn18 ▸ U.same_new na18
    have en18 : N18 a18 = some (.tup [.int L, .ref a16, .ref a17]) := qn18 ▸ upd_same
    clear qn18
    have ne18 : a18 ≠ a5 := (ne_of_none f17 na18).symm
    have f18 := sn18 _ _ f17
    have sb18 : SB a5 N5 N18 := sb17.trans (SB.of sn18)
    walk_at "go"
    refine ⟨Nat.le_of_ble_eq_true rfl, fun a19 na19 => ?_⟩
    generalize qn19 : upd N18 a19 (.tup []) = N19
    have sn19 : Same N18 N19 := qn19 ▸ U.same_new na19
    have en19 : N19 a19 = some (.tup []) := qn19 ▸ upd_same
    clear qn19
    have ne19 : a19 ≠ a5 := (ne_of_none f18 na19).symm
    have f19 := sn19 _ _ f18
    have sb19 : SB a5 N5 N19 := sb18.trans (SB.of sn19)
    walk_at "go"
    refine ⟨Nat.le_of_ble_eq_true rfl, fun a20 na20 => ?_⟩
    generalize qn20 : upd N19 a20 (.tup [.ref a19]) = N20
    have sn20 : Same N19 N20 := qn20 ▸ U.same_new na20
    have en20 : N20 a20 = some (.tup [.ref a19]) := qn20 ▸ upd_same
    clear qn20
    have ne20 : a20 ≠ a5 := (ne_of_none f19 na20).symm
    have f20 := sn20 _ _ f19
    have sb20 : SB a5 N5 N20 := sb19.trans (SB.of sn20)
    refine g_addTT (sb20 _ _ k2 (ol h2)) en20 (by show cv.length + 1 ≤ sizeLine; have : (1000 : Nat) ≤ sizeLine := (by decide); have := prd_len h3; rw [List.length_map] at this; omega) fun a21 N21 sn21 en21 nn21 => ?_
    have ne21 : a21 ≠ a5 := by
      rcases nn21 with q | q | q
      · rw [q]; exact ol h2
      · rw [q]; exact ne20
      · exact (ne_of_none f20 q).symm
    have f21 := sn21 _ _ f20
    have sb21 : SB a5 N5 N21 := sb20.trans (SB.of sn21)
    walk_at "go"
    refine ⟨Nat.le_of_ble_eq_true rfl, fun a22 na22 => ?_⟩
    generalize qn22 : upd N21 a22 (.tup [.int 0]) = N22
    have sn22 : Same N21 N22 := qn22 ▸ U.same_new na22
    have en22 : N22 a22 = some (.tup [.int 0]) := qn22 ▸ upd_same
    clear qn22
    have ne22 : a22 ≠ a5 := (ne_of_none f21 na22).symm
    have f22 := sn22 _ _ f21
    have sb22 : SB a5 N5 N22 := sb21.trans (SB.of sn22)
    refine g_addTT (sb22 _ _ k4 (ol h4)) en22 (by rw [List.length_map]; show sv.length + 1 ≤ sizeLine; have : (1000 : Nat) ≤ sizeLine := (by decide); omega) fun a23 N23 sn23 en23 nn23 => ?_
    have ne23 : a23 ≠ a5 := by
      rcases nn23 with q | q | q
      · rw [q]; exact ol h4
      · rw [q]; exact ne22
      · exact (ne_of_none f22 q).symm
    have f23 := sn23 _ _ f22
    have sb23 : SB a5 N5 N23 := sb22.trans (SB.of sn23)
    walk_at "go"
    refine ⟨Nat.le_of_ble_eq_true rfl, fun a24 na24 => ?_⟩
    generalize qn24 : upd N23 a24 (.tup [.int L, .ref a21, .ref a23]) = N24
    have sn24 : Same N23 N24 := qn24 ▸ U.same_new na24
    have en24 : N24 a24 = some (.tup [.int L, .ref a21, .ref a23]) := qn24 ▸ upd_same
    clear qn24
    have ne24 : a24 ≠ a5 := (ne_of_none f23 na24).symm
    have f24 := sn24 _ _ f23
    have sb24 : SB a5 N5 N24 := sb23.trans (SB.of sn24)
    walk_at "go"
    refine ⟨Nat.le_of_ble_eq_true rfl, fun a25 na25 => ?_⟩
    generalize qn25 : upd N24 a25 (.lst [.ref a15, .ref a18, .ref a24]) = N25
    have sn25 : Same N24 N25 := qn25 ▸ U.same_new na25
    have en25 : N25 a25 = some (.lst [.ref a15, .ref a18, .ref a24]) := qn25 ▸ upd_same
    clear qn25
    have ne25 : a25 ≠ a5 := (ne_of_none f24 na25).symm
    have f25 := sn25 _ _ f24
    have sb25 : SB a5 N5 N25 := sb24.trans (SB.of sn25)
    walk_at "go"
    refine U.g_ext f25 en25 (Nat.le_of_ble_eq_true rfl) ?_

    have X25 : NdL a5 N25 [.ref a15, .ref a18, .ref a24] := fun w hw => by
      simp only [List.mem_cons, List.not_mem_nil, or_false] at hw
      rcases hw with rfl | rfl | rfl
      · exact ⟨.trip L nss (some (sv.drop 1)), a15, ca, a14, cv, rfl, ne15, ol h2, ne14, (((((((((((SB.of sn16).trans (SB.of sn17)).trans (SB.of sn18)).trans (SB.of sn19)).trans (SB.of sn20)).trans (SB.of sn21)).trans (SB.of sn22)).trans (SB.of sn23)).trans (SB.of sn24)).trans (SB.of sn25)) _ _ en15 ne15), (sb25 _ _ k2 (ol h2)), by omega, hcrav sb25, ((((((((((((SB.of sn15).trans (SB.of sn16)).trans (SB.of sn17)).trans (SB.of sn18)).trans (SB.of sn19)).trans (SB.of sn20)).trans (SB.of sn21)).trans (SB.of sn22)).trans (SB.of sn23)).trans (SB.of sn24)).trans (SB.of sn25)) _ _ en14 ne14), by rw [List.length_drop]; omega⟩
      · exact ⟨.trip L (nss.drop 1) (some (sv.drop 1)), a18, a16, a17, cv.drop 1, rfl, ne18, ne16, ne17, ((((((((SB.of sn19).trans (SB.of sn20)).trans (SB.of sn21)).trans (SB.of sn22)).trans (SB.of sn23)).trans (SB.of sn24)).trans (SB.of sn25)) _ _ en18 ne18), ((((((((((SB.of sn17).trans (SB.of sn18)).trans (SB.of sn19)).trans (SB.of sn20)).trans (SB.of sn21)).trans (SB.of sn22)).trans (SB.of sn23)).trans (SB.of sn24)).trans (SB.of sn25)) _ _ en16 ne16), by rw [List.length_drop]; omega, by rw [List.map_drop]; exact prd_drop 1 (hcrav sb25), (((((((((SB.of sn18).trans (SB.of sn19)).trans (SB.of sn20)).trans (SB.of sn21)).trans (SB.of sn22)).trans (SB.of sn23)).trans (SB.of sn24)).trans (SB.of sn25)) _ _ en17 ne17), by rw [List.length_drop]; omega⟩
      · exact ⟨.trip L (nss ++ [[]]) (some (sv ++ [0])), a24, a21, a23, cv ++ [.ref a19], rfl, ne24, ne21, ne23, ((SB.of sn25) _ _ en24 ne24), (((((SB.of sn22).trans (SB.of sn23)).trans (SB.of sn24)).trans (SB.of sn25)) _ _ en21 ne21), by rw [List.length_append]; show nss.length + 1 ≤ 1000; omega, by rw [List.map_append]; exact prd_app (hcrav sb25) (.cons ⟨⟨a19, rfl, (((((((SB.of sn20).trans (SB.of sn21)).trans (SB.of sn22)).trans (SB.of sn23)).trans (SB.of sn24)).trans (SB.of sn25)) _ _ en19 ne19), rfl, Nat.zero_le _⟩, fun a e => by cases e; exact ne19⟩ .nil), by rw [List.map_append]; exact (((SB.of sn24).trans (SB.of sn25)) _ _ en23 ne23), by rw [List.length_append]; show sv.length + 1 ≤ 1000; omega⟩
    generalize qn26 : upd N25 a5 (.lst (([.ref t, .non, .ref a1, .int 0, .ref a4] ++ [.ref a7, .ref a8, .ref a11]) ++ [.ref a15, .ref a18, .ref a24])) = N26
    have sp26 : SB a5 N25 N26 := qn26 ▸ sb_put
    have f26 : N26 a5 = some (.lst (([.ref t, .non, .ref a1, .int 0, .ref a4] ++ [.ref a7, .ref a8, .ref a11]) ++ [.ref a15, .ref a18, .ref a24])) := qn26 ▸ upd_same
    have sb26 : SB a5 N5 N26 := sb25.trans sp26
    have O26 : NdL a5 N26 (([.ref t, .non, .ref a1, .int 0, .ref a4] ++ [.ref a7, .ref a8, .ref a11]) ++ [.ref a15, .ref a18, .ref a24]) := fun w hw => (List.mem_append.mp hw).elim (fun h => (O13 w h).mono ((((((((((((((SB.of sn14).trans (SB.of sn15)).trans (SB.of sn16)).trans (SB.of sn17)).trans (SB.of sn18)).trans (SB.of sn19)).trans (SB.of sn20)).trans (SB.of sn21)).trans (SB.of sn22)).trans (SB.of sn23)).trans (SB.of sn24)).trans (SB.of sn25)).trans sp26))) fun h => (X25 w h).mono sp26
    clear qn26
    have lcv : cv.length = nss.length := by rw [prd_len h3, List.length_map]
    refine U.g_seq (U.g_cutS (fun σ' H' => ∃ ws : List V, σ' = [some (.ref p), some (.ref b), some (.ref t), some (.ref a5), some (.int L), some (.ref ca), some (.ref sa), none, none, none, none, none] ∧ H' a5 = some (.lst ws) ∧ ws.length ≤ 100 ∧ NdL a5 H' ws ∧ SB a5 N5 H') (fun Rk kR => ?_) ?_)
    · walk_at "go"
      have fin : ∀ H', SB a5 N26 H' → H' a5 = some (.lst (([.ref t, .non, .ref a1, .int 0, .ref a4] ++ [.ref a7, .ref a8, .ref a11]) ++ [.ref a15, .ref a18, .ref a24])) → Rk [some (.ref p), some (.ref b), some (.ref t), some (.ref a5), some (.int L), some (.ref ca), some (.ref sa), none, none, none, none, none] H' := fun H' s e => kR _ _ ⟨_, rfl, e, Nat.le_of_ble_eq_true rfl, O26.mono s, sb26.trans s⟩
      refine ⟨Nat.le_of_ble_eq_true rfl, fun a27 na27 => ?_⟩
      generalize qn27 : upd N26 a27 (.tup []) = N27
      have sn27 : Same N26 N27 := qn27 ▸ U.same_new na27
      have en27 : N27 a27 = some (.tup []) := qn27 ▸ upd_same
      clear qn27
      have ne27 : a27 ≠ a5 := (ne_of_none f26 na27).symm
      have f27 := sn27 _ _ f26
      have sb27 : SB a5 N5 N27 := sb26.trans (SB.of sn27)
      refine g_neNilT (sb27 _ _ k2 (ol h2)) (crs_dp (prd_mono (fun _ _ h => h.1) (hcrav sb27))) (crs_shaped nss) en27 ?_
      refine ⟨_, rfl, U.g_2 (fun c1 => ?_) (fun c1 => ?_)⟩
      case refine_2 => exact fin _ ((SB.of sn27)) f27
      obtain ⟨ms, nss', rfl⟩ : ∃ ms nss', nss = ms :: nss' := by
        cases nss with
        | nil => cases c1
        | cons ms nss' => exact ⟨ms, nss', rfl⟩
      obtain ⟨c0, cv', rfl, hc0, _⟩ := prd_unc h3
      obtain ⟨c, rfl, hc, _⟩ := hc0
      have kc := sH _ _ hc
      have lms := h8 ms List.mem_cons_self
      walk_at "go"
      refine U.g_ix (v := .ref c) (Or.inr (SqT.of (sb27 _ _ k2 (ol h2)))) (atI_nat (j := 0) rfl) ?_
      walk_at "go"
      refine ⟨Nat.le_of_ble_eq_true rfl, fun a28 na28 => ?_⟩
      generalize qn28 : upd N27 a28 (.tup []) = N28
      have sn28 : Same N27 N28 := qn28 ▸ U.same_new na28
      have en28 : N28 a28 = some (.tup []) := qn28 ▸ upd_same
      clear qn28
      have ne28 : a28 ≠ a5 := (ne_of_none f27 na28).symm
      have f28 := sn28 _ _ f27
      have sb28 : SB a5 N5 N28 := sb27.trans (SB.of sn28)
      refine g_neNilT (sb28 _ _ kc (ol hc)) (ints_dp ms) (ints_shT ms) en28 ?_
      refine ⟨_, rfl, U.g_2 (fun c2 => ?_) (fun c2 => ?_)⟩
      case refine_2 => exact fin _ (((SB.of sn27).trans (SB.of sn28))) f28
      walk_at "go"
      refine ⟨Nat.le_of_ble_eq_true rfl, fun a29 na29 => ?_⟩
      generalize qn29 : upd N28 a29 (.tup []) = N29
      have sn29 : Same N28 N29 := qn29 ▸ U.same_new na29
      have en29 : N29 a29 = some (.tup []) := qn29 ▸ upd_same
      clear qn29
      have ne29 : a29 ≠ a5 := (ne_of_none f28 na29).symm
      have f29 := sn29 _ _ f28
      have sb29 : SB a5 N5 N29 := sb28.trans (SB.of sn29)
      refine g_neNilT (sb29 _ _ k4 (ol h4)) (ints_dp sv) (ints_shT sv) en29 ?_
      refine ⟨_, rfl, U.g_2 (fun c3 => ?_) (fun c3 => ?_)⟩
      case refine_2 => exact fin _ ((((SB.of sn27).trans (SB.of sn28)).trans (SB.of sn29))) f29
      obtain ⟨z0, sv', rfl⟩ : ∃ z0 sv', sv = z0 :: sv' := by
        cases sv with
        | nil => cases c3
        | cons z0 sv' => exact ⟨z0, sv', rfl⟩
      walk_at "go"
      refine U.g_ix (v := .int z0) (Or.inr (SqT.of (sb29 _ _ k4 (ol h4)))) (atI_nat (j := 0) rfl) ?_
      walk_at "go"
      refine ⟨Nat.le_of_ble_eq_true rfl, fun a30 na30 => ?_⟩
      generalize qn30 : upd N29 a30 (.tup [.int (z0 + 1)]) = N30
      have sn30 : Same N29 N30 := qn30 ▸ U.same_new na30
      have en30 : N30 a30 = some (.tup [.int (z0 + 1)]) := qn30 ▸ upd_same
      clear qn30
      have ne30 : a30 ≠ a5 := (ne_of_none f29 na30).symm
      have f30 := sn30 _ _ f29
      have sb30 : SB a5 N5 N30 := sb29.trans (SB.of sn30)
      walk_at "go"
      refine g_slTT (sb30 _ _ k4 (ol h4)) fun a31 N31 sn31 en31 nn31 => ?_
      have ne31 : a31 ≠ a5 := by
        rcases nn31 with q | q
        · rw [q]; exact ol h4
        · exact (ne_of_none f30 q).symm
      have f31 := sn31 _ _ f30
      have sb31 : SB a5 N5 N31 := sb30.trans (SB.of sn31)
      rw [cut_one, ← List.map_drop] at en31
      walk_at "go"
      refine g_addTT ((SB.of sn31) _ _ en30 ne30) en31 (by simp only [List.length_map, List.length_drop, List.length_cons] at *; show _ ≤ sizeLine; have : (1000 : Nat) ≤ sizeLine := (by decide); show 1 + _ ≤ _; omega) fun a32 N32 sn32 en32 nn32 => ?_
      have ne32 : a32 ≠ a5 := by
        rcases nn32 with q | q | q
        · rw [q]; exact ne30
        · rw [q]; exact ne31
        · exact (ne_of_none f31 q).symm
      have f32 := sn32 _ _ f31
      have sb32 : SB a5 N5 N32 := sb31.trans (SB.of sn32)
      walk_at "go"
      refine ⟨Nat.le_of_ble_eq_true rfl, fun a33 na33 => ?_⟩
      generalize qn33 : upd N32 a33 (.tup [.int L, .ref ca, .ref a32]) = N33
      have sn33 : Same N32 N33 := qn33 ▸ U.same_new na33
      have en33 : N33 a33 = some (.tup [.int L, .ref ca, .ref a32]) := qn33 ▸ upd_same
      clear qn33
      have ne33 : a33 ≠ a5 := (ne_of_none f32 na33).symm
      have f33 := sn33 _ _ f32
      have sb33 : SB a5 N5 N33 := sb32.trans (SB.of sn33)
      walk_at "go"
      have X33 : NdAv a5 N33 (.ref a33) := ⟨.trip L (ms :: nss') (some ([z0 + 1] ++ (z0 :: sv').drop 1)), a33, ca, a32, _, rfl, ne33, ol h2, ne32, en33, (sb33 _ _ k2 (ol h2)), by omega, hcrav sb33, by rw [List.map_append]; exact ((SB.of sn33) _ _ en32 ne32), by simp only [List.length_append, List.length_drop, List.length_cons, List.length_nil] at *; omega⟩
      refine U.g_appL f33 (Nat.le_of_ble_eq_true rfl) ?_
      generalize qn34 : upd N33 a5 (.lst ((([.ref t, .non, .ref a1, .int 0, .ref a4] ++ [.ref a7, .ref a8, .ref a11]) ++ [.ref a15, .ref a18, .ref a24]) ++ [(.ref a33)])) = N34
      have sp34 : SB a5 N33 N34 := qn34 ▸ sb_put
      have f34 : N34 a5 = some (.lst ((([.ref t, .non, .ref a1, .int 0, .ref a4] ++ [.ref a7, .ref a8, .ref a11]) ++ [.ref a15, .ref a18, .ref a24]) ++ [(.ref a33)])) := qn34 ▸ upd_same
      have sb34 : SB a5 N5 N34 := sb33.trans sp34
      have O34 : NdL a5 N34 ((([.ref t, .non, .ref a1, .int 0, .ref a4] ++ [.ref a7, .ref a8, .ref a11]) ++ [.ref a15, .ref a18, .ref a24]) ++ [(.ref a33)]) := fun w hw => (List.mem_append.mp hw).elim (fun h => (O26 w h).mono (((((((((SB.of sn27).trans (SB.of sn28)).trans (SB.of sn29)).trans (SB.of sn30)).trans (SB.of sn31)).trans (SB.of sn32)).trans (SB.of sn33)).trans sp34))) fun h => by rw [List.mem_singleton] at h; rw [h]; exact X33.mono sp34
      clear qn34
      walk_at "go"
      unfold RV.tRevT
      walk_at "go"
      refine U.g_ix (v := .ref c) (Or.inr (SqT.of (sb34 _ _ k2 (ol h2)))) (atI_nat (j := 0) rfl) ?_
      refine ⟨c, ms.map V.int, rfl, SqT.of (sb34 _ _ kc (ol hc)), fun a35 na35 => ?_⟩
      generalize qn35 : upd N34 a35 (.tup (ms.map V.int).reverse) = N35
      have sn35 : Same N34 N35 := qn35 ▸ U.same_new na35
      have en35 : N35 a35 = some (.tup (ms.map V.int).reverse) := qn35 ▸ upd_same
      clear qn35
      have ne35 : a35 ≠ a5 := (ne_of_none f34 na35).symm
      have f35 := sn35 _ _ f34
      have sb35 : SB a5 N5 N35 := sb34.trans (SB.of sn35)
      walk_at "go"
      refine ⟨Nat.le_of_ble_eq_true rfl, fun a36 na36 => ?_⟩
      generalize qn36 : upd N35 a36 (.tup [.ref a35]) = N36
      have sn36 : Same N35 N36 := qn36 ▸ U.same_new na36
      have en36 : N36 a36 = some (.tup [.ref a35]) := qn36 ▸ upd_same
      clear qn36
      have ne36 : a36 ≠ a5 := (ne_of_none f35 na36).symm
      have f36 := sn36 _ _ f35
      have sb36 : SB a5 N5 N36 := sb35.trans (SB.of sn36)
      walk_at "go"
      refine g_slTT (sb36 _ _ k2 (ol h2)) fun a37 N37 sn37 en37 nn37 => ?_
      have ne37 : a37 ≠ a5 := by
        rcases nn37 with q | q
        · rw [q]; exact ol h2
        · exact (ne_of_none f36 q).symm
      have f37 := sn37 _ _ f36
      have sb37 : SB a5 N5 N37 := sb36.trans (SB.of sn37)
      rw [cut_one] at en37
      walk_at "go"
      refine g_addTT ((SB.of sn37) _ _ en36 ne36) en37 (by simp only [List.length_map, List.length_drop, List.length_cons] at *; show _ ≤ sizeLine; have : (1000 : Nat) ≤ sizeLine := (by decide); show 1 + _ ≤ _; omega) fun a38 N38 sn38 en38 nn38 => ?_
      have ne38 : a38 ≠ a5 := by
        rcases nn38 with q | q | q
        · rw [q]; exact ne36
        · rw [q]; exact ne37
        · exact (ne_of_none f37 q).symm
      have f38 := sn38 _ _ f37
      have sb38 : SB a5 N5 N38 := sb37.trans (SB.of sn38)
      walk_at "go"
      refine ⟨Nat.le_of_ble_eq_true rfl, fun a39 na39 => ?_⟩
      generalize qn39 : upd N38 a39 (.tup [.int L, .ref a38, .ref sa]) = N39
      have sn39 : Same N38 N39 := qn39 ▸ U.same_new na39
      have en39 : N39 a39 = some (.tup [.int L, .ref a38, .ref sa]) := qn39 ▸ upd_same
      clear qn39
      have ne39 : a39 ≠ a5 := (ne_of_none f38 na39).symm
      have f39 := sn39 _ _ f38
      have sb39 : SB a5 N5 N39 := sb38.trans (SB.of sn39)
      walk_at "go"
      have X39 : NdAv a5 N39 (.ref a39) := ⟨.trip L ([ms.reverse] ++ (ms :: nss').drop 1) (some (z0 :: sv')), a39, a38, sa, _, rfl, ne39, ne38, ol h4, en39, ((SB.of sn39) _ _ en38 ne38), by simp only [List.length_append, List.length_drop, List.length_cons, List.length_nil] at *; omega, by rw [List.map_append, List.map_drop]; exact prd_app (.cons ⟨⟨a35, rfl, by rw [List.map_reverse]; exact (((((SB.of sn36).trans (SB.of sn37)).trans (SB.of sn38)).trans (SB.of sn39)) _ _ en35 ne35), plain_ints _, by rw [List.length_map, List.length_reverse]; omega⟩, fun a e => by cases e; exact ne35⟩ .nil) (prd_drop 1 (hcrav sb39)), (sb39 _ _ k4 (ol h4)), by omega⟩
      refine U.g_appL f39 (Nat.le_of_ble_eq_true rfl) ?_
      generalize qn40 : upd N39 a5 (.lst (((([.ref t, .non, .ref a1, .int 0, .ref a4] ++ [.ref a7, .ref a8, .ref a11]) ++ [.ref a15, .ref a18, .ref a24]) ++ [(.ref a33)]) ++ [(.ref a39)])) = N40
      have sp40 : SB a5 N39 N40 := qn40 ▸ sb_put
      have f40 : N40 a5 = some (.lst (((([.ref t, .non, .ref a1, .int 0, .ref a4] ++ [.ref a7, .ref a8, .ref a11]) ++ [.ref a15, .ref a18, .ref a24]) ++ [(.ref a33)]) ++ [(.ref a39)])) := qn40 ▸ upd_same
      have sb40 : SB a5 N5 N40 := sb39.trans sp40
      have O40 : NdL a5 N40 (((([.ref t, .non, .ref a1, .int 0, .ref a4] ++ [.ref a7, .ref a8, .ref a11]) ++ [.ref a15, .ref a18, .ref a24]) ++ [(.ref a33)]) ++ [(.ref a39)]) := fun w hw => (List.mem_append.mp hw).elim (fun h => (O34 w h).mono (((((((SB.of sn35).trans (SB.of sn36)).trans (SB.of sn37)).trans (SB.of sn38)).trans (SB.of sn39)).trans sp40))) fun h => by rw [List.mem_singleton] at h; rw [h]; exact X39.mono sp40
      clear qn40
      walk_at "go"
      refine U.g_ix (v := .ref c) (Or.inr (SqT.of (sb40 _ _ k2 (ol h2)))) (atI_nat (j := 0) rfl) ?_
      walk_at "go"
      refine U.g_ix (v := .ref c) (Or.inr (SqT.of (sb40 _ _ k2 (ol h2)))) (atI_nat (j := 0) rfl) ?_
      walk_at "go"
      refine g_slTT (sb40 _ _ kc (ol hc)) fun a41 N41 sn41 en41 nn41 => ?_
      have ne41 : a41 ≠ a5 := by
        rcases nn41 with q | q
        · rw [q]; exact ol hc
        · exact (ne_of_none f40 q).symm
      have f41 := sn41 _ _ f40
      have sb41 : SB a5 N5 N41 := sb40.trans (SB.of sn41)
      rw [U.cut1] at en41
      walk_at "go"
      refine g_addTT (sb41 _ _ kc (ol hc)) en41 (by simp only [List.length_map, List.length_take]; show _ ≤ sizeLine; have : (1000 : Nat) ≤ sizeLine := (by decide); omega) fun a42 N42 sn42 en42 nn42 => ?_
      have ne42 : a42 ≠ a5 := by
        rcases nn42 with q | q | q
        · rw [q]; exact ol hc
        · rw [q]; exact ne41
        · exact (ne_of_none f41 q).symm
      have f42 := sn42 _ _ f41
      have sb42 : SB a5 N5 N42 := sb41.trans (SB.of sn42)
      walk_at "go"
      refine ⟨Nat.le_of_ble_eq_true rfl, fun a43 na43 => ?_⟩
      generalize qn43 : upd N42 a43 (.tup [.ref a42]) = N43
      have sn43 : Same N42 N43 := qn43 ▸ U.same_new na43
      have en43 : N43 a43 = some (.tup [.ref a42]) := qn43 ▸ upd_same
      clear qn43
      have ne43 : a43 ≠ a5 := (ne_of_none f42 na43).symm
      have f43 := sn43 _ _ f42
      have sb43 : SB a5 N5 N43 := sb42.trans (SB.of sn43)
      walk_at "go"
      refine g_slTT (sb43 _ _ k2 (ol h2)) fun a44 N44 sn44 en44 nn44 => ?_
      have ne44 : a44 ≠ a5 := by
        rcases nn44 with q | q
        · rw [q]; exact ol h2
        · exact (ne_of_none f43 q).symm
      have f44 := sn44 _ _ f43
      have sb44 : SB a5 N5 N44 := sb43.trans (SB.of sn44)
      rw [cut_one] at en44
      walk_at "go"
      refine g_addTT ((SB.of sn44) _ _ en43 ne43) en44 (by simp only [List.length_map, List.length_drop, List.length_cons] at *; show _ ≤ sizeLine; have : (1000 : Nat) ≤ sizeLine := (by decide); show 1 + _ ≤ _; omega) fun a45 N45 sn45 en45 nn45 => ?_
      have ne45 : a45 ≠ a5 := by
        rcases nn45 with q | q | q
        · rw [q]; exact ne43
        · rw [q]; exact ne44
        · exact (ne_of_none f44 q).symm
      have f45 := sn45 _ _ f44
      have sb45 : SB a5 N5 N45 := sb44.trans (SB.of sn45)
      walk_at "go"
      refine ⟨Nat.le_of_ble_eq_true rfl, fun a46 na46 => ?_⟩
      generalize qn46 : upd N45 a46 (.tup [.int L, .ref a45, .ref sa]) = N46
      have sn46 : Same N45 N46 := qn46 ▸ U.same_new na46
      have en46 : N46 a46 = some (.tup [.int L, .ref a45, .ref sa]) := qn46 ▸ upd_same
      clear qn46
      have ne46 : a46 ≠ a5 := (ne_of_none f45 na46).symm
      have f46 := sn46 _ _ f45
      have sb46 : SB a5 N5 N46 := sb45.trans (SB.of sn46)
      walk_at "go"
      have X46 : NdAv a5 N46 (.ref a46) := ⟨.trip L ([ms ++ ms.take 1] ++ (ms :: nss').drop 1) (some (z0 :: sv')), a46, a45, sa, _, rfl, ne46, ne45, ol h4, en46, ((SB.of sn46) _ _ en45 ne45), by simp only [List.length_append, List.length_drop, List.length_cons, List.length_nil] at *; omega, by rw [List.map_append, List.map_drop]; exact prd_app (.cons ⟨⟨a42, rfl, by rw [List.map_append]; exact (((((SB.of sn43).trans (SB.of sn44)).trans (SB.of sn45)).trans (SB.of sn46)) _ _ en42 ne42), plain_ints _, by rw [List.length_map, List.length_append, List.length_take]; omega⟩, fun a e => by cases e; exact ne42⟩ .nil) (prd_drop 1 (hcrav sb46)), (sb46 _ _ k4 (ol h4)), by omega⟩
      refine U.g_appL f46 (Nat.le_of_ble_eq_true rfl) ?_
      generalize qn47 : upd N46 a5 (.lst ((((([.ref t, .non, .ref a1, .int 0, .ref a4] ++ [.ref a7, .ref a8, .ref a11]) ++ [.ref a15, .ref a18, .ref a24]) ++ [(.ref a33)]) ++ [(.ref a39)]) ++ [(.ref a46)])) = N47
      have sp47 : SB a5 N46 N47 := qn47 ▸ sb_put
      have f47 : N47 a5 = some (.lst ((((([.ref t, .non, .ref a1, .int 0, .ref a4] ++ [.ref a7, .ref a8, .ref a11]) ++ [.ref a15, .ref a18, .ref a24]) ++ [(.ref a33)]) ++ [(.ref a39)]) ++ [(.ref a46)])) := qn47 ▸ upd_same
      have sb47 : SB a5 N5 N47 := sb46.trans sp47
      have O47 : NdL a5 N47 ((((([.ref t, .non, .ref a1, .int 0, .ref a4] ++ [.ref a7, .ref a8, .ref a11]) ++ [.ref a15, .ref a18, .ref a24]) ++ [(.ref a33)]) ++ [(.ref a39)]) ++ [(.ref a46)]) := fun w hw => (List.mem_append.mp hw).elim (fun h => (O40 w h).mono ((((((((SB.of sn41).trans (SB.of sn42)).trans (SB.of sn43)).trans (SB.of sn44)).trans (SB.of sn45)).trans (SB.of sn46)).trans sp47))) fun h => by rw [List.mem_singleton] at h; rw [h]; exact X46.mono sp47
      clear qn47
      exact kR _ _ ⟨_, rfl, f47, Nat.le_of_ble_eq_true rfl, O47, sb47⟩
    rintro _ H3 ⟨ws, rfl, hws, wl, O3, sb3⟩
    dsimp only
    have hb3 : H3 b = some (.tup (ns.map V.int)) := sb3 _ _ (sH _ _ hb) (ol hb)
    have done : ∀ (H' : Hp) (xs : List V), SB a5 H3 H' → H' a5 = some (.lst xs) → NdL a5 H' xs → Q (.ref a5) H' := fun H' xs s e o => kk a5 xs H' (fun c o e => s c o (sb3 c o (sH c o e) (ol e)) (ol e)) e fun w hw => (o w hw).at
    walk_at "go"
    refine U.g_lenL (Or.inr (SqT.of hb3)) ?_
    walk_at "go"
    rw [List.length_map]
    refine U.g_2 (fun c => ?_) (fun c => ?_)
    case refine_2 =>
      walk_at "go"
      exact done _ _ (SB.refl _ _) hws O3
    have c := of_decide_eq_true c
    walk_at "go"
    refine ⟨b, ns.map V.int, rfl, SqT.of hb3, ?_⟩
    refine lcI_by (ET.walk_enumT (K := K) (a := b) (xs := ns.map V.int)) (by rw [List.length_map]; omega) fun E0 nE => ⟨fun i acc H' => Same H3 H' ∧ TupL H' acc (((List.range i).map fun j : Nat => ((ns[j]?).getD 0, (j : Int))).map pairV), ⟨U.same_new nE, .nil⟩, fun i acc H' _ p => (SqT.of (p.1 _ _ hb3)), ?turn, fun acc H4 hE ⟨s1, t1⟩ => ?rest⟩
    case turn =>
      rintro i x acc H' H'' A B hi hacc ⟨s1, t1⟩ ⟨t, a1, a2, rfl, nt, rfl, e1, e2⟩ kA kB
      cases e1
      rw [List.length_map] at hi
      have e2 : (ns.map V.int)[i]? = some a2 := e2
      rw [List.getElem?_map, List.getElem?_eq_getElem hi] at e2
      cases e2
      walk_at "go"
      refine ⟨rfl, ?_⟩
      walk_at "go"
      refine ⟨by show 2 ≤ sizeLine; decide, fun q nq => ?_⟩
      have sT := U.same_new (o := .tup [.int (i : Int), .int ns[i]]) nt
      have sq := U.same_new (o := .tup [.int ns[i], .int (i : Int)]) nq
      refine kA _ _ (sq _ _ (sT _ _ hacc)) ⟨same_mut (s1.trans (sT.trans sq)) nE, ?_⟩
      have ts : TS H' (upd (upd (upd H' t (.tup [.int (i : Int), .int ns[i]])) q (.tup [.int ns[i], .int (i : Int)])) E0 (.lst (acc ++ [.ref q]))) := ((TS.of sT).trans (TS.of sq)).trans (TS.lst (sq _ _ (sT _ _ hacc)))
      rw [List.range_succ, List.map_append, List.map_append]
      refine prd_snoc (t1.mono ts) ⟨q, rfl, ?_⟩
      rw [upd_ne (ne_of upd_same (sq _ _ (sT _ _ hacc)) (by intro z; cases z)), upd_same]
      show some (HO.tup [V.int ns[i], V.int (i : Int)]) = some (HO.tup [V.int ((ns[i]?).getD 0), V.int (i : Int)])
      rw [List.getElem?_eq_getElem hi]
      rfl
    rw [List.length_map] at t1
    obtain ⟨q1, q2⟩ := key_prd t1
    walk_at "go"
    refine ⟨E0, acc, keyAt H4, rfl, SqL.of hE, q2, fun ys r so st nr => ?_⟩
    have ok := RowOk.of (ns := ns) q1 so st.perm
    have q3 : ∀ v ∈ ys, ∃ t, v = V.ref t ∧ H4 t = some (.tup [.int (keyAt H4 v).1, .int (keyAt H4 v).2]) := fun v hv => q2 v (st.perm.mem_iff.mp hv)
    have ly : ys.length = ns.length := by have := ok.len; rw [List.length_map] at this; exact this
    have sp := U.same_new (o := .lst ys) nr
    have hr5 : (upd H4 r (.lst ys)) r = some (.lst ys) := upd_same
    generalize upd H4 r (.lst ys) = H5 at sp hr5 ⊢
    have s5 := s1.trans sp
    walk_at "go"
    refine e_list (SqL.of hr5) ?_
    have fm : ∀ f : V → Int, ys.filterMap (fun v => some (V.int (f v))) = (ys.map f).map V.int := fun f => by rw [fm_some, List.map_map]; rfl
    refine lcI_list (SqL.of hr5) (by omega) (fun v => some (.int (keyAt H4 v).2)) (fun v H' A B hv s' kA kB => ?t1) fun la H6 nla s6 hla => ?c1
    case t1 =>
      obtain ⟨t, rfl, ht⟩ := q3 v hv
      have ht' := s' _ _ (sp _ _ ht)
      walk_at "go"
      refine ⟨rfl, ?_⟩
      walk_at "go"
      exact kA _ _ rfl (Same.refl _)
    rw [fm] at hla
    walk_at "go"
    refine U.g_sortI (SqL.of hla) fun qs l2 pq _ nl2 => ?_
    have s7 := U.same_new (o := .lst (qs.map V.int)) nl2
    have h7' : (upd H6 l2 (.lst (qs.map V.int))) l2 = some (.lst (qs.map V.int)) := upd_same
    generalize upd H6 l2 (.lst (qs.map V.int)) = H7 at s7 h7' ⊢
    walk_at "go"
    refine U.g_tupL (SqL.of h7') fun cr ncr => ?_
    have s8 := U.same_new (o := .tup (qs.map V.int)) ncr
    have hcr : (upd H7 cr (.tup (qs.map V.int))) cr = some (.tup (qs.map V.int)) := upd_same
    generalize upd H7 cr (.tup (qs.map V.int)) = H8 at s8 hcr ⊢
    have s38 : Same H3 H8 := s5.trans (s6.trans (s7.trans s8))
    obtain ⟨rw0, Rw⟩ := Row.ex ns
    walk_at "go"
    refine U.ty_lst (s38 _ _ hws) ?_
    walk_at "go"
    refine ⟨b, ns, rw0, rfl, Or.inr (SqT.of (s38 _ _ hb3)), by omega, by omega, Rw, fun H9 s9 => ?_⟩
    generalize cs (rowF rw0) 0 rw0.length = L9
    walk_at "go"
    refine ⟨Nat.le_of_ble_eq_true rfl, fun x1 nx1 => ?_⟩
    have t1' := U.same_new (o := .tup [.ref cr]) nx1
    have hx1 : (upd H9 x1 (.tup [.ref cr])) x1 = some (.tup [.ref cr]) := upd_same
    generalize upd H9 x1 (.tup [.ref cr]) = M1 at t1' hx1 ⊢
    have r5 : Same H5 M1 := s6.trans (s7.trans (s8.trans (s9.trans t1')))
    walk_at "go"
    obtain ⟨v, hv⟩ : ∃ v, ys[ns.length / 2]? = some v := ⟨_, List.getElem?_eq_getElem (by omega)⟩
    obtain ⟨tt, rfl, htt⟩ := q3 v (List.mem_of_getElem? hv)
    refine U.g_ix (Or.inl (SqL.of (r5 _ _ hr5))) (U.at_nat (show (ns.length : Int) / 2 = ((ns.length / 2 : Nat) : Int) by omega) hv) ?_
    walk_at "go"
    generalize (keyAt H4 (V.ref tt)).1 = k9 at *
    refine U.g_ix (v := .int k9) (Or.inr (SqT.of (r5 _ _ (sp _ _ htt)))) (atI_nat (j := 0) rfl) ?_
    walk_at "go"
    refine ⟨Nat.le_of_ble_eq_true rfl, fun x2 nx2 => ?_⟩
    have t2' := U.same_new (o := .tup [.int k9]) nx2
    have hx2 : (upd M1 x2 (.tup [.int k9])) x2 = some (.tup [.int k9]) := upd_same
    generalize upd M1 x2 (.tup [.int k9]) = M2 at t2' hx2 ⊢
    walk_at "go"
    refine ⟨Nat.le_of_ble_eq_true rfl, fun x3 nx3 => ?_⟩
    have t3' := U.same_new (o := .tup [.int L9, .ref x1, .ref x2]) nx3
    have hx3 : (upd M2 x3 (.tup [.int L9, .ref x1, .ref x2])) x3 = some (.tup [.int L9, .ref x1, .ref x2]) := upd_same
    generalize upd M2 x3 (.tup [.int L9, .ref x1, .ref x2]) = M3 at t3' hx3 ⊢
    have s3M : Same H3 M3 := s38.trans (s9.trans (t1'.trans (t2'.trans t3')))
    have fM := s3M _ _ hws
    have nt : ∀ {a : Addr} {xs : List V}, M3 a = some (.tup xs) → a ≠ a5 := fun e => ne_of e fM (by intro z; cases z)
    have hx1M := (t2'.trans t3') _ _ hx1
    have hx2M := t3' _ _ hx2
    have hcrM := (s9.trans (t1'.trans (t2'.trans t3'))) _ _ hcr
    have lq : qs.length ≤ 1000 := by rw [pq.length_eq, List.length_map]; omega
    have X : NdAv a5 M3 (.ref x3) := ⟨.trip L9 [qs] (some [k9]), x3, x1, x2, [.ref cr], rfl, nt hx3, nt hx1M, nt hx2M, hx3, hx1M, Nat.le_of_ble_eq_true rfl, .cons ⟨⟨cr, rfl, hcrM, plain_ints _, by rw [List.length_map]; exact lq⟩, fun a e => by cases e; exact nt hcrM⟩ .nil, hx2M, Nat.le_of_ble_eq_true rfl⟩
    walk_at "go"
    refine U.g_appL fM (by omega) ?_
    walk_at "go"
    exact done _ _ ((SB.of s3M).trans sb_put) upd_same fun w hw => (List.mem_append.mp hw).elim (fun h => (O3 w h).mono ((SB.of s3M).trans sb_put)) fun h => by rw [List.mem_singleton] at h; rw [h]; exact X.mono sb_put
end
end Toy

namespace Toy
open PySem L2 U M LM G
section
variable {P : Program} {w : World} {K : PySem.W.Frag} {mg : Str → Option Value} {base : Heap}
theorem sc__law_is_right : FnScope ["pot", "values", "least", "best", "told", "value", "due"] ["pot", "values", "least", "best"] (defScope s__law_is_right) := ⟨rfl, rfl, rfl, by decide +kernel, rfl, by decide +kernel, by decide +kernel⟩
def sp_isright : Sp := fun vs H Q _ => ∃ (p b : Addr) (ns row : List Int) (s : Nat), vs = [.ref p, .ref b, .int s, oV (F (cs (rowF row)) s row.length)] ∧ H b = some (.tup (ns.map V.int)) ∧ ns.length ≤ 200 ∧ inB ns ∧ Row ns row ∧ 1 ≤ s ∧ s ≤ 200 ∧ ∀ H', Same H H' → Q (.bl true) H'
theorem ok__law_is_right (T : Tx K mg) : FnG P w K mg base 6 T.a__law_is_right T.fd__law_is_right ["pot", "values", "least", "best"] sp_isright := by
  refine okG T.F__law_is_right sc__law_is_right (fun vs H Q E h => ?_) (fun cdv A outer s H vs Q E hr hgd h => ?_)
  · obtain ⟨p, b, ns, row, s, rfl, _⟩ := h
    rfl
  · obtain ⟨p, b, ns, row, s, rfl, hb, hl, hn, R, s1, s2, kk⟩ := h
    have hu := hu_of hr
    have hu64 := hr.units
    refine ⟨_, (pss_cons (ps_set (i := 4) sc__law_is_right.nd rfl (Or.inl rfl) (KW.pe_callK0 (ok_least_line T) (hr.mono (by decide)) (by rfl) T.m_least_line T.F_least_line.kp (KW.kb0 (ks := ["size", "values"]) T.F_least_line [1, 0] (fun _ _ _ _ _ _ us hl => match us, hl with | [_, _], _ => rfl)) pass0 (pk_cons (pv 2) (pk_cons (pv 1) pk_nil))))
        (pss_cons (ps_if (pt_not (pt_val (pe_call (ok__law_may_line T) (hr.mono (by decide)) rfl T.m__law_may_line T.F__law_may_line.kp (b__law_may_line T) .nil pass0 (pa_cons (pv 1) (pa_cons (pv 2) (pa_cons (pv 3) (pa_cons (pv 4) pa_nil))))))) (pss_one (ps_ret (pe_bl))) pss_nil)
        (pss_cons (ps_for PassesOwn.never rfl (u_list (K := K) rfl (pe_call (ok__law_near T) (hr.mono (by decide)) rfl T.m__law_near T.F__law_near.kp (b__law_near T) .nil pass0 (pa_cons (pv 0) (pa_cons (pv 1) (pa_cons (pv 4) pa_nil))))) (pg_name (i := 5) sc__law_is_right.nd rfl (Or.inl rfl)) (pss_cons (ps_set (i := 6) sc__law_is_right.nd rfl (Or.inl rfl) (pe_call (ok__law_may_line T) (hr.mono (by decide)) rfl T.m__law_may_line T.F__law_may_line.kp (b__law_may_line T) .nil pass0 (pa_cons (pv 1) (pa_cons (pv 2) (pa_cons (pv 3) (pa_cons (pv 5) pa_nil))))))
        (pss_one (ps_if (pt_cmpR (op_uNe (K := K) rfl hu64) (pe_callB (QD.call_rep (K := K) rfl hgd hu64) (by rfl) T.n_repr (by decide +kernel) (pa_cons (KW.pe_callK0 (ok_shows_line T) (hr.mono (by decide)) (by rfl) T.m_shows_line T.F_shows_line.kp (KW.kb0 (ks := ["value", "size", "values"]) T.F_shows_line [2, 1, 0] (fun _ _ _ _ _ _ us hl => match us, hl with | [_, _, _], _ => rfl)) pass0 (pk_cons (pv 5) (pk_cons (pv 2) (pk_cons (pv 1) pk_nil)))) pa_nil)) (pe_callB (QD.call_rep (K := K) rfl hgd hu64) (by rfl) T.n_repr (by decide +kernel) (pa_cons (pv 6) pa_nil)) (nomark _)) (pss_one (ps_ret (pe_bl))) pss_nil))))
        (pss_one (ps_ret (pe_bl)))))), ?_⟩
    walk_at "st"
    refine U.g_seq (U.g_asg (U.g_cut (fun v H1 => Same H H1 ∧ ToldAt H1 ns.length v ∧ ∃ d, NdAt H1 v d ∧ JP ns s (F (cs (rowF row)) s row.length) d) (fun R' kR => ?_) ?_))
    · walk_at "go"
      refine ⟨rfl, b, ns, row, s, rfl, hb, hl, hn, R, s1, s2, fun eF H1 sa => ?_, fun u eF t ca sa' cv nss sv H1 sa ht hca hcr hsa l1 l2 c1 c2 c3 bd => ?_⟩
      · exact kR _ _ ⟨sa, Or.inl rfl, .non, rfl, by rw [eF]; trivial⟩
      · refine kR _ _ ⟨sa, Or.inr ⟨t, ca, sa', cv, nss, sv, u, rfl, ht, hca, hcr, hsa, l1, l2, bd, fun ms hm => told_len c2 hm⟩, .trip u nss (some sv), ⟨t, ca, sa', rfl, ht, ⟨cv, hca, hcr, by omega⟩, hsa, by omega⟩, ?_⟩
        rw [eF]
        exact ⟨⟨nss, rfl, c1, c2⟩, l1, rfl, c3⟩
    rintro v H1 ⟨sa, told, d, hd, jp⟩
    walk_at "go"
    refine ⟨b, ns, s, _, v, d, rfl, sa _ _ hb, by omega, hd, fun c H2 sb hc => ?_⟩
    rw [hc.mpr jp]
    refine ⟨_, rfl, U.g_F ?_⟩
    walk_at "go"
    have s02 := sa.trans sb
    have told2 : ToldAt H2 ns.length v := by
      rcases told with h | ⟨t, ca, sa', cv, nss, sv, L, e, h1, h2, h3, h4, h5, h6, h7⟩
      · exact Or.inl h
      · exact Or.inr ⟨t, ca, sa', cv, nss, sv, L, e, sb _ _ h1, sb _ _ h2, crs_mono sb h3, sb _ _ h4, h5, h6, h7⟩
    refine ⟨p, b, ns, v, rfl, s02 _ _ hb, hl, told2, fun l ws H3 sc hl3 hw => ?_⟩
    have s03 := s02.trans sc
    refine e_list (SqL.of hl3) ?_
    refine forI_by (walk_list (K := K) (a := l) (xs := ws)) (fun j σ' H' => ∃ (v5 v6 : Option V), σ' = [some (.ref p), some (.ref b), some (.int (s : Int)), some (oV (F (cs (rowF row)) s row.length)), some v, v5, v6] ∧ Same H3 H') ⟨_, _, rfl, Same.refl _⟩ (fun j σ' H' _ ⟨_, _, _, s'⟩ => SqL.of (s' _ _ hl3)) ?os ?od
    case od =>
      rintro σ' H4 ⟨v5, v6, rfl, sd⟩
      walk_at "go"
      exact kk _ (s03.trans sd)
    case os =>
      rintro j x σ' _ H4 hj ⟨v5, v6, rfl, sd⟩ ⟨rfl, ex⟩
      obtain ⟨d', hd'⟩ := hw x (List.mem_of_getElem? ex)
      have hd4 := hd'.mono sd
      have hb4 := (s03.trans sd) _ _ hb
      walk_at "go"
      refine ⟨b, ns, s, _, x, d', rfl, hb4, by omega, hd4, fun c H5 se hc5 => ?_⟩
      walk_at "go"
      refine ⟨rfl, b, ns, row, s, x, d', rfl, se _ _ hb4, hl, hn, R, s1, s2, hd4.mono se, fun c2 H6 sf hc6 => ?_⟩
      have ecc : c = c2 := by
        cases c <;> cases c2
        · rfl
        · exact absurd (hc5.mpr (hc6.mp rfl)) Bool.false_ne_true
        · exact absurd (hc6.mpr (hc5.mp rfl)) Bool.false_ne_true
        · rfl
      subst ecc
      walk_at "go"
      refine rep_B ?_
      walk_at "go"
      refine rep_B ?_
      walk_at "go"
      refine ite_no (ne_refl _) ?_
      walk_at "go"
      exact ⟨_, _, rfl, sd.trans (se.trans sf)⟩
end
end Toy

namespace Toy
open PySem L2 U M LM G
section
variable {P : Program} {w : World} {K : PySem.W.Frag} {mg : Str → Option Value} {base : Heap}
theorem sc__law_right : FnScope ["pot", "values", "least", "best"] ["pot"] (defScope s__law_right) := ⟨rfl, rfl, rfl, by decide +kernel, rfl, by decide +kernel, by decide +kernel⟩
def sp_right : Sp := fun vs H Q _ => ∃ (p : Addr) (n : Nat), vs = [.ref p] ∧ PotAt H p (n + 1000) ∧ ∀ H', PotAt H' p n → SB p H H' → Q (.bl true) H'
theorem ok__law_right (T : Tx K mg) : FnG P w K mg base 7 T.a__law_right T.fd__law_right ["pot"] sp_right := by
  refine okG T.F__law_right sc__law_right (fun vs H Q E h => ?_) (fun cdv A outer s H vs Q E hr hgd h => ?_)
  · obtain ⟨p, n, rfl, _⟩ := h
    rfl
  · obtain ⟨p, n, rfl, hp, kk⟩ := h
    have hu := hu_of hr
    have hu64 := hr.units
    refine ⟨_, (pss_cons (ps_par rfl sc__law_right.nd (i := 1) (j := 2) rfl rfl (by decide) rfl rfl (pa_cons (pe_call (ok__law_line_values T) (hr.mono (by decide)) rfl T.m__law_line_values T.F__law_line_values.kp (b__law_line_values T) .nil pass0 (pa_cons (pv 0) (pa_cons (pe_int) pa_nil))) (pa_cons (pe_callTy call_uInt (by rfl) T.n_int (by decide +kernel) (pa_cons (pe_op (op_uAdd (K := K) rfl) (pe_int) (pe_call (ok__law_take T) (hr.mono (by decide)) rfl T.m__law_take T.F__law_take.kp (b__law_take T) .nil pass0 (pa_cons (pv 0) (pa_cons (pe_int) pa_nil)))) pa_nil)) pa_nil)) (by rfl))
        (pss_cons (ps_set (i := 3) sc__law_right.nd rfl (Or.inl rfl) (pe_call (ok__law_all_least T) (hr.mono (by decide)) rfl T.m__law_all_least T.F__law_all_least.kp (b__law_all_least T) .nil pass0 (pa_cons (pv 1) (pa_cons (pv 2) pa_nil))))
        (pss_cons (ps_if (PW.pt (pw_or (pt_cmpR (op_uNe (K := K) rfl hu64) (pv 3) (pe_call (ok__law_least T) (hr.mono (by decide)) rfl T.m__law_least T.F__law_least.kp (b__law_least T) .nil pass0 (pa_cons (pv 1) (pa_cons (pv 2) pa_nil))) (nomark _)) (pw_or1 (pt_not (pt_val (G.pe_callG (ok__law_is_right T) (hr.mono (by decide)) hgd rfl T.m__law_is_right T.F__law_is_right.kp (b__law_is_right T) .nil (pa_cons (pv 0) (pa_cons (pv 1) (pa_cons (pv 2) (pa_cons (pv 3) pa_nil)))))))))) (pss_one (ps_ret (pe_bl))) pss_nil)
        (pss_cons (ps_par rfl sc__law_right.nd (i := 1) (j := 2) rfl rfl (by decide) rfl rfl (pa_cons (pe_call (ok__law_line_values T) (hr.mono (by decide)) rfl T.m__law_line_values T.F__law_line_values.kp (b__law_line_values T) .nil pass0 (pa_cons (pv 0) (pa_cons (pe_int) pa_nil))) (pa_cons (pe_callTy call_uInt (by rfl) T.n_int (by decide +kernel) (pa_cons (pe_op (op_uAdd (K := K) rfl) (pe_int) (pe_call (ok__law_take T) (hr.mono (by decide)) rfl T.m__law_take T.F__law_take.kp (b__law_take T) .nil pass0 (pa_cons (pv 0) (pa_cons (pe_int) pa_nil)))) pa_nil)) pa_nil)) (by rfl))
        (pss_one (ps_ret (G.pe_callG (ok__law_is_right T) (hr.mono (by decide)) hgd rfl T.m__law_is_right T.F__law_is_right.kp (b__law_is_right T) .nil (pa_cons (pv 0) (pa_cons (pv 1) (pa_cons (pv 2) (pa_cons (pe_call (ok__law_least T) (hr.mono (by decide)) rfl T.m__law_least T.F__law_least.kp (b__law_least T) .nil pass0 (pa_cons (pv 1) (pa_cons (pv 2) pa_nil))) pa_nil))))))))))), ?_⟩
    walk_at "st"
    walk_at "go"
    refine ⟨p, 6, n + 900, rfl, by decide, hp.le (by omega), fun b ns H1 nb hb hl hn hp1 s1 => ?_⟩
    obtain ⟨row, R⟩ := Row.ex ns
    have bp : b ≠ p := by
      obtain ⟨_, _, _, q, _⟩ := hp1
      exact ne_of hb q (by intro z; cases z)
    walk_at "go"
    refine ⟨p, 4, n + 899, rfl, by decide, by decide, hp1.le (by omega), fun r H2 r0 r1 hp2 s2 => ?_⟩
    obtain ⟨k, ek⟩ : ∃ k : Nat, (k : Int) = 1 + r := ⟨(1 + r).toNat, by omega⟩
    have hb2 := s2 _ _ hb bp
    walk_at "go"
    rw [← ek]
    refine ⟨b, ns, row, k, rfl, hb2, hl, R, by omega, fun H3 s3 => ?_⟩
    walk_at "go"
    refine ⟨b, ns, row, k, rfl, Or.inr (SqT.of (s3 _ _ hb2)), by omega, R, by omega, by omega, fun H4 s4 => ?_⟩
    have s24 := s3.trans s4
    walk_at "go"
    refine Or.inl ⟨by cases F (cs (rowF row)) k row.length <;> rfl, ?_⟩
    refine ⟨_, rfl, ite_no (ne_refl _) ?_⟩
    walk_at "go"
    refine ⟨p, b, ns, row, k, rfl, s24 _ _ hb2, by omega, hn, R, by omega, by omega, fun H5 s5 => ?_⟩
    refine ⟨_, rfl, U.g_F ?_⟩
    have s25 := s24.trans s5
    have hp5 := hp2.same s25
    have sb5 := (s1.trans s2).trans (SB.of s25)
    walk_at "go"
    refine ⟨p, 24, n + 600, rfl, by decide, hp5.le (by omega), fun b' ns' H6 nb' hb' hl' hn' hp6 s6 => ?_⟩
    obtain ⟨row', R'⟩ := Row.ex ns'
    have bp' : b' ≠ p := by
      obtain ⟨_, _, _, q, _⟩ := hp6
      exact ne_of hb' q (by intro z; cases z)
    walk_at "go"
    refine ⟨p, 7, n + 599, rfl, by decide, by decide, hp6.le (by omega), fun r' H7 r0' r1' hp7 s7 => ?_⟩
    obtain ⟨k', ek'⟩ : ∃ k' : Nat, (k' : Int) = 1 + r' := ⟨(1 + r').toNat, by omega⟩
    have hb7 := s7 _ _ hb' bp'
    walk_at "go"
    rw [← ek']
    refine ⟨b', ns', row', k', rfl, Or.inr (SqT.of hb7), by omega, R', by omega, by omega, fun H8 s8 => ?_⟩
    walk_at "go"
    refine ⟨p, b', ns', row', k', rfl, s8 _ _ hb7, by omega, hn', R', by omega, by omega, fun H9 s9 => ?_⟩
    exact kk _ ((hp7.same (s8.trans s9)).le (by omega)) (((sb5.trans s6).trans s7).trans (SB.of (s8.trans s9)))
end
end Toy

namespace Toy
open PySem PySem.Spec PyProof.Rows L2 U M LM G QD KW
section
variable {P : Program} {w : World} {K : PySem.W.Frag} {mg : Str → Option Value} {base : Heap}
theorem sc_law : FnScope ["script", "place", "pot", "lap"] ["script"] (defScope s_law) := ⟨rfl, rfl, rfl, by decide +kernel, rfl, by decide +kernel, by decide +kernel⟩
def sp_law (K : PySem.W.Frag) : Sp := fun vs H Q _ => ∃ (a : Addr) (ns : List Int), vs = [.ref a] ∧ SqL K H a (ns.map V.int) ∧ ns.length ≤ 63 ∧ ∀ H', Q (.bl true) H'
theorem ok_law (T : Tx K mg) : FnG P w K mg base 8 T.a_law T.fd_law ["script"] (sp_law K) := by
  refine okG T.F_law sc_law (fun vs H Q E h => ?_) (fun cdv A outer s H vs Q E hr hgd h => ?_)
  · obtain ⟨a, ns, rfl, _⟩ := h
    rfl
  · obtain ⟨a, ns, rfl, ha, hl, kk⟩ := h
    have hu := hu_of hr
    have hu64 := hr.units
    refine ⟨_, (pss_cons (ps_for PassesOwn.never rfl (u_list (K := K) rfl (pe_call (ok__law_cells T) (hr.mono (by decide)) rfl T.m__law_cells T.F__law_cells.kp (b__law_cells T) .nil pass0 (pa_cons (pv 0) (pa_cons (pe_int) pa_nil)))) (pg_name (i := 1) sc_law.nd rfl (Or.inl rfl)) (pss_cons (ps_set (i := 2) sc_law.nd rfl (Or.inr rfl) (pe_call (ok__law_pot T) (hr.mono (by decide)) rfl T.m__law_pot T.F__law_pot.kp (b__law_pot T) .nil pass0 (pa_cons (pv 0) (pa_cons (pv 1) pa_nil))))
        (pss_one (ps_if (pt_not (pt_val (pe_callB (call_uAll (K := K) rfl rfl) (by rfl) T.n_all (by decide +kernel) (pa_cons (pe_lc rfl sc_law.nd (pi_range1 (by rfl) T.n_range (pa_cons (pe_int) pa_nil)) (blkOk_by (own := [("lap", 3)]) (N := ["script", "place", "pot", "lap"]) (sc := defScope s_law) (by decide +kernel)) (fun _ _ _ _ _ => (pg_name (i := 3) sc_law.nd rfl (Or.inl rfl))) (fun _ _ _ _ _ => pts_nil) (fun _ _ _ _ _ => (G.pe_callG (ok__law_right T) (hr.mono (by decide)) hgd rfl T.m__law_right T.F__law_right.kp (b__law_right T) .nil (pa_cons (pv 2) pa_nil)))) pa_nil)))) (pss_one (ps_ret (pe_bl))) pss_nil))))
        (pss_one (ps_ret (pe_bl)))), ?_⟩
    walk_at "st"
    walk_at "go"
    refine ⟨a, ns, 2, rfl, ha, hl, by decide, by decide, fun q c nq c1 c2 => ?_⟩
    have sq := U.same_new (o := .lst (rgV 0 c)) nq
    have rl : (rgV 0 c).length = c := by simp [rgV]
    have hq : (upd H q (.lst (rgV 0 c))) q = some (.lst (rgV 0 c)) := upd_same
    generalize upd H q (.lst (rgV 0 c)) = H1 at sq hq ⊢
    refine e_list (SqL.of hq) ?_
    refine forI_by (walk_list (K := K) (a := q) (xs := rgV 0 c)) (fun i σ' H' => ∃ (v1 v2 v3 : Option V), σ' = [some (.ref a), v1, v2, v3] ∧ Same H1 H') ⟨none, none, none, rfl, Same.refl _⟩ (fun i σ' H' _ ⟨_, _, _, _, s⟩ => SqL.of (s _ _ hq)) ?ts ?td
    case td =>
      rintro σ' H' ⟨v1, v2, v3, rfl, s'⟩
      walk_at "go"
      exact kk _
    case ts =>
      rintro i y σ' _ H' hi ⟨v1, v2, v3, rfl, s'⟩ ⟨rfl, ey⟩
      obtain ⟨z, z0, z1, rfl⟩ : ∃ z : Int, 0 ≤ z ∧ z ≤ 100 ∧ y = .int z := by
        have hx := List.mem_of_getElem? ey
        simp only [rgV, List.mem_map, List.mem_range] at hx
        obtain ⟨j, hj, rfl⟩ := hx
        exact ⟨_, by omega, by omega, rfl⟩
      walk_at "go"
      refine ⟨a, ns, z, rfl, (sq.trans s').seq ha, z0, z1, fun p H3 np s3 pot => ?_⟩
      walk_at "go"
      refine e_rng (by omega) (by omega) ?_
      refine lcI_by walk_range (by decide) fun Ea nE => ⟨fun i acc H5 => acc = ((List.range i).map fun _ => true).map V.bl ∧ PotAt H5 p (900000 - 1001 * i) ∧ SB p H3 H5, ⟨rfl, (pot.new nE).le (by omega), SB.of (U.same_new nE)⟩, fun _ _ _ _ _ => trivial, ?turn, fun acc H5 hE ⟨e, pot5, s5⟩ => ?rest⟩
      case turn =>
        rintro i x acc H5 _ A B hi hE ⟨rfl, pot5, s5⟩ ⟨rfl, rfl⟩ kA kB
        have hi : i < 2 := by omega
        have Ep : Ea ≠ p := pot_ne pot nE
        walk_at "go"
        refine ⟨rfl, ?_⟩
        walk_at "go"
        refine ⟨p, 900000 - 1001 * (i + 1), rfl, pot5.le (by omega), fun H6 pot6 s6 => ?_⟩
        refine kA _ _ (s6 _ _ hE Ep) ⟨?_, pot6.put (Ne.symm Ep), (s5.trans s6).mut nE⟩
        rw [List.range_succ, List.map_append, List.map_append]
        rfl
      case rest =>
        subst e
        walk_at "go"
        refine U.g_allB (SqL.of hE) ?_
        rw [show (((List.range (2 : Int).toNat).map fun _ => true).all id) = true by decide]
        walk_at "go"
        exact ⟨_, _, _, rfl, fun c o e => s5 c o (s3 c o (s' c o e)) (ne_of_none (s' c o e) np)⟩
end
end Toy

namespace Toy
open PySem PySem.Spec L2 U M QD G
def mkoB (K : PySem.W.Frag) (C : Addr) : Bool := PySem.W.makesIn K C && (He.eqO (PySem.W.findIn K (.ref C) "__init__") (some (some (.builtin "object.__init__"))) && PySem.W.keepIn K (.ref C))
theorem mkoB_ok {K : PySem.W.Frag} {C : Addr} (h : mkoB K C = true) : ZV.MkO K C := ⟨(He.ba h).1, He.eqO_ok (He.ba (He.ba h).2).1, (He.ba (He.ba h).2).2⟩
def d_CrowdError___init__ : He.FnD := ⟨("CrowdError", some "__init__"), "__init__", "CrowdError.__init__", defArgs s_CrowdError___init__, defBody s_CrowdError___init__, defScope s_CrowdError___init__⟩
def d_is_integer : He.FnD := ⟨("is_integer", none), "is_integer", "is_integer", defArgs s_is_integer, defBody s_is_integer, defScope s_is_integer⟩
def d_is_number_below : He.FnD := ⟨("is_number_below", none), "is_number_below", "is_number_below", defArgs s_is_number_below, defBody s_is_number_below, defScope s_is_number_below⟩
def d_is_ascending : He.FnD := ⟨("is_ascending", none), "is_ascending", "is_ascending", defArgs s_is_ascending, defBody s_is_ascending, defScope s_is_ascending⟩
def d_is_lot_below : He.FnD := ⟨("is_lot_below", none), "is_lot_below", "is_lot_below", defArgs s_is_lot_below, defBody s_is_lot_below, defScope s_is_lot_below⟩
def d_is_tuple_of : He.FnD := ⟨("is_tuple_of", none), "is_tuple_of", "is_tuple_of", defArgs s_is_tuple_of, defBody s_is_tuple_of, defScope s_is_tuple_of⟩
def d_is_line_value : He.FnD := ⟨("is_line_value", none), "is_line_value", "is_line_value", defArgs s_is_line_value, defBody s_is_line_value, defScope s_is_line_value⟩
def d_Ladder___init__ : He.FnD := ⟨("Ladder", some "__init__"), "__init__", "Ladder.__init__", defArgs s_Ladder___init__, defBody s_Ladder___init__, defScope s_Ladder___init__⟩
def d_Ladder_loss : He.FnD := ⟨("Ladder", some "loss"), "loss", "Ladder.loss", defArgs s_Ladder_loss, defBody s_Ladder_loss, defScope s_Ladder_loss⟩
def d_Ladder_middles : He.FnD := ⟨("Ladder", some "middles"), "middles", "Ladder.middles", defArgs s_Ladder_middles, defBody s_Ladder_middles, defScope s_Ladder_middles⟩
def d_Ladder_first_losses : He.FnD := ⟨("Ladder", some "first_losses"), "first_losses", "Ladder.first_losses", defArgs s_Ladder_first_losses, defBody s_Ladder_first_losses, defScope s_Ladder_first_losses⟩
def d_Ladder_least_stretches : He.FnD := ⟨("Ladder", some "least_stretches"), "least_stretches", "Ladder.least_stretches", defArgs s_Ladder_least_stretches, defBody s_Ladder_least_stretches, defScope s_Ladder_least_stretches⟩
def d_Ladder_crowd : He.FnD := ⟨("Ladder", some "crowd"), "crowd", "Ladder.crowd", defArgs s_Ladder_crowd, defBody s_Ladder_crowd, defScope s_Ladder_crowd⟩
def d_ladder_of : He.FnD := ⟨("ladder_of", none), "ladder_of", "ladder_of", defArgs s_ladder_of, defBody s_ladder_of, defScope s_ladder_of⟩
def d_sized_ladder : He.FnD := ⟨("sized_ladder", none), "sized_ladder", "sized_ladder", defArgs s_sized_ladder, defBody s_sized_ladder, defScope s_sized_ladder⟩
def d_has_crowds : He.FnD := ⟨("has_crowds", none), "has_crowds", "has_crowds", defArgs s_has_crowds, defBody s_has_crowds, defScope s_has_crowds⟩
def d_parts_places : He.FnD := ⟨("parts_places", none), "parts_places", "parts_places", defArgs s_parts_places, defBody s_parts_places, defScope s_parts_places⟩
def d_are_shown : He.FnD := ⟨("are_shown", none), "are_shown", "are_shown", defArgs s_are_shown, defBody s_are_shown, defScope s_are_shown⟩
def d_loss_shown : He.FnD := ⟨("loss_shown", none), "loss_shown", "loss_shown", defArgs s_loss_shown, defBody s_loss_shown, defScope s_loss_shown⟩
def d_least_line : He.FnD := ⟨("least_line", none), "least_line", "least_line", defArgs s_least_line, defBody s_least_line, defScope s_least_line⟩
def d_shows_line : He.FnD := ⟨("shows_line", none), "shows_line", "shows_line", defArgs s_shows_line, defBody s_shows_line, defScope s_shows_line⟩
def d__law_pot : He.FnD := ⟨("_law_pot", none), "_law_pot", "_law_pot", defArgs s__law_pot, defBody s__law_pot, defScope s__law_pot⟩
def d__law_take : He.FnD := ⟨("_law_take", none), "_law_take", "_law_take", defArgs s__law_take, defBody s__law_take, defScope s__law_take⟩
def d__law_of : He.FnD := ⟨("_law_of", none), "_law_of", "_law_of", defArgs s__law_of, defBody s__law_of, defScope s__law_of⟩
def d__law_cells : He.FnD := ⟨("_law_cells", none), "_law_cells", "_law_cells", defArgs s__law_cells, defBody s__law_cells, defScope s__law_cells⟩
def d__law_line_values : He.FnD := ⟨("_law_line_values", none), "_law_line_values", "_law_line_values", defArgs s__law_line_values, defBody s__law_line_values, defScope s__law_line_values⟩
def d__law_crowd_cost : He.FnD := ⟨("_law_crowd_cost", none), "_law_crowd_cost", "_law_crowd_cost", defArgs s__law_crowd_cost, defBody s__law_crowd_cost, defScope s__law_crowd_cost⟩
def d__law_cut_costs : He.FnD := ⟨("_law_cut_costs", none), "_law_cut_costs", "_law_cut_costs", defArgs s__law_cut_costs, defBody s__law_cut_costs, defScope s__law_cut_costs⟩
def d__law_least : He.FnD := ⟨("_law_least", none), "_law_least", "_law_least", defArgs s__law_least, defBody s__law_least, defScope s__law_least⟩
def d__law_partings : He.FnD := ⟨("_law_partings", none), "_law_partings", "_law_partings", defArgs s__law_partings, defBody s__law_partings, defScope s__law_partings⟩
def d__law_is_int : He.FnD := ⟨("_law_is_int", none), "_law_is_int", "_law_is_int", defArgs s__law_is_int, defBody s__law_is_int, defScope s__law_is_int⟩
def d__law_are_crowds : He.FnD := ⟨("_law_are_crowds", none), "_law_are_crowds", "_law_are_crowds", defArgs s__law_are_crowds, defBody s__law_are_crowds, defScope s__law_are_crowds⟩
def d__law_loss : He.FnD := ⟨("_law_loss", none), "_law_loss", "_law_loss", defArgs s__law_loss, defBody s__law_loss, defScope s__law_loss⟩
def d__law_may_line : He.FnD := ⟨("_law_may_line", none), "_law_may_line", "_law_may_line", defArgs s__law_may_line, defBody s__law_may_line, defScope s__law_may_line⟩
def d__law_all_least : He.FnD := ⟨("_law_all_least", none), "_law_all_least", "_law_all_least", defArgs s__law_all_least, defBody s__law_all_least, defScope s__law_all_least⟩
def d__law_near : He.FnD := ⟨("_law_near", none), "_law_near", "_law_near", defArgs s__law_near, defBody s__law_near, defScope s__law_near⟩
def d__law_is_right : He.FnD := ⟨("_law_is_right", none), "_law_is_right", "_law_is_right", defArgs s__law_is_right, defBody s__law_is_right, defScope s__law_is_right⟩
def d__law_right : He.FnD := ⟨("_law_right", none), "_law_right", "_law_right", defArgs s__law_right, defBody s__law_right, defScope s__law_right⟩
def d_law : He.FnD := ⟨("law", none), "law", "law", defArgs s_law, defBody s_law, defScope s_law⟩
def fnL : List He.FnD := [d_CrowdError___init__, d_is_integer, d_is_number_below, d_is_ascending, d_is_lot_below, d_is_tuple_of, d_is_line_value, d_Ladder___init__, d_Ladder_loss, d_Ladder_middles, d_Ladder_first_losses, d_Ladder_least_stretches, d_Ladder_crowd, d_ladder_of, d_sized_ladder, d_has_crowds, d_parts_places, d_are_shown, d_loss_shown, d_least_line, d_shows_line, d__law_pot, d__law_take, d__law_of, d__law_cells, d__law_line_values, d__law_crowd_cost, d__law_cut_costs, d__law_least, d__law_partings, d__law_is_int, d__law_are_crowds, d__law_loss, d__law_may_line, d__law_all_least, d__law_near, d__law_is_right, d__law_right, d_law]
def faL : List He.Fa := [.glo "is_integer", .glo "is_number_below", .glo "is_ascending", .glo "is_lot_below", .glo "is_tuple_of", .glo "is_line_value", .glo "ladder_of", .glo "sized_ladder", .glo "has_crowds", .glo "parts_places", .glo "are_shown", .glo "loss_shown", .glo "least_line", .glo "shows_line", .glo "_law_pot", .glo "_law_take", .glo "_law_of", .glo "_law_cells", .glo "_law_line_values", .glo "_law_crowd_cost", .glo "_law_cut_costs", .glo "_law_least", .glo "_law_partings", .glo "_law_is_int", .glo "_law_are_crowds", .glo "_law_loss", .glo "_law_may_line", .glo "_law_all_least", .glo "_law_near", .glo "_law_is_right", .glo "_law_right", .glo "law", .int "FARTHEST" 1000000, .int "MOST_SIZE" 200, .int "MOST_VALUES" 200, .free "abs", .free "all", .free "bool", .free "enumerate", .free "int", .free "isinstance", .free "len", .free "list", .free "max", .free "min", .free "range", .free "repr", .free "sorted", .free "sum", .free "tuple", .free "zip", .glo "Ladder", .cls "Ladder", .mkr "Ladder", .meth "Ladder" "loss", .meth "Ladder" "middles", .meth "Ladder" "first_losses", .meth "Ladder" "least_stretches", .meth "Ladder" "crowd", .noat "Ladder" "ascending", .noat "Ladder" "places", .noat "Ladder" "sums"]
def nmL : List Str := (["Ladder", "is_integer", "is_number_below", "is_ascending", "is_lot_below", "is_tuple_of", "is_line_value", "ladder_of", "sized_ladder", "has_crowds", "parts_places", "are_shown", "loss_shown", "least_line", "shows_line", "_law_pot", "_law_take", "_law_of", "_law_cells", "_law_line_values", "_law_crowd_cost", "_law_cut_costs", "_law_least", "_law_partings", "_law_is_int", "_law_are_crowds", "_law_loss", "_law_may_line", "_law_all_least", "_law_near"] : List Str) ++ (["_law_is_right", "_law_right", "law", "FARTHEST", "MOST_SIZE", "MOST_VALUES", "CrowdError"] : List Str)
def xB (K : PySem.W.Frag) : Bool := (fnL.all fun d => PySem.W.keepIn K (.ref (He.fAd K d.at_)))
theorem mk_TxX {K : PySem.W.Frag} {mg : Str → Option Value} {h : Heap} (X : K.In h) (G : h.Ns mainGlobals mg) (c : He.SaysE faL fnL K) (x : xB K = true) : Nonempty (Tx K mg) := by
  have x1 := x
  have kk : ∀ (i : Nat) {d : He.FnD}, fnL[i]? = some d → PySem.W.keepIn K (.ref (He.fAd K d.at_)) = true := fun i d h => List.all_eq_true.mp x1 d (List.mem_of_getElem? h)
  obtain ⟨oc0, od0, sl0, kV0, dc0, pm0, an0, cd0, ct0, l0, c0⟩ := c.def_ 0 (d := d_CrowdError___init__) rfl
  obtain ⟨oc1, od1, sl1, kV1, dc1, pm1, an1, cd1, ct1, l1, c1⟩ := c.def_ 1 (d := d_is_integer) rfl
  obtain ⟨oc2, od2, sl2, kV2, dc2, pm2, an2, cd2, ct2, l2, c2⟩ := c.def_ 2 (d := d_is_number_below) rfl
  obtain ⟨oc3, od3, sl3, kV3, dc3, pm3, an3, cd3, ct3, l3, c3⟩ := c.def_ 3 (d := d_is_ascending) rfl
  obtain ⟨oc4, od4, sl4, kV4, dc4, pm4, an4, cd4, ct4, l4, c4⟩ := c.def_ 4 (d := d_is_lot_below) rfl
  obtain ⟨oc5, od5, sl5, kV5, dc5, pm5, an5, cd5, ct5, l5, c5⟩ := c.def_ 5 (d := d_is_tuple_of) rfl
  obtain ⟨oc6, od6, sl6, kV6, dc6, pm6, an6, cd6, ct6, l6, c6⟩ := c.def_ 6 (d := d_is_line_value) rfl
  obtain ⟨oc7, od7, sl7, kV7, dc7, pm7, an7, cd7, ct7, l7, c7⟩ := c.def_ 7 (d := d_Ladder___init__) rfl
  obtain ⟨oc8, od8, sl8, kV8, dc8, pm8, an8, cd8, ct8, l8, c8⟩ := c.def_ 8 (d := d_Ladder_loss) rfl
  obtain ⟨oc9, od9, sl9, kV9, dc9, pm9, an9, cd9, ct9, l9, c9⟩ := c.def_ 9 (d := d_Ladder_middles) rfl
  obtain ⟨oc10, od10, sl10, kV10, dc10, pm10, an10, cd10, ct10, l10, c10⟩ := c.def_ 10 (d := d_Ladder_first_losses) rfl
  obtain ⟨oc11, od11, sl11, kV11, dc11, pm11, an11, cd11, ct11, l11, c11⟩ := c.def_ 11 (d := d_Ladder_least_stretches) rfl
  obtain ⟨oc12, od12, sl12, kV12, dc12, pm12, an12, cd12, ct12, l12, c12⟩ := c.def_ 12 (d := d_Ladder_crowd) rfl
  obtain ⟨oc13, od13, sl13, kV13, dc13, pm13, an13, cd13, ct13, l13, c13⟩ := c.def_ 13 (d := d_ladder_of) rfl
  obtain ⟨oc14, od14, sl14, kV14, dc14, pm14, an14, cd14, ct14, l14, c14⟩ := c.def_ 14 (d := d_sized_ladder) rfl
  obtain ⟨oc15, od15, sl15, kV15, dc15, pm15, an15, cd15, ct15, l15, c15⟩ := c.def_ 15 (d := d_has_crowds) rfl
  obtain ⟨oc16, od16, sl16, kV16, dc16, pm16, an16, cd16, ct16, l16, c16⟩ := c.def_ 16 (d := d_parts_places) rfl
  obtain ⟨oc17, od17, sl17, kV17, dc17, pm17, an17, cd17, ct17, l17, c17⟩ := c.def_ 17 (d := d_are_shown) rfl
  obtain ⟨oc18, od18, sl18, kV18, dc18, pm18, an18, cd18, ct18, l18, c18⟩ := c.def_ 18 (d := d_loss_shown) rfl
  obtain ⟨oc19, od19, sl19, kV19, dc19, pm19, an19, cd19, ct19, l19, c19⟩ := c.def_ 19 (d := d_least_line) rfl
  obtain ⟨oc20, od20, sl20, kV20, dc20, pm20, an20, cd20, ct20, l20, c20⟩ := c.def_ 20 (d := d_shows_line) rfl
  obtain ⟨oc21, od21, sl21, kV21, dc21, pm21, an21, cd21, ct21, l21, c21⟩ := c.def_ 21 (d := d__law_pot) rfl
  obtain ⟨oc22, od22, sl22, kV22, dc22, pm22, an22, cd22, ct22, l22, c22⟩ := c.def_ 22 (d := d__law_take) rfl
  obtain ⟨oc23, od23, sl23, kV23, dc23, pm23, an23, cd23, ct23, l23, c23⟩ := c.def_ 23 (d := d__law_of) rfl
  obtain ⟨oc24, od24, sl24, kV24, dc24, pm24, an24, cd24, ct24, l24, c24⟩ := c.def_ 24 (d := d__law_cells) rfl
  obtain ⟨oc25, od25, sl25, kV25, dc25, pm25, an25, cd25, ct25, l25, c25⟩ := c.def_ 25 (d := d__law_line_values) rfl
  obtain ⟨oc26, od26, sl26, kV26, dc26, pm26, an26, cd26, ct26, l26, c26⟩ := c.def_ 26 (d := d__law_crowd_cost) rfl
  obtain ⟨oc27, od27, sl27, kV27, dc27, pm27, an27, cd27, ct27, l27, c27⟩ := c.def_ 27 (d := d__law_cut_costs) rfl
  obtain ⟨oc28, od28, sl28, kV28, dc28, pm28, an28, cd28, ct28, l28, c28⟩ := c.def_ 28 (d := d__law_least) rfl
  obtain ⟨oc29, od29, sl29, kV29, dc29, pm29, an29, cd29, ct29, l29, c29⟩ := c.def_ 29 (d := d__law_partings) rfl
  obtain ⟨oc30, od30, sl30, kV30, dc30, pm30, an30, cd30, ct30, l30, c30⟩ := c.def_ 30 (d := d__law_is_int) rfl
  obtain ⟨oc31, od31, sl31, kV31, dc31, pm31, an31, cd31, ct31, l31, c31⟩ := c.def_ 31 (d := d__law_are_crowds) rfl
  obtain ⟨oc32, od32, sl32, kV32, dc32, pm32, an32, cd32, ct32, l32, c32⟩ := c.def_ 32 (d := d__law_loss) rfl
  obtain ⟨oc33, od33, sl33, kV33, dc33, pm33, an33, cd33, ct33, l33, c33⟩ := c.def_ 33 (d := d__law_may_line) rfl
  obtain ⟨oc34, od34, sl34, kV34, dc34, pm34, an34, cd34, ct34, l34, c34⟩ := c.def_ 34 (d := d__law_all_least) rfl
  obtain ⟨oc35, od35, sl35, kV35, dc35, pm35, an35, cd35, ct35, l35, c35⟩ := c.def_ 35 (d := d__law_near) rfl
  obtain ⟨oc36, od36, sl36, kV36, dc36, pm36, an36, cd36, ct36, l36, c36⟩ := c.def_ 36 (d := d__law_is_right) rfl
  obtain ⟨oc37, od37, sl37, kV37, dc37, pm37, an37, cd37, ct37, l37, c37⟩ := c.def_ 37 (d := d__law_right) rfl
  obtain ⟨oc38, od38, sl38, kV38, dc38, pm38, an38, cd38, ct38, l38, c38⟩ := c.def_ 38 (d := d_law) rfl
  exact ⟨{
    a_CrowdError___init__ := He.fAd K ("CrowdError", some "__init__"), fd_CrowdError___init__ := _, F_CrowdError___init__ := fun_mk (st := s_CrowdError___init__) l0 c0 (kk 0 (d := d_CrowdError___init__) rfl),
    a_is_integer := He.fAd K ("is_integer", none), fd_is_integer := _, F_is_integer := fun_mk (st := s_is_integer) l1 c1 (kk 1 (d := d_is_integer) rfl),
    m_is_integer := He.glo_ok X G (c.fact 0 (f := .glo "is_integer") rfl),
    a_is_number_below := He.fAd K ("is_number_below", none), fd_is_number_below := _, F_is_number_below := fun_mk (st := s_is_number_below) l2 c2 (kk 2 (d := d_is_number_below) rfl),
    m_is_number_below := He.glo_ok X G (c.fact 1 (f := .glo "is_number_below") rfl),
    a_is_ascending := He.fAd K ("is_ascending", none), fd_is_ascending := _, F_is_ascending := fun_mk (st := s_is_ascending) l3 c3 (kk 3 (d := d_is_ascending) rfl),
    m_is_ascending := He.glo_ok X G (c.fact 2 (f := .glo "is_ascending") rfl),
    a_is_lot_below := He.fAd K ("is_lot_below", none), fd_is_lot_below := _, F_is_lot_below := fun_mk (st := s_is_lot_below) l4 c4 (kk 4 (d := d_is_lot_below) rfl),
    m_is_lot_below := He.glo_ok X G (c.fact 3 (f := .glo "is_lot_below") rfl),
    a_is_tuple_of := He.fAd K ("is_tuple_of", none), fd_is_tuple_of := _, F_is_tuple_of := fun_mk (st := s_is_tuple_of) l5 c5 (kk 5 (d := d_is_tuple_of) rfl),
    m_is_tuple_of := He.glo_ok X G (c.fact 4 (f := .glo "is_tuple_of") rfl),
    a_is_line_value := He.fAd K ("is_line_value", none), fd_is_line_value := _, F_is_line_value := fun_mk (st := s_is_line_value) l6 c6 (kk 6 (d := d_is_line_value) rfl),
    m_is_line_value := He.glo_ok X G (c.fact 5 (f := .glo "is_line_value") rfl),
    a_Ladder___init__ := He.fAd K ("Ladder", some "__init__"), fd_Ladder___init__ := _, F_Ladder___init__ := fun_mk (st := s_Ladder___init__) l7 c7 (kk 7 (d := d_Ladder___init__) rfl),
    a_Ladder_loss := He.fAd K ("Ladder", some "loss"), fd_Ladder_loss := _, F_Ladder_loss := fun_mk (st := s_Ladder_loss) l8 c8 (kk 8 (d := d_Ladder_loss) rfl),
    a_Ladder_middles := He.fAd K ("Ladder", some "middles"), fd_Ladder_middles := _, F_Ladder_middles := fun_mk (st := s_Ladder_middles) l9 c9 (kk 9 (d := d_Ladder_middles) rfl),
    a_Ladder_first_losses := He.fAd K ("Ladder", some "first_losses"), fd_Ladder_first_losses := _, F_Ladder_first_losses := fun_mk (st := s_Ladder_first_losses) l10 c10 (kk 10 (d := d_Ladder_first_losses) rfl),
    a_Ladder_least_stretches := He.fAd K ("Ladder", some "least_stretches"), fd_Ladder_least_stretches := _, F_Ladder_least_stretches := fun_mk (st := s_Ladder_least_stretches) l11 c11 (kk 11 (d := d_Ladder_least_stretches) rfl),
    a_Ladder_crowd := He.fAd K ("Ladder", some "crowd"), fd_Ladder_crowd := _, F_Ladder_crowd := fun_mk (st := s_Ladder_crowd) l12 c12 (kk 12 (d := d_Ladder_crowd) rfl),
    a_ladder_of := He.fAd K ("ladder_of", none), fd_ladder_of := _, F_ladder_of := fun_mk (st := s_ladder_of) l13 c13 (kk 13 (d := d_ladder_of) rfl),
    m_ladder_of := He.glo_ok X G (c.fact 6 (f := .glo "ladder_of") rfl),
    a_sized_ladder := He.fAd K ("sized_ladder", none), fd_sized_ladder := _, F_sized_ladder := fun_mk (st := s_sized_ladder) l14 c14 (kk 14 (d := d_sized_ladder) rfl),
    m_sized_ladder := He.glo_ok X G (c.fact 7 (f := .glo "sized_ladder") rfl),
    a_has_crowds := He.fAd K ("has_crowds", none), fd_has_crowds := _, F_has_crowds := fun_mk (st := s_has_crowds) l15 c15 (kk 15 (d := d_has_crowds) rfl),
    m_has_crowds := He.glo_ok X G (c.fact 8 (f := .glo "has_crowds") rfl),
    a_parts_places := He.fAd K ("parts_places", none), fd_parts_places := _, F_parts_places := fun_mk (st := s_parts_places) l16 c16 (kk 16 (d := d_parts_places) rfl),
    m_parts_places := He.glo_ok X G (c.fact 9 (f := .glo "parts_places") rfl),
    a_are_shown := He.fAd K ("are_shown", none), fd_are_shown := _, F_are_shown := fun_mk (st := s_are_shown) l17 c17 (kk 17 (d := d_are_shown) rfl),
    m_are_shown := He.glo_ok X G (c.fact 10 (f := .glo "are_shown") rfl),
    a_loss_shown := He.fAd K ("loss_shown", none), fd_loss_shown := _, F_loss_shown := fun_mk (st := s_loss_shown) l18 c18 (kk 18 (d := d_loss_shown) rfl),
    m_loss_shown := He.glo_ok X G (c.fact 11 (f := .glo "loss_shown") rfl),
    a_least_line := He.fAd K ("least_line", none), fd_least_line := _, F_least_line := fun_mk (st := s_least_line) l19 c19 (kk 19 (d := d_least_line) rfl),
    m_least_line := He.glo_ok X G (c.fact 12 (f := .glo "least_line") rfl),
    a_shows_line := He.fAd K ("shows_line", none), fd_shows_line := _, F_shows_line := fun_mk (st := s_shows_line) l20 c20 (kk 20 (d := d_shows_line) rfl),
    m_shows_line := He.glo_ok X G (c.fact 13 (f := .glo "shows_line") rfl),
    a__law_pot := He.fAd K ("_law_pot", none), fd__law_pot := _, F__law_pot := fun_mk (st := s__law_pot) l21 c21 (kk 21 (d := d__law_pot) rfl),
    m__law_pot := He.glo_ok X G (c.fact 14 (f := .glo "_law_pot") rfl),
    a__law_take := He.fAd K ("_law_take", none), fd__law_take := _, F__law_take := fun_mk (st := s__law_take) l22 c22 (kk 22 (d := d__law_take) rfl),
    m__law_take := He.glo_ok X G (c.fact 15 (f := .glo "_law_take") rfl),
    a__law_of := He.fAd K ("_law_of", none), fd__law_of := _, F__law_of := fun_mk (st := s__law_of) l23 c23 (kk 23 (d := d__law_of) rfl),
    m__law_of := He.glo_ok X G (c.fact 16 (f := .glo "_law_of") rfl),
    a__law_cells := He.fAd K ("_law_cells", none), fd__law_cells := _, F__law_cells := fun_mk (st := s__law_cells) l24 c24 (kk 24 (d := d__law_cells) rfl),
    m__law_cells := He.glo_ok X G (c.fact 17 (f := .glo "_law_cells") rfl),
    a__law_line_values := He.fAd K ("_law_line_values", none), fd__law_line_values := _, F__law_line_values := fun_mk (st := s__law_line_values) l25 c25 (kk 25 (d := d__law_line_values) rfl),
    m__law_line_values := He.glo_ok X G (c.fact 18 (f := .glo "_law_line_values") rfl),
    a__law_crowd_cost := He.fAd K ("_law_crowd_cost", none), fd__law_crowd_cost := _, F__law_crowd_cost := fun_mk (st := s__law_crowd_cost) l26 c26 (kk 26 (d := d__law_crowd_cost) rfl),
    m__law_crowd_cost := He.glo_ok X G (c.fact 19 (f := .glo "_law_crowd_cost") rfl),
    a__law_cut_costs := He.fAd K ("_law_cut_costs", none), fd__law_cut_costs := _, F__law_cut_costs := fun_mk (st := s__law_cut_costs) l27 c27 (kk 27 (d := d__law_cut_costs) rfl),
    m__law_cut_costs := He.glo_ok X G (c.fact 20 (f := .glo "_law_cut_costs") rfl),
    a__law_least := He.fAd K ("_law_least", none), fd__law_least := _, F__law_least := fun_mk (st := s__law_least) l28 c28 (kk 28 (d := d__law_least) rfl),
    m__law_least := He.glo_ok X G (c.fact 21 (f := .glo "_law_least") rfl),
    a__law_partings := He.fAd K ("_law_partings", none), fd__law_partings := _, F__law_partings := fun_mk (st := s__law_partings) l29 c29 (kk 29 (d := d__law_partings) rfl),
    m__law_partings := He.glo_ok X G (c.fact 22 (f := .glo "_law_partings") rfl),
    a__law_is_int := He.fAd K ("_law_is_int", none), fd__law_is_int := _, F__law_is_int := fun_mk (st := s__law_is_int) l30 c30 (kk 30 (d := d__law_is_int) rfl),
    m__law_is_int := He.glo_ok X G (c.fact 23 (f := .glo "_law_is_int") rfl),
    a__law_are_crowds := He.fAd K ("_law_are_crowds", none), fd__law_are_crowds := _, F__law_are_crowds := fun_mk (st := s__law_are_crowds) l31 c31 (kk 31 (d := d__law_are_crowds) rfl),
    m__law_are_crowds := He.glo_ok X G (c.fact 24 (f := .glo "_law_are_crowds") rfl),
    a__law_loss := He.fAd K ("_law_loss", none), fd__law_loss := _, F__law_loss := fun_mk (st := s__law_loss) l32 c32 (kk 32 (d := d__law_loss) rfl),
    m__law_loss := He.glo_ok X G (c.fact 25 (f := .glo "_law_loss") rfl),
    a__law_may_line := He.fAd K ("_law_may_line", none), fd__law_may_line := _, F__law_may_line := fun_mk (st := s__law_may_line) l33 c33 (kk 33 (d := d__law_may_line) rfl),
    m__law_may_line := He.glo_ok X G (c.fact 26 (f := .glo "_law_may_line") rfl),
    a__law_all_least := He.fAd K ("_law_all_least", none), fd__law_all_least := _, F__law_all_least := fun_mk (st := s__law_all_least) l34 c34 (kk 34 (d := d__law_all_least) rfl),
    m__law_all_least := He.glo_ok X G (c.fact 27 (f := .glo "_law_all_least") rfl),
    a__law_near := He.fAd K ("_law_near", none), fd__law_near := _, F__law_near := fun_mk (st := s__law_near) l35 c35 (kk 35 (d := d__law_near) rfl),
    m__law_near := He.glo_ok X G (c.fact 28 (f := .glo "_law_near") rfl),
    a__law_is_right := He.fAd K ("_law_is_right", none), fd__law_is_right := _, F__law_is_right := fun_mk (st := s__law_is_right) l36 c36 (kk 36 (d := d__law_is_right) rfl),
    m__law_is_right := He.glo_ok X G (c.fact 29 (f := .glo "_law_is_right") rfl),
    a__law_right := He.fAd K ("_law_right", none), fd__law_right := _, F__law_right := fun_mk (st := s__law_right) l37 c37 (kk 37 (d := d__law_right) rfl),
    m__law_right := He.glo_ok X G (c.fact 30 (f := .glo "_law_right") rfl),
    a_law := He.fAd K ("law", none), fd_law := _, F_law := fun_mk (st := s_law) l38 c38 (kk 38 (d := d_law) rfl),
    m_law := He.glo_ok X G (c.fact 31 (f := .glo "law") rfl),
    m_FARTHEST := He.int_ok X G (c.fact 32 (f := .int "FARTHEST" 1000000) rfl),
    m_MOST_SIZE := He.int_ok X G (c.fact 33 (f := .int "MOST_SIZE" 200) rfl),
    m_MOST_VALUES := He.int_ok X G (c.fact 34 (f := .int "MOST_VALUES" 200) rfl),
    n_abs := He.free_ok X G (c.fact 35 (f := .free "abs") rfl),
    n_all := He.free_ok X G (c.fact 36 (f := .free "all") rfl),
    n_bool := He.free_ok X G (c.fact 37 (f := .free "bool") rfl),
    n_enumerate := He.free_ok X G (c.fact 38 (f := .free "enumerate") rfl),
    n_int := He.free_ok X G (c.fact 39 (f := .free "int") rfl),
    n_isinstance := He.free_ok X G (c.fact 40 (f := .free "isinstance") rfl),
    n_len := He.free_ok X G (c.fact 41 (f := .free "len") rfl),
    n_list := He.free_ok X G (c.fact 42 (f := .free "list") rfl),
    n_max := He.free_ok X G (c.fact 43 (f := .free "max") rfl),
    n_min := He.free_ok X G (c.fact 44 (f := .free "min") rfl),
    n_range := He.free_ok X G (c.fact 45 (f := .free "range") rfl),
    n_repr := He.free_ok X G (c.fact 46 (f := .free "repr") rfl),
    n_sorted := He.free_ok X G (c.fact 47 (f := .free "sorted") rfl),
    n_sum := He.free_ok X G (c.fact 48 (f := .free "sum") rfl),
    n_tuple := He.free_ok X G (c.fact 49 (f := .free "tuple") rfl),
    n_zip := He.free_ok X G (c.fact 50 (f := .free "zip") rfl),
    C_Ladder := He.ga K "Ladder", m_Ladder := He.glo_ok X G (c.fact 51 (f := .glo "Ladder") rfl),
    cl_Ladder := He.cls_ok (c.fact 52 (f := .cls "Ladder") rfl),
    M_Ladder := He.mkr_ok (c.fact 53 (f := .mkr "Ladder") rfl),
    me_Ladder_loss := He.meth_ok (c.fact 54 (f := .meth "Ladder" "loss") rfl),
    me_Ladder_middles := He.meth_ok (c.fact 55 (f := .meth "Ladder" "middles") rfl),
    me_Ladder_first_losses := He.meth_ok (c.fact 56 (f := .meth "Ladder" "first_losses") rfl),
    me_Ladder_least_stretches := He.meth_ok (c.fact 57 (f := .meth "Ladder" "least_stretches") rfl),
    me_Ladder_crowd := He.meth_ok (c.fact 58 (f := .meth "Ladder" "crowd") rfl),
    na_Ladder_ascending := He.noat_ok (c.fact 59 (f := .noat "Ladder" "ascending") rfl),
    na_Ladder_places := He.noat_ok (c.fact 60 (f := .noat "Ladder" "places") rfl),
    na_Ladder_sums := He.noat_ok (c.fact 61 (f := .noat "Ladder" "sums") rfl) }⟩
abbrev R : PySem.W.OpenRow := PySem.W.OpenLaw.row PySem.Challenge.rw_alikecrowds_k22_whole_least_loss_on_a_li
abbrev hk : PySem.W.Hook := HX.hookX nmL faL fnL xB
def ob (s : PySem.W.SharedT) : He.Al × Bool := HX.obsX nmL faL fnL xB (HandSHeadRun.getT s)
theorem ob_eq (s : PySem.W.SharedT) : ob s = hk.obs s.abs := HX.obsX_eq (HandSHeadRun.getT_eq s)
def looseL : List PySem.Str := (["CrowdError", "BadValues", "BadSize", "FARTHEST", "is_integer", "is_number_below", "is_ascending", "is_lot_below", "is_tuple_of", "is_line_value", "MOST_VALUES", "MOST_SIZE", "Ladder", "ladder_of", "sized_ladder", "has_crowds", "parts_places", "are_shown", "loss_shown", "least_line", "shows_line", "_law_pot", "_law_take", "_law_of", "_law_cells", "_law_line_values", "_law_crowd_cost", "_law_cut_costs", "_law_least", "_law_partings"] : List PySem.Str) ++ (["_law_is_int", "_law_are_crowds", "_law_loss", "_law_may_line", "_law_all_least", "_law_near", "_law_is_right", "_law_right"] : List PySem.Str)
abbrev vw : Program := PySem.W.view R.prog [42]
theorem finX {l : PySem.W.OpenLaw} {w : World} {K : PySem.W.Frag} {mg : Str → Option Value} {fa : Addr} (hfa : mg "law" = some (.ref fa)) (t : Nonempty (Tx K mg)) :
    ∃ fd : FuncData, (∀ (s : Shared) (u : Value), BindsTo s fd ⟨[u], []⟩ [("script", u)]) ∧ ∀ base : Heap, K.In base → base.Ns mainGlobals mg → FnG l.prog w K mg base 8 fa fd ["script"] (sp_law K) := by
  obtain ⟨T⟩ := t
  have e := hfa.symm.trans T.m_law
  cases e
  refine ⟨T.fd_law, ?_, fun base _ _ => ok_law T⟩
  obtain ⟨oc, od, kV, doc, pm, an, cdv, ct, osl, e, _, _⟩ := T.F_law.ex
  rw [e]
  exact fun s v => .of_eq rfl
end Toy


namespace Toy
open PySem PySem.Spec
theorem run (w : World) : HandSHeadRun.RunEq R vw hk ob 12000 looseL w := by
  intro os
  kernel_rfl
end Toy


open PySem PySem.W PySem.Calls PyProof.Rows
theorem PySem.Challenge.cw_alikecrowds_k22_whole_least_loss_on_a_li_holds : PySem.Challenge.rw_alikecrowds_k22_whole_least_loss_on_a_li.Holds := by
  w_on; o_law
  refine HandSHeadRun.head_any (r := OpenLaw.row PySem.Challenge.rw_alikecrowds_k22_whole_least_loss_on_a_li) (q := Toy.vw) (H := Toy.hk) (ob := Toy.ob) (M := 12000) (loose := Toy.looseL) (d := HandSHeadRun.topDef (OpenLaw.row PySem.Challenge.rw_alikecrowds_k22_whole_least_loss_on_a_li).prog 42) (kwd := []) Toy.ob_eq
    (by kernel_rfl) (fun s => by kernel_rfl) Toy.run (by kernel_rfl) (by kernel_rfl) (by kernel_rfl) (by rfl) (by first | assumption | decide +kernel) (by decide +kernel) ⟨rfl, rfl, rfl, rfl, rfl, by decide +kernel⟩ ?hw ?hc
  case hw => w_witness2
  case hc =>
    refine HX.walkGE (l := PySem.Challenge.rw_alikecrowds_k22_whole_least_loss_on_a_li) (n := 63) (k := 8) (x := "script") (sp := Toy.sp_law) rfl (by decide) (by kernel_rfl) ⟨rfl, by decide, by decide⟩ ?F ?S
    case S => exact fun K H a ns hl hS => ⟨a, ns, rfl, hS, hl, fun _ => rfl⟩
    case F =>
      intro w mg fa h Y G hmg0
      obtain ⟨K, KX, c, x⟩ := Y
      have hmg : mg ("law" : PySem.Str) = some (.ref fa) := by
        have e : (HandSHeadRun.topDef (OpenLaw.row PySem.Challenge.rw_alikecrowds_k22_whole_least_loss_on_a_li).prog 42).name = ("law" : PySem.Str) := by kernel_rfl
        rw [← e]
        exact hmg0
      obtain ⟨fd, hb, hF⟩ := Toy.finX (l := PySem.Challenge.rw_alikecrowds_k22_whole_least_loss_on_a_li) (w := w) hmg (Toy.mk_TxX KX G c x)
      exact ⟨K, fd, KX, hb, hF⟩

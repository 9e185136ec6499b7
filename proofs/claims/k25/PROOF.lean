import PyProof.Rows.All
import Wide.All
import OpenK.AllK
import Wide.FinOn
import HandS.ForMost
import HandS.Exc
import HandS.ExcOwn
import HandS.WordsExc
import HandS.IsInst
import HandS.Wide
import HandS.Walk
import HandS.Conv
import HandS.Deep
import HandS.SetKeys
import HandS.ListItems
import HandS.FStr
import HandS.RaiseMore
import HandS.NoneIn
import KE.GoesZip
import KE.GoesMore
import KE.KDictWalk
import KE.GoesEnumKw
import KE.DataMinMax
import HandS.SortKw
import HandS.SortInts
import HandS.SortRule
import HandS.Style
import HandS.TupAny
import HandS.Defaults
import PyProof.ReprRoads
import HandS.Head0
import HandS.Head1
import HandS.Head2
import HandS.HeadHook1
import PySem.Challenge.RW_alikecrowds_k25_stretches_losses_and_one
set_option Elab.async false
set_option linter.all false
set_option maxRecDepth 100000
set_option maxHeartbeats 4000000
namespace U
open PySem PySem.Spec PyProof.Rows L2
/-! ### U: one rule for each sign of Python, whatever kinds of values stand beside it -/
section
variable {X : Cx}
theorem u_or {e : Expr} {t u : TE} (h1 : PE X e t) (h2 : PE X e u) : PE X e (fun σ H Q => t σ H Q ∨ u σ H Q) :=
  ⟨fun pins s σ H Q I h => h.elim (h1.run pins s σ H Q I) (h2.run pins s σ H Q I)⟩
theorem u_weak {e : Expr} {t u : TE} (h1 : PE X e t) (w : ∀ σ H Q, u σ H Q → t σ H Q) : PE X e u := ⟨fun pins s σ H Q I h => h1.run pins s σ H Q I (w σ H Q h)⟩
theorem u_constI {x : Str} {i : Int} {pos : Pos} (hg : Gl X x) (h : ∃ t, X.mg x = some (.int i t)) (hd : (x == ("__debug__" : Str)) = false := by decide) : PE X (.Name x pos) (tC (.int i)) := by
  obtain ⟨t, h⟩ := h
  exact pe_glob hg h ⟨t, rfl⟩ hd
theorem u_constS {x : Str} {z : Str} {pos : Pos} (hg : Gl X x) (h : ∃ t, X.mg x = some (.str z t)) (hd : (x == ("__debug__" : Str)) = false := by decide) : PE X (.Name x pos) (tC (.str z)) := by
  obtain ⟨t, h⟩ := h
  exact pe_glob hg h ⟨t, rfl⟩ hd
theorem u_ty {x : Str} {n : String} {pos : Pos} (hg : Gl X x) (hm : X.mg x = none) (hv : bootBuiltins x = some (.type n)) (hn : x ≠ "__name__" := by decide) (hd : (x == ("__debug__" : Str)) = false := by decide) : PE X (.Name x pos) (tC (.ty n)) := pe_bltn hg hm hv rfl hn hd
/-- x + y -/
def uAdd (K : PySem.W.Frag) : R2 := fun x y H Q => match x, y with
  | .int i, .int j => Q (.int (i + j)) H
  | .str i, .str j => i.length + j.length ≤ sizeLine ∧ Q (.str (i ++ j)) H
  | .ref a, .ref b => rCat (.ref a) (.ref b) H Q ∨ rCatT K (.ref a) (.ref b) H Q
  | _, _ => False
theorem op_uAdd0 : OpR X (binaryOp .Add) (uAdd X.K) := by
  intro pins s σ H x y u v Q I rx ry h
  cases x <;> cases y <;> first | exact False.elim h | skip
  case int.int i j => exact op_add pins s σ H _ _ u v Q I rx ry ⟨i, j, rfl, rfl, h⟩
  case str.str i j => exact op_add_str pins s σ H _ _ u v Q I rx ry ⟨i, j, rfl, rfl, h.1, h.2⟩
  case ref.ref a b => exact (OpR.or op_cat op_catT) pins s σ H _ _ u v Q I rx ry h
/-- x * y, x // y, x ** y -/
def uMul : R2 := fun x y H Q => match x, y with
  | .int i, .int j => (CMul i j ∨ CMulW i j) ∧ Q (.int (i * j)) H
  | _, _ => False
theorem op_uMul : OpR X (binaryOp .Mult) uMul := by
  intro pins s σ H x y u v Q I rx ry h
  cases x <;> cases y <;> first | exact False.elim h | skip
  case int.int i j =>
    rcases h.1 with c | c
    · exact op_mul pins s σ H _ _ u v Q I rx ry ⟨i, j, rfl, rfl, c, h.2⟩
    · exact op_mulW pins s σ H _ _ u v Q I rx ry ⟨i, j, rfl, rfl, c, h.2⟩
def uDiv : R2 := fun x y H Q => match x, y with
  | .int i, .int j => CDivW i j ∧ Q (.int (i / j)) H
  | _, _ => False
theorem op_uDiv : OpR X (binaryOp .FloorDiv) uDiv := by
  intro pins s σ H x y u v Q I rx ry h
  cases x <;> cases y <;> first | exact False.elim h | skip
  case int.int i j => exact op_fdivW pins s σ H _ _ u v Q I rx ry ⟨i, j, rfl, rfl, h.1, h.2⟩
def uMod : R2 := fun x y H Q => match x, y with
  | .int i, .int j => 0 < j ∧ Q (.int (i % j)) H
  | _, _ => False
theorem op_uMod : OpR X (binaryOp .Mod) uMod := by
  intro pins s σ H x y u v Q I rx ry h
  cases x <;> cases y <;> first | exact False.elim h | skip
  case int.int i j => exact op_mod pins s σ H _ _ u v Q I rx ry ⟨i, j, rfl, rfl, h.1, h.2⟩
def uPow : R2 := fun x y H Q => match x, y with
  | .int i, .int j => (0 ≤ j ∧ (Builtin.Int.intBits i : Int) * j ≤ 2 ^ 27) ∧ Q (.int (i ^ j.toNat)) H
  | _, _ => False
theorem op_uPow : OpR X (binaryOp .Pow) uPow := by
  intro pins s σ H x y u v Q I rx ry h
  cases x <;> cases y <;> first | exact False.elim h | skip
  case int.int i j =>
    obtain ⟨t, rfl⟩ := rx
    obtain ⟨t', rfl⟩ := ry
    exact pow_int h.1.1 h.1.2 ⟨.int (i ^ j.toNat), H, I.tok _, ⟨_, rfl⟩, h.2⟩
def uSub : R2 := fun x y H Q => match x, y with
  | .int i, .int j => Q (.int (i - j)) H
  | _, _ => False
theorem op_uSub : OpR X (binaryOp .Sub) uSub := by
  intro pins s σ H x y u v Q I rx ry h
  cases x <;> cases y <;> first | exact False.elim h | skip
  case int.int i j => exact op_sub pins s σ H _ _ u v Q I rx ry ⟨i, j, rfl, rfl, h⟩
def uNeg : V → Hp → VK → Prop := fun x H Q => match x with
  | .int i => Q (.int (-i)) H
  | _ => False
theorem op_uNeg : UnR X (unaryOp .USub) uNeg := by
  intro pins s σ H x v Q I rx h
  cases x <;> first | exact False.elim h | skip
  case int i => exact un_neg pins s σ H _ v Q I rx ⟨i, rfl, h⟩
/-- comparisons of whole numbers -/
def uCmp (p : Int → Int → Bool) : R2 := fun x y H Q => match x, y with
  | .int i, .int j => Q (.bl (p i j)) H
  | _, _ => False
theorem op_uLt : OpR X (compareOp .Lt) (uCmp fun i j => decide (i < j)) := by
  intro pins s σ H x y u v Q I rx ry h
  cases x <;> cases y <;> first | exact False.elim h | skip
  case int.int i j => exact op_lt pins s σ H _ _ u v Q I rx ry ⟨i, j, rfl, rfl, h⟩
theorem op_uLe : OpR X (compareOp .LtE) (uCmp fun i j => decide (i ≤ j)) := by
  intro pins s σ H x y u v Q I rx ry h
  cases x <;> cases y <;> first | exact False.elim h | skip
  case int.int i j => exact op_le pins s σ H _ _ u v Q I rx ry ⟨i, j, rfl, rfl, h⟩
theorem op_uGt : OpR X (compareOp .Gt) (uCmp fun i j => decide (j < i)) := by
  intro pins s σ H x y u v Q I rx ry h
  cases x <;> cases y <;> first | exact False.elim h | skip
  case int.int i j => exact op_gt pins s σ H _ _ u v Q I rx ry ⟨i, j, rfl, rfl, h⟩
theorem op_uGe : OpR X (compareOp .GtE) (uCmp fun i j => decide (j ≤ i)) := by
  intro pins s σ H x y u v Q I rx ry h
  cases x <;> cases y <;> first | exact False.elim h | skip
  case int.int i j => exact op_ge pins s σ H _ _ u v Q I rx ry ⟨i, j, rfl, rfl, h⟩
/-- x == y: scalars, else data at any depth -/
def uEq (K : PySem.W.Frag) (neg : Bool) : R2 := fun x y H Q =>
  (scal x y = true ∧ Q (.bl (if neg then !decide (x = y) else decide (x = y))) H) ∨ (∃ d e, Dp K H x d ∧ Dp K H y e ∧ SeqAt.shaped d = true ∧ SeqAt.shaped e = true ∧ Q (.bl (if neg then !PyData.eqv d e else PyData.eqv d e)) H)
theorem op_uEq0 (hu : X.A.units + 64 < cLine) : OpR X (compareOp .Eq) (uEq X.K false) := OpR.or op_eq (op_eqD hu)
theorem op_uNe0 (hu : X.A.units + 64 < cLine) : OpR X (compareOp .NotEq) (uEq X.K true) := OpR.or op_ne (op_neD hu)
/-- x[i] of a list, a tuple, a text -/
def uIx (K : PySem.W.Frag) : R2 := fun x y H Q => match x, y with
  | .ref p, .int i => (∃ xs v, (SqL K H p xs ∨ SqT K H p xs) ∧ atI xs i = some v ∧ Q v H)
  | .str z, .int i => z.length ≤ sizeLine ∧ ∃ c, atI z.cps.toList i = some c ∧ Q (.str ⟨#[c]⟩) H
  | _, _ => False
theorem ix_u0 : IxR X (uIx X.K) := by
  intro ea eb pins s σ H x y u v Q I rx ry h hs
  cases x <;> cases y <;> first | exact False.elim h | skip
  case ref.int p i =>
    obtain ⟨xs, v', h1 | h1, h2, q⟩ := h
    · exact ix_seq ea eb pins s σ H _ _ u v Q I rx ry (Or.inl ⟨p, xs, i, v', rfl, rfl, h1, h2, q⟩) hs
    · exact ix_seq ea eb pins s σ H _ _ u v Q I rx ry (Or.inr (Or.inl ⟨p, xs, i, v', rfl, rfl, h1, h2, q⟩)) hs
  case str.int z i =>
    obtain ⟨h1, c, h2, q⟩ := h
    exact ix_seq ea eb pins s σ H _ _ u v Q I rx ry (Or.inr (Or.inr ⟨z, i, c, rfl, rfl, h1, h2, q⟩)) hs
/-- x[lo:hi] -/
def uSl (K : PySem.W.Frag) : V → Option Int → Option Int → Hp → VK → Prop := fun x lo hi H Q => match x with
  | .ref a => (∃ xs, SqL K H a xs ∧ ∀ p, H p = none → Q (.ref p) (upd H p (.lst (cutV xs lo hi)))) ∨ rSlT K (.ref a) lo hi H Q
  | .str z => z.length ≤ sizeLine ∧ Q (.str (cutS z lo hi)) H
  | _ => False
theorem sl_u0 : SlR X (uSl X.K) := by
  intro pins s σ H x v vl vu lo hi sl Q I rx hs pl pu h
  cases x <;> first | exact False.elim h | skip
  case ref a =>
    rcases h with ⟨xs, h1, h2⟩ | h
    · exact sl_list pins s σ H _ v vl vu lo hi sl Q I rx hs pl pu ⟨a, xs, rfl, h1, h2⟩
    · exact sl_tup pins s σ H _ v vl vu lo hi sl Q I rx hs pl pu h
  case str z => exact sl_str pins s σ H _ v vl vu lo hi sl Q I rx hs pl pu ⟨z, rfl, h.1, h.2⟩
/-- len(x) -/
def uLen (K : PySem.W.Frag) : List V → Hp → VK → Prop := fun xs H Q => match xs with
  | [.str z] => z.length ≤ sizeLine ∧ Q (.int z.length) H
  | [.ref p] => (∃ ys, (SqL K H p ys ∨ SqT K H p ys) ∧ Q (.int ys.length) H) ∨ ∃ kvs, H p = some (.dK kvs) ∧ Q (.int kvs.length) H
  | _ => False
theorem call_uLen0 : CallR X (.builtin "len") (uLen X.K) := by
  intro pins s σ H xs us Q I r h
  match xs, h with
  | [.str z], h => exact call_len_str pins s σ H _ us Q I r ⟨z, rfl, h.1, h.2⟩
  | [.ref p], h =>
    rcases h with ⟨ys, h1, h2⟩ | ⟨kvs, h1, h2⟩
    · exact call_len_seq pins s σ H _ us Q I r ⟨p, ys, rfl, h1, h2⟩
    · exact call_lenD pins s σ H _ us Q I r ⟨p, kvs, rfl, h1, h2⟩
/-- int(x) -/
def uInt : List V → Hp → VK → Prop := fun xs H Q => match xs with
  | [.int i] => Q (.int i) H
  | [.bl k] => Q (.int (if k then 1 else 0)) H
  | [.str a] => ∃ n, PySem.intText? a = some n ∧ a.length ≤ 640 ∧ Q (.int n) H
  | _ => False
theorem call_uInt : CallR X (.type "int") uInt := by
  intro pins s σ H xs us Q I r h
  match xs, h with
  | [.int i], h => exact call_int1 pins s σ H _ us Q I r (Or.inl ⟨i, rfl, h⟩)
  | [.bl k], h => exact call_int1 pins s σ H _ us Q I r (Or.inr ⟨k, rfl, h⟩)
  | [.str a], ⟨n, h1, h2, q⟩ => exact call_int_str pins s σ H _ us Q I r ⟨a, n, rfl, h1, h2, q⟩
/-- str(x) -/
def uStr : List V → Hp → VK → Prop := fun xs H Q => match xs with
  | [.int i] => i.natAbs.log2 < 1920 ∧ Q (.str (toString i)) H
  | [.str a] => Q (.str a) H
  | _ => False
theorem call_uStr : CallR X (.type "str") uStr := by
  intro pins s σ H xs us Q I r h
  match xs, h with
  | [.int i], h => exact call_str_int pins s σ H _ us Q I r ⟨i, rfl, h.1, h.2⟩
  | [.str a], h => exact SkE.call_str_str pins s σ H _ us Q I r ⟨a, rfl, h⟩
/-- tuple(x), list(x) -/
def uTupC (K : PySem.W.Frag) : List V → Hp → VK → Prop := fun xs H Q => match xs with
  | [.ref p] => (∃ ys, SqL K H p ys ∧ ∀ l, H l = none → Q (.ref l) (upd H l (.tup ys))) ∨ (∃ ys, SqT K H p ys ∧ Q (.ref p) H)
  | _ => False
theorem call_uTuple0 : CallR X (.type "tuple") (uTupC X.K) := by
  intro pins s σ H xs us Q I r h
  match xs, h with
  | [.ref p], h =>
    rcases h with ⟨ys, h1, h2⟩ | ⟨ys, h1, h2⟩
    · exact call_tuple_of pins s σ H _ us Q I r ⟨p, ys, rfl, Or.inl ⟨h1, h2⟩⟩
    · exact call_tuple_of pins s σ H _ us Q I r ⟨p, ys, rfl, Or.inr ⟨h1, h2⟩⟩
def uLstC (K : PySem.W.Frag) : List V → Hp → VK → Prop := fun xs H Q => match xs with
  | [.ref p] => ∃ ys, (SqL K H p ys ∨ SqT K H p ys) ∧ ∀ l, H l = none → Q (.ref l) (upd H l (.lst ys))
  | _ => False
theorem call_uList0 : CallR X (.type "list") (uLstC X.K) := by
  intro pins s σ H xs us Q I r h
  match xs, h with
  | [.ref p], ⟨ys, h1, h2⟩ => exact call_list_of pins s σ H _ us Q I r ⟨p, ys, rfl, h1, h2⟩
/-- abs(i) -/
def uAbs : List V → Hp → VK → Prop := fun xs H Q => match xs with
  | [.int i] => Q (.int (if i < 0 then -i else i)) H
  | _ => False
theorem call_uAbs : CallR X (.builtin "abs") uAbs := by
  intro pins s σ H xs us Q I r h
  match xs, h with
  | [.int i], h => exact call_abs pins s σ H _ us Q I r ⟨i, rfl, h⟩
/-- min(i, j), max(i, j) -/
def uMM (f : Int → Int → Int) : List V → Hp → VK → Prop := fun xs H Q => match xs with
  | [.int i, .int j] => Q (.int (f i j)) H
  | _ => False
theorem call_uMin (hc : X.calm = true) : CallR X (.builtin "min") (uMM fun i j => if j < i then j else i) := by
  intro pins s σ H xs us Q I r h
  match xs, h with
  | [.int i, .int j], h => exact call_min2 hc pins s σ H _ us Q I r ⟨i, j, rfl, h⟩
theorem call_uMax (hc : X.calm = true) : CallR X (.builtin "max") (uMM fun i j => if j > i then j else i) := by
  intro pins s σ H xs us Q I r h
  match xs, h with
  | [.int i, .int j], h => exact call_max2 hc pins s σ H _ us Q I r ⟨i, j, rfl, h⟩
end
section
variable {X : Cx} {K : PySem.W.Frag}
/-! the same, K named: within a comprehension -/
theorem op_uAdd (hK : X.K = K) : OpR X (binaryOp .Add) (uAdd K) := by subst hK; exact op_uAdd0
theorem ix_u (hK : X.K = K) : IxR X (uIx K) := by subst hK; exact ix_u0
theorem sl_u (hK : X.K = K) : SlR X (uSl K) := by subst hK; exact sl_u0
theorem call_uLen (hK : X.K = K) : CallR X (.builtin "len") (uLen K) := by subst hK; exact call_uLen0
theorem op_uEq (hK : X.K = K) (hu : X.A.units + 64 < cLine) : OpR X (compareOp .Eq) (uEq K false) := by subst hK; exact op_uEq0 hu
theorem op_uNe (hK : X.K = K) (hu : X.A.units + 64 < cLine) : OpR X (compareOp .NotEq) (uEq K true) := by subst hK; exact op_uNe0 hu
theorem op_uIn (hK : X.K = K) : OpR X (compareOp .In) (rIn K false) := by subst hK; exact op_in_seq
theorem op_uNotIn (hK : X.K = K) : OpR X (compareOp .NotIn) (rIn K true) := by subst hK; exact op_notIn_seq
theorem call_uAll (hK : X.K = K) (hc : X.calm = true) : CallR X (.builtin "all") (rAll K) := by subst hK; exact cr_all hc
theorem call_uAny (hK : X.K = K) (hc : X.calm = true) : CallR X (.builtin "any") (rAny K) := by subst hK; exact cr_any hc
theorem call_uSum (hK : X.K = K) (hc : X.calm = true) : CallR X (.builtin "sum") (rSum K) := by subst hK; exact cr_sum hc
theorem call_uTuple (hK : X.K = K) : CallR X (.type "tuple") (uTupC K) := by subst hK; exact call_uTuple0
theorem call_uList (hK : X.K = K) : CallR X (.type "list") (uLstC K) := by subst hK; exact call_uList0
theorem call_uIsi (hK : X.K = K) : CallR X (.builtin "isinstance") (rIsi K) := by subst hK; exact call_isi
theorem u_fld {e : Expr} {ta : TE} {f : Str} {pos : Pos} (hK : X.K = K) (he : PE X e ta) (hb : attributeBase e f X.env (eval e X.env) = eval e X.env) : PE X (.Attribute e f pos) (tFld K ta f) := by subst hK; exact pe_fld he hb
theorem u_list {tg l : Expr} {tl : TE} (hK : X.K = K) (hl : PE X l tl) : PI X tg l (iList K tl) := by subst hK; exact pi_list hl
theorem u_tup {tg l : Expr} {tl : TE} (hK : X.K = K) (hl : PE X l tl) : PI X tg l (iTup K tl) := by subst hK; exact pi_tup hl
theorem u_gtup {es : List Expr} {k : Nat} {t : TGs} {n : Nat} {pos : Pos} (hK : X.K = K) (hc : X.calm = true) (h : PGs X es t) (hn : (assignEach es X.env).length = n := by rfl) (hst : (assignEach es X.env).findIdx? (·.1) = none := by rfl) : PG X (.Tuple es k pos) (gTup K n t) := by subst hK; exact pg_tup hc h hn hst
end
/-! ### heaps -/
theorem same_new {H : Hp} {p : Addr} {o : HO} (h : H p = none) : Same H (upd H p o) := fun a u e => by
  rw [upd_ne (ne_of_none e h)]
  exact e
theorem nb1 {H : Hp} {a b : Addr} {o : HO} (h : (upd H a o) b = none) : H b = none := by
  by_cases e : b = a
  · subst e; rw [upd_same] at h; cases h
  · rw [upd_ne e] at h; exact h
theorem nb2 {H : Hp} {a b : Addr} {o : HO} (h : (upd H a o) b = none) : b ≠ a := fun e => by
  subst e; rw [upd_same] at h; cases h
/-- all that was tracked stays, but what stands at p -/
def SB (p : Addr) (H H' : Hp) : Prop := ∀ b o, H b = some o → b ≠ p → H' b = some o
theorem SB.refl (p : Addr) (H : Hp) : SB p H H := fun _ _ h _ => h
theorem SB.trans {p : Addr} {H H1 H2 : Hp} (a : SB p H H1) (b : SB p H1 H2) : SB p H H2 := fun c o h n => b c o (a c o h n) n
theorem SB.of {p : Addr} {H H' : Hp} (a : Same H H') : SB p H H' := fun c o h _ => a c o h
theorem SB.new {p a : Addr} {H H' : Hp} {o : HO} (s : SB p H H') (h : H' a = none) : SB p H (L2.upd H' a o) := fun c u e n => same_new h c u (s c u e n)
theorem SB.mut {p a : Addr} {H H' : Hp} {o : HO} (s : SB p H H') (h : H a = none) : SB p H (L2.upd H' a o) := fun c u e n => by
  rw [upd_ne (ne_of_none e h)]
  exact s c u e n
theorem SB.upd {p : Addr} {H : Hp} {o : HO} : SB p H (L2.upd H p o) := fun c u h n => by rw [L2.upd_ne n]; exact h
theorem SB.put {p : Addr} {H H' : Hp} {o : HO} (a : SB p H H') : SB p H (L2.upd H' p o) := fun c u h n => by rw [upd_ne n]; exact a c u h n
theorem get_same {H : Hp} {a : Addr} {o u : HO} (e : o = u) : (upd H a o) a = some u := by rw [upd_same, e]
theorem get_new {H : Hp} {p a : Addr} {o u : HO} (h : H p = none) (ha : H a = some u) : (upd H p o) a = some u := same_new h a u ha
theorem get_ne {H : Hp} {p a : Addr} {o : HO} {r : Option HO} (h : a ≠ p) (ha : H a = r) : (upd H p o) a = r := by rw [upd_ne h]; exact ha
/-! ### the reading's steps, each by its own lemma (goal on the right) -/
section
variable {σ : L2.St} {H : Hp} {Q : VK} {D : Ends} {K : PySem.W.Frag}
theorem g_var {i : Nat} {v : V} (h : σ[i]? = some (some v)) (q : Q v H) : tVar i σ H Q := ⟨v, h, q⟩
theorem g_c {v : V} (q : Q v H) : tC v σ H Q := q
theorem g_op {r : R2} {ta tb : TE} (q : ta σ H fun x H1 => tb σ H1 fun y H2 => r x y H2 Q) : tOp r ta tb σ H Q := q
theorem g_un {r : V → Hp → VK → Prop} {ta : TE} (q : ta σ H fun x H1 => r x H1 Q) : tUn r ta σ H Q := q
theorem g_nil {R : List V → Hp → Prop} (q : R [] H) : tNil σ H R := q
theorem g_cons {ta : TE} {t : TA} {R : List V → Hp → Prop} (q : ta σ H fun x H1 => t σ H1 fun xs H2 => R (x :: xs) H2) : tCons ta t σ H R := q
theorem g_cb {r : List V → Hp → VK → Prop} {t : TA} (q : t σ H fun vs H1 => r vs H1 Q) : tCB r t σ H Q := q
theorem g_call {sp : Sp} {dvs : List V} {E : XK} {t : TA} (q : t σ H fun vs H1 => sp (vs ++ dvs) H1 Q E) : tCall sp dvs E t σ H Q := q
theorem g_seq {t u : TS} (q : t { D with nx := u D } σ H) : tSeq t u D σ H := q
theorem g_next (q : D.nx σ H) : tNext D σ H := q
theorem g_asg {te : TE} {g : TG} (q : te σ H fun x H1 => g x σ H1 D.nx) : tAsg te g D σ H := q
theorem g_name {i : Nat} {v : V} {R : L2.St → Hp → Prop} (q : R (σ.set i (some v)) H) : gName i v σ H R := q
theorem g_ret {te : TE} (q : te σ H D.rt) : tRet te D σ H := q
theorem g_drop {te : TE} (q : te σ H fun _ H1 => D.nx σ H1) : tDrop te D σ H := q
theorem g_ifS {c : TT} {t u : TS} (q : c σ H fun b H1 => if b = true then t D σ H1 else u D σ H1) : tIfS c t u D σ H := q
theorem g_if {c : TT} {ta tb : TE} (q : c σ H fun b H1 => if b = true then ta σ H1 Q else tb σ H1 Q) : tIf c ta tb σ H Q := q
theorem g_test {t : TE} {R : Bool → Hp → Prop} (q : t σ H fun x H' => ∃ k, x = .bl k ∧ R k H') : tTest t σ H R := q
theorem g_B {t : TE} {R : Bool → Hp → Prop} (q : t σ H fun x H' => ∃ k, x = .bl k ∧ R k H') : tB t σ H R := q
theorem g_and {t u : TT} {R : Bool → Hp → Prop} (q : t σ H fun c H1 => if c = true then u σ H1 R else R false H1) : tAnd t u σ H R := q
theorem g_or {t u : TT} {R : Bool → Hp → Prop} (q : t σ H fun c H1 => if c = true then R true H1 else u σ H1 R) : tOr t u σ H R := q
theorem g_not {t : TT} {R : Bool → Hp → Prop} (q : t σ H fun c H1 => R (!c) H1) : tNot t σ H R := q
theorem g_andV {ta tb : TE} (q : ta σ H fun x H1 => ∃ c, x = .bl c ∧ if c = true then tb σ H1 Q else Q (.bl false) H1) : tAndV ta tb σ H Q := q
theorem g_orV {ta tb : TE} (q : ta σ H fun x H1 => ∃ c, x = .bl c ∧ if c = true then Q (.bl true) H1 else tb σ H1 Q) : tOrV ta tb σ H Q := q
theorem g_notV {ta : TE} (q : ta σ H fun x H1 => ∃ c, x = .bl c ∧ Q (.bl (!c)) H1) : tNotV ta σ H Q := q
theorem g_addI {i j : Int} (q : Q (.int (i + j)) H) : uAdd K (.int i) (.int j) H Q := q
theorem g_addS {i j : Str} (h : i.length + j.length ≤ sizeLine) (q : Q (.str (i ++ j)) H) : uAdd K (.str i) (.str j) H Q := ⟨h, q⟩
theorem g_subI {i j : Int} (q : Q (.int (i - j)) H) : uSub (.int i) (.int j) H Q := q
theorem g_negI {i : Int} (q : Q (.int (-i)) H) : uNeg (.int i) H Q := q
theorem g_cmpI {p : Int → Int → Bool} {i j : Int} (q : Q (.bl (p i j)) H) : uCmp p (.int i) (.int j) H Q := q
theorem g_intI {i : Int} (q : Q (.int i) H) : uInt [.int i] H Q := q
theorem g_intB {k : Bool} (q : Q (.int (if k then 1 else 0)) H) : uInt [.bl k] H Q := q
theorem g_absI {i : Int} (q : Q (.int (if i < 0 then -i else i)) H) : uAbs [.int i] H Q := q
theorem g_mmI {f : Int → Int → Int} {i j : Int} (q : Q (.int (f i j)) H) : uMM f [.int i, .int j] H Q := q
theorem g_bl {b : Bool} {R : Bool → Hp → Prop} (q : R b H) : ∃ k, V.bl b = .bl k ∧ R k H := ⟨b, rfl, q⟩
theorem g_blP {b : Bool} {R : Bool → Prop} (q : R b) : ∃ k, V.bl b = .bl k ∧ R k := ⟨b, rfl, q⟩
theorem g_eqS {x y : V} {n : Bool} (h : scal x y = true) (q : Q (.bl (if n then !decide (x = y) else decide (x = y))) H) : uEq K n x y H Q := Or.inl ⟨h, q⟩
theorem g_modI {i j : Int} (h : 0 < j) (q : Q (.int (i % j)) H) : uMod (.int i) (.int j) H Q := ⟨h, q⟩
theorem g_divI {i j : Int} (h : CDivW i j) (q : Q (.int (i / j)) H) : uDiv (.int i) (.int j) H Q := ⟨h, q⟩
theorem g_mulI {i j : Int} (h : CMul i j ∨ CMulW i j) (q : Q (.int (i * j)) H) : uMul (.int i) (.int j) H Q := ⟨h, q⟩
theorem g_powI {i j : Int} (h : 0 ≤ j ∧ (Builtin.Int.intBits i : Int) * j ≤ 2 ^ 27) (q : Q (.int (i ^ j.toNat)) H) : uPow (.int i) (.int j) H Q := ⟨h, q⟩
theorem g_ix {p : Addr} {xs : List V} {i : Int} {v : V} (h1 : SqL K H p xs ∨ SqT K H p xs) (h2 : atI xs i = some v) (q : Q v H) : uIx K (.ref p) (.int i) H Q := ⟨xs, v, h1, h2, q⟩
theorem g_lst {ta : TA} (q : ta σ H fun xs H1 => xs.length ≤ sizeLine ∧ ∀ p, H1 p = none → Q (.ref p) (upd H1 p (.lst xs))) : tLst ta σ H Q := q
theorem g_tup {ta : TA} (q : ta σ H fun xs H1 => xs.length ≤ sizeLine ∧ ∀ p, H1 p = none → Q (.ref p) (upd H1 p (.tup xs))) : tTup ta σ H Q := q
theorem g_sub {to ti : TE} {t : TSet} {v : V} {R : L2.St → Hp → Prop} (q : to σ H fun o H1 => ti σ H1 fun i H2 => t o i v H2 fun H3 => R σ H3) : gSub to ti t v σ H R := q
theorem g_setL {p : Addr} {xs : List V} {k : Int} {j : Nat} {v : V} {R : Hp → Prop} (h : H p = some (.lst xs)) (e : ixN xs.length k = some j) (q : R (upd H p (.lst (xs.set j v)))) : rSetL (.ref p) (.int k) v H R := ⟨p, xs, k, j, rfl, rfl, h, e, q⟩
theorem g_ixS {z : Str} {i : Int} {c : Nat} (h : z.length ≤ sizeLine) (e : atI z.cps.toList i = some c) (q : Q (.str ⟨#[c]⟩) H) : uIx K (.str z) (.int i) H Q := ⟨h, c, e, q⟩
theorem g_T {A B : Prop} (h : A) : if true = true then A else B := iteT h
theorem g_F {A B : Prop} (h : B) : if false = true then A else B := iteF h
theorem g_nT {A B : Prop} (h : B) : if (!true) = true then A else B := iteF h
theorem g_nF {A B : Prop} (h : A) : if (!false) = true then A else B := iteT h
theorem g_2 {b : Bool} {A B : Prop} (h1 : b = true → A) (h2 : b = false → B) : if b = true then A else B := by
  cases b with
  | true => exact iteT (h1 rfl)
  | false => exact iteF (h2 rfl)
theorem intBits_le {i : Int} {n : Nat} (h : i.natAbs < 2 ^ n) : Builtin.Int.intBits i ≤ n := by
  unfold Builtin.Int.intBits
  split
  · exact Nat.zero_le _
  · rename_i hn
    have h0 : i.natAbs ≠ 0 := fun z => hn (by simp [Int.natAbs_eq_zero.mp z])
    exact (Nat.log2_lt h0).mpr h
theorem g_pow3 {i : Int} (h0 : 0 ≤ i) (h : i < 2 ^ 100) (q : Q (.int (i ^ (3 : Int).toNat)) H) : uPow (.int i) (.int 3) H Q := by
  refine ⟨⟨by decide, ?_⟩, q⟩
  have z : Builtin.Int.intBits i ≤ 100 := intBits_le (by omega)
  have : ((Builtin.Int.intBits i : Nat) : Int) ≤ 100 := by exact_mod_cast z
  omega
theorem g_ix5 {p : Addr} {a b c d e k : Int} (h : SqL K H p [.int a, .int b, .int c, .int d, .int e]) (ha : ∀ v ∈ [a, b, c, d, e], (0 : Int) < v ∧ v < 2 ^ 32) (h0 : 0 ≤ k) (h5 : k < 5) (q : ∀ v : Int, 0 < v → v < 2 ^ 32 → Q (.int v) H) : uIx K (.ref p) (.int k) H Q := by
  have : k = 0 ∨ k = 1 ∨ k = 2 ∨ k = 3 ∨ k = 4 := by omega
  rcases this with rfl | rfl | rfl | rfl | rfl
  · exact g_ix (Or.inl h) rfl (q _ (ha a (by simp)).1 (ha a (by simp)).2)
  · exact g_ix (Or.inl h) rfl (q _ (ha b (by simp)).1 (ha b (by simp)).2)
  · exact g_ix (Or.inl h) rfl (q _ (ha c (by simp)).1 (ha c (by simp)).2)
  · exact g_ix (Or.inl h) rfl (q _ (ha d (by simp)).1 (ha d (by simp)).2)
  · exact g_ix (Or.inl h) rfl (q _ (ha e (by simp)).1 (ha e (by simp)).2)
theorem bnd_ckk {C k : Int} (h0 : 0 ≤ C) (h1 : C ≤ 2 ^ 20) (k0 : 0 ≤ k) (k1 : k ≤ 2 ^ 20) : 0 ≤ C * k * k ∧ C * k * k ≤ 2 ^ 60 := by
  have a1 : 0 ≤ C * k := Int.mul_nonneg h0 k0
  have a2 : C * k ≤ 2 ^ 20 * 2 ^ 20 := Int.mul_le_mul h1 k1 k0 (by decide)
  refine ⟨Int.mul_nonneg a1 k0, ?_⟩
  have a3 : C * k * k ≤ 2 ^ 20 * 2 ^ 20 * 2 ^ 20 := Int.mul_le_mul a2 k1 k0 (by decide)
  exact a3
theorem g_powB {s C k e : Int} (s0 : 0 ≤ s) (s1 : s < 2 ^ 61) (c0 : 0 ≤ C) (c1 : C ≤ 2 ^ 20) (k0 : 0 ≤ k) (k1 : k ≤ 2 ^ 20) (e0 : 0 ≤ e) (e1 : e ≤ 2 ^ 20) (q : Q (.int ((s + C * k * k + e) ^ (3 : Int).toNat)) H) : uPow (.int (s + C * k * k + e)) (.int 3) H Q := by
  obtain ⟨b0, b1⟩ := bnd_ckk c0 c1 k0 k1
  exact g_pow3 (by omega) (by omega) q
theorem at_nat {α : Type} {xs : List α} {z : Int} {j : Nat} {v : α} (e : z = (j : Int)) (h : xs[j]? = some v) : atI xs z = some v := by
  rw [e]
  exact atI_nat h
theorem g_mulB {i : Int} {b : Bool} (q : Q (.int (i * (if b = true then 1 else 0))) H) : uMul (.int i) (.int (if b = true then 1 else 0)) H Q := ⟨Or.inl (Or.inr (by cases b <;> decide)), q⟩
theorem g_powL {i j : Int} (h : decide (0 ≤ j ∧ (Builtin.Int.intBits i : Int) * j ≤ 2 ^ 27) = true) (q : Q (.int (i ^ j.toNat)) H) : uPow (.int i) (.int j) H Q := ⟨of_decide_eq_true h, q⟩
theorem g_modL {i j : Int} (h : decide (0 < j) = true) (q : Q (.int (i % j)) H) : uMod (.int i) (.int j) H Q := ⟨of_decide_eq_true h, q⟩
theorem g_sum {p : Addr} {ns : List Int} (h : SqL K H p (ns.map V.int)) (q : Q (.int ns.sum) H) : rSum K [.ref p] H Q := ⟨p, ns, rfl, h, q⟩
theorem mulB_bd {x : Int} {b : Bool} {M : Int} (h0 : 0 ≤ x) (h1 : x < M) : 0 ≤ x * (if b = true then 1 else 0) ∧ x * (if b = true then 1 else 0) < M := by
  cases b
  · simp; omega
  · simp; omega
theorem cut1 (ns : List Int) : cutV (ns.map V.int) none (some 1) = (ns.take 1).map V.int := by
  cases ns <;> rfl
theorem g_cut {t : TE} (P : V → Hp → Prop) (h1 : ∀ R : VK, (∀ v H1, P v H1 → R v H1) → t σ H R) (h2 : ∀ v H1, P v H1 → Q v H1) : t σ H Q := h1 Q h2
theorem g_cutS {t : TS} (M : L2.St → Hp → Prop) (h1 : ∀ N : L2.St → Hp → Prop, (∀ σ' H', M σ' H' → N σ' H') → t { D with nx := N } σ H) (h2 : ∀ σ' H', M σ' H' → D.nx σ' H') : t D σ H := h1 D.nx h2
theorem g_lrg {te : L2.St → Hp → (Int → Int → Hp → Prop) → Prop} (q : te σ H fun a b H1 => RgOk a b ∧ ∀ q, H1 q = none → Q (.ref q) (upd H1 q (.lst (rgV a b)))) : tLstRg te σ H Q := q
theorem g_rg1 {ta : TE} {R : Int → Int → Hp → Prop} (q : ta σ H fun x H1 => ∃ n, x = .int n ∧ R 0 n H1) : tRg1 ta σ H R := q
theorem g_intE {i : Int} {R : Int → Prop} (q : R i) : ∃ n, V.int i = .int n ∧ R n := ⟨i, rfl, q⟩
theorem g_sl {r : V → Option Int → Option Int → Hp → VK → Prop} {te : TE} {tl th : TO} (q : te σ H fun x H1 => tl σ H1 fun l H2 => th σ H2 fun u H3 => r x l u H3 Q) : tSl r te tl th σ H Q := q
theorem g_noP {R : Option Int → Hp → Prop} (q : R none H) : tNoPart σ H R := q
theorem g_part {t : TE} {R : Option Int → Hp → Prop} (q : t σ H fun x H1 => ∃ i, x = .int i ∧ R (some i) H1) : tPart t σ H R := q
theorem g_slL {a : Addr} {xs : List V} {lo hi : Option Int} (h : SqL K H a xs) (q : ∀ p, H p = none → Q (.ref p) (upd H p (.lst (cutV xs lo hi)))) : uSl K (.ref a) lo hi H Q := Or.inl ⟨xs, h, q⟩
theorem g_slS {z : Str} {lo hi : Option Int} (h : z.length ≤ sizeLine) (q : Q (.str (cutS z lo hi)) H) : uSl K (.str z) lo hi H Q := ⟨h, q⟩
theorem log2_small {i : Int} (h : -(2 ^ 64) < i) (h' : i < 2 ^ 64) : i.natAbs.log2 < 1920 := by
  by_cases h0 : i.natAbs = 0
  · rw [h0]; decide
  · exact Nat.lt_of_lt_of_le ((Nat.log2_lt h0).mpr (show i.natAbs < 2 ^ 64 by omega)) (by decide)
theorem g_strI {i : Int} (h : -(2 ^ 64) < i ∧ i < 2 ^ 64) (q : Q (.str (toString i)) H) : uStr [.int i] H Q := ⟨log2_small h.1 h.2, q⟩
theorem g_strS {a : Str} (q : Q (.str a) H) : uStr [.str a] H Q := q
theorem g_mulL {i j : Int} (h : -(2 ^ 64) < i ∧ i < 2 ^ 64) (q : Q (.int (i * j)) H) : uMul (.int i) (.int j) H Q := ⟨Or.inl (Or.inl h), q⟩
theorem g_mulR {i j : Int} (h : -(2 ^ 64) < j ∧ j < 2 ^ 64) (q : Q (.int (i * j)) H) : uMul (.int i) (.int j) H Q := ⟨Or.inl (Or.inr h), q⟩
theorem g_divP {i j : Int} (h0 : 0 < j) (h1 : j < 2 ^ 62) (q : Q (.int (i / j)) H) : uDiv (.int i) (.int j) H Q := ⟨wide_div h0 (b := 62) (by omega) (by decide) (by decide), q⟩
theorem g_tupL {p : Addr} {ys : List V} (h : SqL K H p ys) (q : ∀ l, H l = none → Q (.ref l) (upd H l (.tup ys))) : uTupC K [.ref p] H Q := Or.inl ⟨ys, h, q⟩
theorem g_tupT {p : Addr} {ys : List V} (h : SqT K H p ys) (q : Q (.ref p) H) : uTupC K [.ref p] H Q := Or.inr ⟨ys, h, q⟩
theorem g_lstC {p : Addr} {ys : List V} (h : SqL K H p ys ∨ SqT K H p ys) (q : ∀ l, H l = none → Q (.ref l) (upd H l (.lst ys))) : uLstC K [.ref p] H Q := ⟨ys, h, q⟩
theorem g_allB {p : Addr} {bs : List Bool} (h : SqL K H p (bs.map V.bl)) (q : Q (.bl (bs.all id)) H) : rAll K [.ref p] H Q := ⟨p, bs, rfl, h, q⟩
theorem g_lenL {p : Addr} {ys : List V} (h : SqL K H p ys ∨ SqT K H p ys) (q : Q (.int ys.length) H) : uLen K [.ref p] H Q := Or.inl ⟨ys, h, q⟩
theorem g_lenS {z : Str} (h : z.length ≤ sizeLine) (q : Q (.int z.length) H) : uLen K [.str z] H Q := ⟨h, q⟩
end
end U
namespace U
open PySem PySem.Spec PyProof.Rows L2
section
variable {σ : L2.St} {H : Hp} {Q : VK} {D : Ends} {K : PySem.W.Frag}
/-- one turn of a comprehension; acc: what was made so far, at E; A, B: what is to be reached with an item, without -/
def LcT (E : Addr) (n : Nat) (Y : Nat → Hp → V → Hp → Prop) (Pv : Nat → List V → Hp → Prop) (σ : L2.St) (vs : List Nat) (g : TG) (tt : TT) (te : TE) : Prop :=
  ∀ i x acc H' H'' (A : VK) (B : Hp → Prop), i < n → H' E = some (.lst acc) → Pv i acc H' → Y i H' x H'' →
    (∀ y H4, H4 E = some (.lst acc) → Pv (i + 1) (acc ++ [y]) (upd H4 E (.lst (acc ++ [y]))) → A y H4) → (∀ H3, H3 E = some (.lst acc) → Pv (i + 1) acc H3 → B H3) →
    g x (wipe σ vs) H'' fun σ2 H2 => wipe σ2 vs = wipe σ vs ∧ tt σ2 H2 fun b H3 => if b = true then te σ2 H3 A else B H3
theorem lc_gen {J : It} {n : Nat} {G : Hp → Prop} {Y : Nat → Hp → V → Hp → Prop} (w : Walk J n G Y) (hn : n ≤ 1000000) {g : TG} {tt : TT} {te : TE} {vs : List Nat} {H1 : Hp} {E : Addr} {Qd : Hp → Prop} (Pv : Nat → List V → Hp → Prop) (h0 : Pv 0 [] (upd H1 E (.lst []))) (hG : ∀ i acc H', i ≤ n → Pv i acc H' → G H')
    (hs : LcT E n Y Pv σ vs g tt te)
    (hd : ∀ acc H', H' E = some (.lst acc) → Pv n acc H' → Qd H') :
    ∃ W : Nat → Nat → Hp → Prop, (∃ m, W 0 m (upd H1 E (.lst []))) ∧ ∀ i m H, W i m H →
      (J.stop i H ∧ Qd H) ∨ (J.go i H ∧ ∃ Nx : Hp → Prop, (∀ H', Nx H' → ∃ m', m' < m ∧ W (i + 1) m' H') ∧ ∀ x H', J.yld i H x H' → g x (wipe σ vs) H' fun σ2 H2 => wipe σ2 vs = wipe σ vs ∧ tt σ2 H2 fun b H3 =>
        if b = true then te σ2 H3 fun y H4 => ∃ acc, H4 E = some (.lst acc) ∧ acc.length < sizeLine ∧ Nx (upd H4 E (.lst (acc ++ [y]))) else Nx H3) := by
  refine lc_it w (fun i H' => ∃ acc, H' E = some (.lst acc) ∧ acc.length ≤ i ∧ Pv i acc H') ⟨[], upd_same, Nat.le_refl _, h0⟩ (fun i H' hi ⟨acc, _, _, p⟩ => hG i acc H' hi p) (fun i x H' H'' hi ⟨acc, ha, hl, p⟩ y => ?_) fun H' ⟨acc, ha, _, p⟩ => hd acc H' ha p
  have h : (1000000 : Nat) < sizeLine := by decide
  refine hs i x acc H' H'' _ _ hi ha p y (fun v H4 q1 q2 => ⟨acc, q1, by omega, acc ++ [v], upd_same, by rw [List.length_append]; show acc.length + 1 ≤ i + 1; omega, q2⟩) fun H3 q1 q2 => ⟨acc, q1, by omega, q2⟩
/-- what a comprehension, a for asks of the thing that is walked -/
def lcI (σ : L2.St) (vs : List Nat) (g : TG) (tt : TT) (te : TE) (Q : VK) (J : It) (H1 : Hp) : Prop := ∀ E, H1 E = none → ∃ W : Nat → Nat → Hp → Prop, (∃ m, W 0 m (upd H1 E (.lst []))) ∧ ∀ i m H, W i m H → (J.stop i H ∧ Q (.ref E) H) ∨ (J.go i H ∧ ∃ Nx : Hp → Prop, (∀ H', Nx H' → ∃ m', m' < m ∧ W (i + 1) m' H') ∧ ∀ x H', J.yld i H x H' → g x (wipe σ vs) H' fun σ2 H2 => wipe σ2 vs = wipe σ vs ∧ tt σ2 H2 fun b H3 => if b = true then te σ2 H3 fun y H4 => ∃ acc, H4 E = some (.lst acc) ∧ acc.length < sizeLine ∧ Nx (upd H4 E (.lst (acc ++ [y]))) else Nx H3)
def forI (σ : L2.St) (g : TG) (tb : TS) (D : Ends) (J : It) (H1 : Hp) : Prop := ∃ W : Nat → Nat → L2.St → Hp → Prop, (∃ m, W 0 m σ H1) ∧ ∀ i m σ H, W i m σ H → (J.stop i H ∧ D.nx σ H) ∨ (J.go i H ∧ ∃ N : L2.St → Hp → Prop, (∀ σ' H', N σ' H' → ∃ m', m' < m ∧ W (i + 1) m' σ' H') ∧ ∀ x H', J.yld i H x H' → g x σ H' fun σ2 H2 => tb { D with nx := N, ct := N, bk := D.nx } σ2 H2)
section
variable {g : TG} {tt : TT} {te tl : TE} {ta : TA} {tb : TS} {vs : List Nat} {wi : TI}
theorem g_lc (q : wi σ H fun J H1 => lcI σ vs g tt te Q J H1) : tLc wi g tt te vs σ H Q := q
theorem g_for (q : wi σ H fun J H1 => forI σ g tb D J H1) : tFor wi g tb D σ H := q
/-- the shapes of walks -/
theorem g_iList {R : It → Hp → Prop} (q : tl σ H fun x H1 => ∃ a, x = .ref a ∧ (∃ xs, SqL K H1 a xs) ∧ R (Itl K a) H1) : iList K tl σ H R := q
theorem g_iTup {R : It → Hp → Prop} (q : tl σ H fun x H1 => ∃ a, x = .ref a ∧ (∃ xs, SqT K H1 a xs) ∧ R (Itt K a) H1) : iTup K tl σ H R := q
theorem g_iRng1 {R : It → Hp → Prop} (q : ta σ H fun vs H1 => ∃ j : Int, vs = [.int j] ∧ -(2 ^ 62) ≤ j ∧ j < 2 ^ 62 ∧ R (Itr 0 j.toNat) H1) : iRng1 ta σ H R := q
theorem g_iStr {R : It → Hp → Prop} (q : tl σ H fun v H1 => ∃ x, v = .str x ∧ R (Its x) H1) : iStr tl σ H R := q
theorem g_iEnum {R : It → Hp → Prop} (q : ta σ H fun vs H1 => ∃ a xs, vs = [.ref a] ∧ SqL K H1 a xs ∧ R (Ite K a) H1) : iEnum K ta σ H R := q
theorem g_iVals {R : It → Hp → Prop} (q : tl σ H fun x H1 => ∃ d o kvs, x = .ref d ∧ H1 d = some (.frz o (.dK kvs)) ∧ R (Itd d o kvs) H1) : iVals tl σ H R := q
theorem e_list {a : Addr} {xs : List V} {R : It → Hp → Prop} (h : SqL K H a xs) (q : R (Itl K a) H) : ∃ b, V.ref a = .ref b ∧ (∃ xs, SqL K H b xs) ∧ R (Itl K b) H := ⟨a, rfl, ⟨xs, h⟩, q⟩
theorem e_tup {a : Addr} {xs : List V} {R : It → Hp → Prop} (h : SqT K H a xs) (q : R (Itt K a) H) : ∃ b, V.ref a = .ref b ∧ (∃ xs, SqT K H b xs) ∧ R (Itt K b) H := ⟨a, rfl, ⟨xs, h⟩, q⟩
theorem e_rng {j : Int} {R : It → Hp → Prop} (h : j ≤ 1000000) (h0 : -1000000 ≤ j) (q : R (Itr 0 j.toNat) H) : ∃ i : Int, [V.int j] = [.int i] ∧ -(2 ^ 62) ≤ i ∧ i < 2 ^ 62 ∧ R (Itr 0 i.toNat) H := ⟨j, rfl, by omega, by omega, q⟩
theorem e_str {x : Str} {R : It → Hp → Prop} (q : R (Its x) H) : ∃ z, V.str x = .str z ∧ R (Its z) H := ⟨x, rfl, q⟩
theorem e_enum {a : Addr} {xs : List V} {R : It → Hp → Prop} (h : SqL K H a xs) (q : R (Ite K a) H) : ∃ b ys, [V.ref a] = [.ref b] ∧ SqL K H b ys ∧ R (Ite K b) H := ⟨a, xs, rfl, h, q⟩
theorem e_vals {d : Addr} {o : Obj} {kvs : List (Key × V)} {R : It → Hp → Prop} (h : H d = some (.frz o (.dK kvs))) (q : R (Itd d o kvs) H) : ∃ d' o' kvs', V.ref d = .ref d' ∧ H d' = some (.frz o' (.dK kvs')) ∧ R (Itd d' o' kvs') H := ⟨d, o, kvs, rfl, h, q⟩
/-- a comprehension, a for, over any walk -/
theorem lcI_by {J : It} {n : Nat} {G : Hp → Prop} {Y : Nat → Hp → V → Hp → Prop} (w : Walk J n G Y) (hn : n ≤ 1000000) (h : ∀ E, H E = none → ∃ Pv, Pv 0 [] (upd H E (.lst [])) ∧ (∀ i acc H', i ≤ n → Pv i acc H' → G H') ∧ LcT E n Y Pv σ vs g tt te ∧ ∀ acc H', H' E = some (.lst acc) → Pv n acc H' → Q (.ref E) H') : lcI σ vs g tt te Q J H := fun E hE =>
  let ⟨Pv, p0, p1, p2, p3⟩ := h E hE
  lc_gen w hn Pv p0 p1 p2 p3
theorem forI_by {J : It} {n : Nat} {G : Hp → Prop} {Y : Nat → Hp → V → Hp → Prop} (w : Walk J n G Y) (Pv : Nat → L2.St → Hp → Prop) (h0 : Pv 0 σ H) (hG : ∀ i σ H, i ≤ n → Pv i σ H → G H)
    (hs : ∀ i x σ H H', i < n → Pv i σ H → Y i H x H' → g x σ H' fun σ2 H2 => tb { D with nx := Pv (i + 1), ct := Pv (i + 1), bk := D.nx } σ2 H2) (hd : ∀ σ H, Pv n σ H → D.nx σ H) : forI σ g tb D J H := for_it w Pv h0 hG hs hd
end
theorem same_mut {H H' : Hp} {a : Addr} {o : HO} (s : Same H H') (h : H a = none) : Same H (upd H' a o) := fun c u e => by
  rw [upd_ne (ne_of_none e h)]
  exact s c u e
/-- a comprehension that leaves all that stood: f tells what turn i gives -/
theorem lcI_same {g : TG} {tt : TT} {te : TE} {vs : List Nat} {J : It} {n : Nat} {G : Hp → Prop} {Y : Nat → Hp → V → Hp → Prop} (w : Walk J n G Y) (hn : n ≤ 1000000) (f : Nat → Option V) (hG : ∀ H', Same H H' → G H') (hY : ∀ i H' x H'', Y i H' x H'' → Same H' H'')
    (turn : ∀ i x H' H'' (A : VK) (B : Hp → Prop), i < n → Same H H' → Y i H' x H'' → (∀ y H4, f i = some y → Same H'' H4 → A y H4) → (f i = none → ∀ H3, Same H'' H3 → B H3) →
      g x (wipe σ vs) H'' fun σ2 H2 => wipe σ2 vs = wipe σ vs ∧ tt σ2 H2 fun b H3 => if b = true then te σ2 H3 A else B H3)
    (k : ∀ E H', H E = none → Same H H' → H' E = some (.lst ((List.range n).filterMap f)) → Q (.ref E) H') : lcI σ vs g tt te Q J H := by
  refine lcI_by w hn fun E hE => ⟨fun i acc H' => Same H H' ∧ acc = (List.range i).filterMap f, ⟨same_new hE, rfl⟩, fun i acc H' _ p => hG H' p.1, ?_, fun acc H' ha ⟨s, e⟩ => k E H' hE s (by rw [ha, e])⟩
  intro i x acc H' H'' A B hi ha ⟨s, e⟩ y kA kB
  have s' := hY i H' x H'' y
  refine turn i x H' H'' A B hi s y (fun v H4 ev s4 => kA v H4 (s4 _ _ (s' _ _ ha)) ⟨same_mut (s.trans (s'.trans s4)) hE, ?_⟩) fun en H3 s3 => kB H3 (s3 _ _ (s' _ _ ha)) ⟨s.trans (s'.trans s3), ?_⟩
  · rw [List.range_succ, List.filterMap_append, ← e]
    simp [ev]
  · rw [List.range_succ, List.filterMap_append, ← e]
    simp [en]
theorem range_fm {α β : Type} (h : α → Option β) : ∀ xs : List α, (List.range xs.length).filterMap (fun i => (xs[i]?).bind h) = xs.filterMap h := by
  intro xs
  induction xs with
  | nil => rfl
  | cons a r ih =>
    rw [List.length_cons, List.range_succ_eq_map, List.filterMap_cons, List.filterMap_map, List.filterMap_cons]
    have e : ((fun i => ((a :: r)[i]?).bind h) ∘ Nat.succ) = fun i => (r[i]?).bind h := by funext i; simp
    rw [e, ih]
    rfl
/-- .. over a list: h tells what an item gives -/
theorem lcI_list {g : TG} {tt : TT} {te : TE} {vs : List Nat} {a : Addr} {xs : List V} (hx : SqL K H a xs) (hn : xs.length ≤ 1000000) (h : V → Option V)
    (turn : ∀ x H' (A : VK) (B : Hp → Prop), x ∈ xs → Same H H' → (∀ y H4, h x = some y → Same H' H4 → A y H4) → (h x = none → ∀ H3, Same H' H3 → B H3) →
      g x (wipe σ vs) H' fun σ2 H2 => wipe σ2 vs = wipe σ vs ∧ tt σ2 H2 fun b H3 => if b = true then te σ2 H3 A else B H3)
    (k : ∀ E H', H E = none → Same H H' → H' E = some (.lst (xs.filterMap h)) → Q (.ref E) H') : lcI σ vs g tt te Q (Itl K a) H := by
  refine lcI_same walk_list hn (fun i => (xs[i]?).bind h) (fun H' s => s.seq hx) (fun i H' x H'' y => by rw [y.1]; exact Same.refl _) (fun i x H' H'' A B hi s y kA kB => ?_) fun E H' e s q => k E H' e s (by rw [q, range_fm])
  obtain ⟨rfl, ex⟩ := y
  exact turn x H'' A B (List.mem_of_getElem? ex) s (fun v H4 ev s4 => kA v H4 (by rw [ex]; exact ev) s4) fun en H3 s3 => kB (by rw [ex]; exact en) H3 s3
/-- .. over range(j) -/
theorem lcI_rng {g : TG} {tt : TT} {te : TE} {vs : List Nat} {n : Nat} (hn : n ≤ 1000000) (f : Nat → Option V)
    (turn : ∀ i H' (A : VK) (B : Hp → Prop), i < n → Same H H' → (∀ y H4, f i = some y → Same H' H4 → A y H4) → (f i = none → ∀ H3, Same H' H3 → B H3) →
      g (.int (i : Int)) (wipe σ vs) H' fun σ2 H2 => wipe σ2 vs = wipe σ vs ∧ tt σ2 H2 fun b H3 => if b = true then te σ2 H3 A else B H3)
    (k : ∀ E H', H E = none → Same H H' → H' E = some (.lst ((List.range n).filterMap f)) → Q (.ref E) H') : lcI σ vs g tt te Q (Itr 0 n) H := by
  refine lcI_same walk_range hn f (fun _ _ => trivial) (fun i H' x H'' y => by rw [y.1]; exact Same.refl _) (fun i x H' H'' A B hi s y kA kB => ?_) k
  obtain ⟨rfl, rfl⟩ := y
  dsimp only
  rw [Int.zero_add]
  exact turn i H'' A B hi s kA kB
theorem g_cont (q : D.ct σ H) : tCont D σ H := q
theorem g_yes {R : Bool → Hp → Prop} (q : R true H) : tYes σ H R := q
/-! ### dicts, methods of lists and texts -/
section
variable {ty td tv to te tx : TE} {t : TA} {tt : TT}
theorem g_dnotin (q : ty σ H fun y H1 => td σ H1 fun x H2 => ∃ a o, x = .ref a ∧ DGet H2 a y o ∧ Q (.bl (!o.isSome)) H2) : tDNotIn ty td σ H Q := q
theorem g_din (q : ty σ H fun y H1 => td σ H1 fun x H2 => ∃ a o, x = .ref a ∧ DGet H2 a y o ∧ Q (.bl o.isSome) H2) : tDIn ty td σ H Q := q
theorem g_dget (q : td σ H fun x H1 => ty σ H1 fun y H2 => ∃ a v, x = .ref a ∧ DGet H2 a y (some v) ∧ Q v H2) : tDGet td ty σ H Q := q
theorem g_dput (q : tv σ H fun v H1 => td σ H1 fun x H2 => ty σ H2 fun y H3 => ∃ a H4, x = .ref a ∧ DPut H3 a y v H4 ∧ D.nx σ H4) : sDPut td ty tv D σ H := q
theorem g_bm {T : String} {r : V → List V → Hp → VK → Prop} (q : to σ H fun x H1 => tyV K T x H1 ∧ t σ H1 fun xs H2 => r x xs H2 Q) : tBM K T r to t σ H Q := q
theorem g_bm0 {T : String} {r : V → List V → Hp → VK → Prop} (q : to σ H fun x H1 => tyV K T x H1 ∧ r x [] H1 Q) : tBM0 K T r to σ H Q := q
theorem g_gtup {n : Nat} {g : TGs} {a : Addr} {xs : List V} {R : L2.St → Hp → Prop} (h : SqT K H a xs) (e : xs.length = n) (q : g xs σ H R) : gTup K n g (.ref a) σ H R := ⟨a, xs, rfl, h, e, q⟩
theorem g_gcons {g : TG} {u : TGs} {v : V} {r : List V} {R : L2.St → Hp → Prop} (q : g v σ H fun σ' H' => u r σ' H' R) : gCons g u (v :: r) σ H R := ⟨v, r, rfl, q⟩
theorem g_gnil {R : L2.St → Hp → Prop} (q : R σ H) : gNil [] σ H R := ⟨rfl, q⟩
theorem g_par {i j : Nat} {ta : TA} (q : ta σ H fun vs H1 => ∃ v w, vs = [v, w] ∧ D.nx ((σ.set i (some v)).set j (some w)) H1) : tPar i j ta D σ H := q
theorem e_two {v w : V} {R : V → V → Prop} (q : R v w) : ∃ x y, [v, w] = [x, y] ∧ R x y := ⟨v, w, rfl, q⟩
theorem g_disp {trs : List (TE × TE)} (q : ∀ p, H p = none → tPairs trs σ (upd H p (.dK [])) fun ps H2 => H2 p = some (.dK []) ∧ ∃ kvs : List (Key × V), ps = kvs.map (fun kv => (kV kv.1, kv.2)) ∧ kvs.length ≤ 15 ∧ Q (.ref p) (upd H2 p (.dK (mergeK [] kvs)))) : tDisp trs σ H Q := q
theorem g_pcons {tk tv : TE} {r : List (TE × TE)} {R : List (V × V) → Hp → Prop} (q : tk σ H fun x H1 => tv σ H1 fun y H2 => tPairs r σ H2 fun ps H3 => R ((x, y) :: ps) H3) : tPairs ((tk, tv) :: r) σ H R := q
theorem g_pnil {R : List (V × V) → Hp → Prop} (q : R [] H) : tPairs [] σ H R := q
theorem e_non {R : Prop} (q : R) : V.non = V.non ∧ R := ⟨rfl, q⟩
theorem g_ext {l b : Addr} {xs zs : List V} (h : H l = some (.lst xs)) (hb : H b = some (.lst zs)) (hl : xs.length + zs.length ≤ 1000000) (q : Q .non (upd H l (.lst (xs ++ zs)))) : rExtend (.ref l) [.ref b] H Q := ⟨l, b, xs, zs, rfl, rfl, h, hb, Nat.le_trans hl (by decide), q⟩
theorem g_m1 {r : V → List V → Hp → VK → Prop} (q : to σ H fun x H1 => (∃ a, x = .str a) ∧ te σ H1 fun y H2 => r x [y] H2 Q) : tM1 r to te σ H Q := q
theorem e_strE {z : Str} {R : Prop} (q : R) : (∃ a, V.str z = .str a) ∧ R := ⟨⟨z, rfl⟩, q⟩
theorem e_join {l : Addr} {z : Str} (ys : List Str) {R : Str → List Str → Prop} (h : SqL K H l (ys.map V.str)) (hz : (ys.map (·.length)).sum + ys.length * z.length ≤ 16777216) (q : R z ys) :
    ∃ a p, ∃ ys : List Str, V.str z = .str a ∧ [V.ref l] = [.ref p] ∧ (SqL K H p (ys.map V.str) ∨ SqT K H p (ys.map V.str)) ∧ (ys.map (·.length)).sum + ys.length * a.length ≤ 16777216 ∧ R a ys := ⟨z, l, ys, rfl, rfl, Or.inl h, hz, q⟩
/-- a comprehension over a tuple -/
theorem lcI_tup {g : TG} {tt : TT} {te : TE} {vs : List Nat} {a : Addr} {xs : List V} (hx : ∀ H', Same H H' → SqT K H' a xs) (hn : xs.length ≤ 1000000) (h : V → Option V)
    (turn : ∀ x H' (A : VK) (B : Hp → Prop), x ∈ xs → Same H H' → (∀ y H4, h x = some y → Same H' H4 → A y H4) → (h x = none → ∀ H3, Same H' H3 → B H3) →
      g x (wipe σ vs) H' fun σ2 H2 => wipe σ2 vs = wipe σ vs ∧ tt σ2 H2 fun b H3 => if b = true then te σ2 H3 A else B H3)
    (k : ∀ E H', H E = none → Same H H' → H' E = some (.lst (xs.filterMap h)) → Q (.ref E) H') : lcI σ vs g tt te Q (Itt K a) H := by
  refine lcI_same walk_tup hn (fun i => (xs[i]?).bind h) (fun H' s => hx H' s) (fun i H' x H'' y => by rw [y.1]; exact Same.refl _) (fun i x H' H'' A B hi s y kA kB => ?_) fun E H' e s q => k E H' e s (by rw [q, range_fm])
  obtain ⟨rfl, ex⟩ := y
  exact turn x H'' A B (List.mem_of_getElem? ex) s (fun v H4 ev s4 => kA v H4 (by rw [ex]; exact ev) s4) fun en H3 s3 => kB (by rw [ex]; exact en) H3 s3
theorem g_chain {r r' : R2} {ta tb tc : TE} (q : ta σ H fun x H1 => tb σ H1 fun y H2 => r x y H2 fun z H3 => ∃ k, z = .bl k ∧ (if k = true then tc σ H3 fun w' H4 => r' y w' H4 Q else Q (.bl false) H3)) : tChain r r' ta tb tc σ H Q := q
theorem e_isi {x : V} {t n : String} {b : Bool} (h : TyX K H x (.type t)) (k : kitB t n = some b) (q : Q (.bl b) H) : rIsi K [x, .ty n] H Q := ⟨x, _, _, _, b, rfl, ClsV.ty n, h, kit_ty k, q⟩
theorem ty_int {i : Int} : TyX K H (.int i) (.type "int") := .base (.int i)
theorem ty_str {s : Str} : TyX K H (.str s) (.type "str") := .base (.str s)
theorem ty_bl {b : Bool} : TyX K H (.bl b) (.type "bool") := .base (.bl b)
theorem ty_non : TyX K H .non (.type "NoneType") := .base .non
theorem ty_tup {a : Addr} {xs : List V} (h : H a = some (.tup xs)) : TyX K H (.ref a) (.type "tuple") := .base (.tup h)
theorem ty_list {a : Addr} {xs : List V} (h : H a = some (.lst xs)) : TyX K H (.ref a) (.type "list") := .base (.lst h)
theorem g_inS {c : Nat} {z : Str} {R : Bool → Hp → Prop} (q : R (decide (c ∈ z.cps.toList)) H) : ∃ (c' : Nat) (z' : Str), V.str ⟨#[c]⟩ = .str ⟨#[c']⟩ ∧ V.str z = .str z' ∧ ∃ k, V.bl (decide (c' ∈ z'.cps.toList)) = .bl k ∧ R k H := ⟨c, z, rfl, rfl, _, rfl, q⟩
theorem g_dnewK (q : ∀ d, H d = none → Q (.ref d) (upd H d (.dK []))) : tDNewK σ H Q := q
theorem e_dinS {d : Addr} {kvs : List (Key × V)} {n : Str} {R : Option V → Prop} (h : H d = some (.dK kvs)) (q : R (valV kvs (Sum.inr n))) : ∃ a o, V.ref d = .ref a ∧ DGet H a (.str n) o ∧ R o := ⟨d, _, rfl, DGet.k (k := Sum.inr n) h, q⟩
theorem e_dgetS {d : Addr} {kvs : List (Key × V)} {n : Str} {v : V} {R : V → Prop} (h : H d = some (.dK kvs)) (e : valV kvs (Sum.inr n) = some v) (q : R v) : ∃ a v, V.ref d = .ref a ∧ DGet H a (.str n) (some v) ∧ R v := ⟨d, v, rfl, by rw [← e]; exact DGet.k (k := Sum.inr n) h, q⟩
theorem e_dputS {d : Addr} {kvs : List (Key × V)} {n : Str} {v : V} {R : Hp → Prop} (h : H d = some (.dK kvs)) (hl : kvs.length ≤ 1000000) (q : R (upd H d (.dK (putK kvs (Sum.inr n) v)))) : ∃ a H4, V.ref d = .ref a ∧ DPut H a (.str n) v H4 ∧ R H4 := ⟨d, _, rfl, DPut.k (k := Sum.inr n) h (Nat.lt_of_le_of_lt hl (by decide)), q⟩
theorem g_appL {l : Addr} {xs : List V} {y : V} (h : H l = some (.lst xs)) (hl : xs.length ≤ 1000000) (q : Q .non (upd H l (.lst (xs ++ [y])))) : rAppend (.ref l) [y] H Q := ⟨l, xs, y, rfl, rfl, h, Nat.lt_of_le_of_lt hl (by decide), q⟩
theorem ty_lst {l : Addr} {xs : List V} {R : Prop} (h : H l = some (.lst xs)) (q : R) : tyV K "list" (.ref l) H ∧ R := ⟨Or.inl ⟨rfl, _, SqL.of h⟩, q⟩
end
end
end U
namespace M
open PySem L2
/-! ### names -/
def sign (c : Nat) : Bool := (decide (48 ≤ c) && decide (c ≤ 57)) || (decide (97 ≤ c) && decide (c ≤ 122))
def isName (s : Str) : Bool := decide (1 ≤ s.length) && decide (s.length ≤ 12) && s.cps.toList.all sign
theorem isName_of {s : Str} (h1 : 1 ≤ s.length) (h2 : s.length ≤ 12) (h3 : ∀ c ∈ s.cps.toList, sign c = true) : isName s = true := by
  unfold isName
  rw [decide_eq_true h1, decide_eq_true h2, List.all_eq_true.mpr h3] <;> rfl
theorem isName_out {s : Str} (h : isName s = true) : 1 ≤ s.length ∧ s.length ≤ 12 ∧ ∀ c ∈ s.cps.toList, sign c = true := by
  unfold isName at h
  rw [Bool.and_eq_true, Bool.and_eq_true] at h
  exact ⟨of_decide_eq_true h.1.1, of_decide_eq_true h.1.2, List.all_eq_true.mp h.2⟩
theorem len_list (s : Str) : s.cps.toList.length = s.length := Array.length_toList
theorem app_list (a b : Str) : (a ++ b).cps.toList = a.cps.toList ++ b.cps.toList := by
  show (a.cps ++ b.cps).toList = _
  rw [Array.toList_append]
theorem len_app (a b : Str) : (a ++ b).length = a.length + b.length := by
  rw [← len_list, app_list, List.length_append, len_list, len_list]
theorem str_ext {a b : Str} (h : a.cps.toList = b.cps.toList) : a = b := by
  cases a; cases b
  congr 1
  exact Array.ext' h
def isNameV (v : V) : Bool := match v with
  | .str s => isName s
  | _ => false
def intIn (a b : Int) (v : V) : Bool := match v with
  | .int i => decide (a ≤ i) && decide (i ≤ b)
  | _ => false
theorem isNameV_out {v : V} (h : isNameV v = true) : ∃ s, v = .str s ∧ isName s = true := by
  cases v <;> first | exact ⟨_, rfl, h⟩ | cases h
theorem intIn_out {a b : Int} {v : V} (h : intIn a b v = true) : ∃ i, v = .int i ∧ a ≤ i ∧ i ≤ b := by
  cases v <;> first | (rename_i i; have h : (decide (a ≤ i) && decide (i ≤ b)) = true := h; rw [Bool.and_eq_true] at h; exact ⟨i, rfl, of_decide_eq_true h.1, of_decide_eq_true h.2⟩) | cases h
theorem all_at {α : Type} {xs : List α} {f : α → Bool} (h : xs.all f = true) {j : Nat} {y : α} (e : xs[j]? = some y) : f y = true := List.all_eq_true.mp h y (List.mem_of_getElem? e)
/-- a dict of True by names -/
def known (ns : List Str) : List (Key × V) := ns.map fun s => (Sum.inr s, V.bl true)
theorem known_val (ns : List Str) (s : Str) : (valV (known ns) (Sum.inr s)).isSome = decide (s ∈ ns) := by
  induction ns with
  | nil => rfl
  | cons a r ih =>
    unfold known
    rw [List.map_cons]
    by_cases h : a = s
    · rw [valV_pos (by rw [h])]
      simp [h]
    · rw [valV_neg (by intro z; exact h (Sum.inr.inj z))]
      have ih' : (valV (r.map fun s => ((Sum.inr s : Key), V.bl true)) (Sum.inr s)).isSome = decide (s ∈ r) := ih
      rw [ih']
      have : s ≠ a := fun z => h z.symm
      simp [this]
theorem known_put {ns : List Str} {s : Str} (h : s ∉ ns) : putK (known ns) (Sum.inr s) (V.bl true) = known (ns ++ [s]) := by
  have h1 : valV (known ns) (Sum.inr s) = none := by
    have h2 := known_val ns s
    rw [decide_eq_false h] at h2
    cases e : valV (known ns) (Sum.inr s : Key) with
    | none => rfl
    | some v => rw [e] at h2; cases h2
  rw [putK_new _ h1]
  unfold known
  rw [List.map_append]
  rfl
/-- 'q' + str(i) -/
def qn (i : Nat) : Str := ("q" : Str) ++ (toString (i : Int) : Str)
theorem qn_all : (List.range 120).all (fun i => isName (qn i) && decide (("q" : Str).length + (toString (i : Int) : Str).length ≤ 12)) = true := by decide +kernel
theorem qn_ok {i : Nat} (h : i < 120) : isName (qn i) = true ∧ ("q" : Str).length + (toString (i : Int) : Str).length ≤ 12 := by
  have z := List.all_eq_true.mp qn_all i (List.mem_range.mpr h)
  rw [Bool.and_eq_true] at z
  exact ⟨z.1, of_decide_eq_true z.2⟩
theorem qn_nodup : ((List.range 120).map qn).Nodup := by decide +kernel
theorem qn_nd {n : Nat} (h : n ≤ 120) : ((List.range n).map qn).Nodup := by
  obtain ⟨k, e⟩ : ∃ k, (120 : Nat) = n + k := ⟨120 - n, by omega⟩
  have z := qn_nodup
  rw [e, List.range_add, List.map_append, List.nodup_append] at z
  exact z.1
theorem pigeon {α : Type} [DecidableEq α] : ∀ {l m : List α}, l.Nodup → (∀ x ∈ l, x ∈ m) → l.length ≤ m.length
  | [], _, _, _ => Nat.zero_le _
  | a :: r, m, nd, h => by
    have ha : a ∈ m := h a List.mem_cons_self
    have hr : ∀ x ∈ r, x ∈ m.erase a := fun x hx => (List.mem_erase_of_ne (fun e => by subst e; exact (List.nodup_cons.mp nd).1 hx)).mpr (h x (List.mem_cons_of_mem _ hx))
    have ih := pigeon (List.nodup_cons.mp nd).2 hr
    rw [List.length_erase_of_mem ha] at ih
    have : 0 < m.length := List.length_pos_of_mem ha
    rw [List.length_cons]
    omega
def notIn (ns : List Str) (v : V) : Option V := match v with
  | .str x => if x ∈ ns then none else some (.str x)
  | _ => none
theorem rest_first {ns : List Str} {n : Nat} (hl : ns.length < n) (hn : n ≤ 120) : ∃ r t, ((List.range n).filterMap fun i => some (V.str (qn i))).filterMap (notIn ns) = .str r :: t ∧ r ∉ ns ∧ isName r = true := by
  have ex : ∃ i, i < n ∧ qn i ∉ ns := by
    refine Classical.byContradiction fun no => ?_
    have : ∀ x ∈ (List.range n).map qn, x ∈ ns := fun x hx => by
      obtain ⟨i, hi, rfl⟩ := List.mem_map.mp hx
      exact Classical.byContradiction fun q => no ⟨i, List.mem_range.mp hi, q⟩
    have := pigeon (qn_nd hn) this
    rw [List.length_map, List.length_range] at this
    omega
  obtain ⟨i, hi, hq⟩ := ex
  have mem : V.str (qn i) ∈ ((List.range n).filterMap fun i => some (V.str (qn i))).filterMap (notIn ns) := by
    rw [List.mem_filterMap]
    exact ⟨V.str (qn i), List.mem_filterMap.mpr ⟨i, List.mem_range.mpr hi, rfl⟩, by show (if qn i ∈ ns then none else some (V.str (qn i))) = _; rw [if_neg hq]⟩
  cases e : ((List.range n).filterMap fun i => some (V.str (qn i))).filterMap (notIn ns) with
  | nil => rw [e] at mem; cases mem
  | cons v t =>
    have hv : v ∈ ((List.range n).filterMap fun i => some (V.str (qn i))).filterMap (notIn ns) := by rw [e]; exact List.mem_cons_self
    obtain ⟨u, hu, hv⟩ := List.mem_filterMap.mp hv
    obtain ⟨j, hj, hu⟩ := List.mem_filterMap.mp hu
    cases hu
    have hv : (if qn j ∈ ns then none else some (V.str (qn j))) = some v := hv
    by_cases c : qn j ∈ ns
    · rw [if_pos c] at hv; cases hv
    · rw [if_neg c] at hv
      cases hv
      exact ⟨qn j, t, rfl, c, (qn_ok (by have := List.mem_range.mp hj; omega)).1⟩
abbrev words : List V := [V.str "row", V.str "none", V.str "line", V.str "kinds", V.str "person", V.str "column", V.str "kind", V.str "0", V.str "abcdefghijkl"]
/-! ### registers as data -/
structure Knd where
  col : Str
  name : Str
  up : Option Str
  loss : Int
def upV : Option Str → V
  | none => .non
  | some s => .str s
def kindV (k : Knd) : List V := [.str k.col, .str k.name, upV k.up, .int k.loss]
/-- the kinds of one column, as they are drawn -/
inductive KOk (c : Str) : List Knd → Prop
  | nil : KOk c []
  | top {n : Str} {l : Int} (h : isName n = true) (hn : n ≠ "none") (h0 : 0 ≤ l) (h1 : l ≤ 1000000) : KOk c [⟨c, n, none, l⟩]
  | more {ks : List Knd} {o : Knd} {n : Str} {l : Int} (k : KOk c ks) (ho : o ∈ ks) (h : isName n = true) (hn : n ≠ "none") (nd : n ∉ ks.map (·.name)) (h0 : 0 ≤ l) (h1 : l ≤ o.loss) : KOk c (ks ++ [⟨c, n, some o.name, l⟩])
theorem KOk.loss {c : Str} {ks : List Knd} (k : KOk c ks) : ∀ o ∈ ks, 0 ≤ o.loss ∧ o.loss ≤ 1000000 := by
  induction k with
  | nil => intro o h; cases h
  | top h hn h0 h1 => intro o h; rw [List.mem_singleton] at h; subst h; exact ⟨h0, h1⟩
  | more k ho h hn nd h0 h1 ih =>
    intro o' h'
    rcases List.mem_append.mp h' with h' | h'
    · exact ih o' h'
    · rw [List.mem_singleton] at h'; subst h'
      have := ih _ ho
      exact ⟨h0, by show _ ≤ _; simp only; omega⟩
/-- tuples at their addresses -/
def TupAt (H : Hp) (v : V) (xs : List V) : Prop := ∃ a, v = .ref a ∧ H a = some (.tup xs)
abbrev TupL (H : Hp) : List V → List (List V) → Prop := Paired (TupAt H)
/-- all tuples stay -/
def TS (H H' : Hp) : Prop := ∀ a xs, H a = some (.tup xs) → H' a = some (.tup xs)
theorem TS.refl (H : Hp) : TS H H := fun _ _ h => h
theorem TS.trans {H H1 H2 : Hp} (a : TS H H1) (b : TS H1 H2) : TS H H2 := fun c o h => b c o (a c o h)
theorem TS.of {H H' : Hp} (s : Same H H') : TS H H' := fun a xs h => s a _ h
theorem TS.new {H : Hp} {p : Addr} {o : HO} (h : H p = none) : TS H (upd H p o) := TS.of (U.same_new h)
theorem TS.lst {H : Hp} {p : Addr} {o : HO} {xs : List V} (h : H p = some (.lst xs)) : TS H (upd H p o) := fun a ys e => by
  rw [upd_ne (ne_of e h (by intro z; cases z))]
  exact e
theorem TS.dK {H : Hp} {p : Addr} {o : HO} {xs : List (Key × V)} (h : H p = some (.dK xs)) : TS H (upd H p o) := fun a ys e => by
  rw [upd_ne (ne_of e h (by intro z; cases z))]
  exact e
theorem TS.ins {H : Hp} {p C dx : Addr} {o : HO} {fs : List (Str × V)} (h : H p = some (.ins C dx fs)) : TS H (upd H p o) := fun a ys e => by
  rw [upd_ne (ne_of e h (by intro z; cases z))]
  exact e
theorem TupAt.mono {H H' : Hp} {v : V} {xs : List V} (t : TS H H') (h : TupAt H v xs) : TupAt H' v xs := let ⟨a, e, h⟩ := h; ⟨a, e, t a xs h⟩
theorem TupL.mono {H H' : Hp} (t : TS H H') : ∀ {vs : List V} {xs : List (List V)}, TupL H vs xs → TupL H' vs xs
  | _, _, .nil => .nil
  | _, _, .cons a r => .cons (a.mono t) (TupL.mono t r)
theorem prd_at {α β : Type} {R : α → β → Prop} : ∀ {xs : List α} {ys : List β} {i : Nat} {x : α}, Paired R xs ys → xs[i]? = some x → ∃ y, ys[i]? = some y ∧ R x y
  | _, _, _, _, .nil, h => by simp at h
  | _, _, 0, _, .cons a _, h => by simp at h; subst h; exact ⟨_, rfl, a⟩
  | _, _, i + 1, x, .cons _ r, h => by
    obtain ⟨y, e, q⟩ := prd_at (i := i) r (by simpa using h)
    exact ⟨y, by simpa using e, q⟩
theorem prd_at2 {α β : Type} {R : α → β → Prop} : ∀ {xs : List α} {ys : List β} {i : Nat} {y : β}, Paired R xs ys → ys[i]? = some y → ∃ x, xs[i]? = some x ∧ R x y
  | _, _, _, _, .nil, h => by simp at h
  | _, _, 0, _, .cons a _, h => by simp at h; subst h; exact ⟨_, rfl, a⟩
  | _, _, i + 1, y, .cons _ r, h => by
    obtain ⟨x, e, q⟩ := prd_at2 (i := i) r (by simpa using h)
    exact ⟨x, by simpa using e, q⟩
theorem prd_len {α β : Type} {R : α → β → Prop} {xs : List α} {ys : List β} (p : Paired R xs ys) : xs.length = ys.length := Paired.length p
/-- names but none -/
def notNone (v : V) : Option V := match v with
  | .str x => if x = "none" then none else some (.str x)
  | _ => none
theorem notNone_map (ns : List Str) : (ns.map V.str).filterMap notNone = (ns.filter fun x : Str => !decide (x = "none")).map V.str := by
  induction ns with
  | nil => rfl
  | cons a r ih =>
    rw [List.map_cons, List.filterMap_cons]
    have e : notNone (.str a) = if a = "none" then none else some (.str a) := rfl
    rw [e]
    by_cases h : a = "none"
    · rw [if_pos h, List.filter_cons, if_neg (by rw [decide_eq_true h]; decide)]
      exact ih
    · rw [if_neg h, List.filter_cons, if_pos (by rw [decide_eq_false h]; rfl), List.map_cons, ← ih]
theorem notNone_len : ∀ {ns : List Str}, ns.Nodup → ns.length ≤ (ns.filter fun x : Str => !decide (x = "none")).length + 1
  | [], _ => Nat.zero_le _
  | a :: r, nd => by
    obtain ⟨h1, h2⟩ := List.nodup_cons.mp nd
    by_cases h : a = "none"
    · rw [List.filter_cons, if_neg (by rw [decide_eq_true h]; decide)]
      have : (r.filter fun x : Str => !decide (x = "none")) = r := List.filter_eq_self.mpr fun x hx => by
        have : x ≠ "none" := fun e => h1 (by rw [h, ← e]; exact hx)
        rw [decide_eq_false this]; rfl
      rw [this]
      exact Nat.le_refl _
    · rw [List.filter_cons, if_pos (by rw [decide_eq_false h]; rfl), List.length_cons, List.length_cons]
      have := notNone_len h2
      omega
theorem cut_take (xs : List V) (m : Nat) : cutV xs none (some (m : Int)) = xs.take m := by
  unfold cutV
  rw [HT.sIx_none, HT.sIx_nat, List.drop_zero, Nat.sub_zero]
  rw [Nat.min_def]
  split
  · rfl
  · rw [List.take_of_length_le (Nat.le_refl _), List.take_of_length_le (by omega)]
end M
namespace M
open PySem L2
/-! ### a register as data, and as it lies in the heap of a law -/
structure Reg where
  cols : List (Str × Bool)
  kinds : List Knd
  persons : List (Str × List V)
def wordOf (b : Bool) : Str := if b then "kinds" else "line"
def colV (c : Str × Bool) : List V := [.str c.1, .str (wordOf c.2)]
def PerAt (H : Hp) (v : V) (p : Str × List V) : Prop := ∃ a b, v = .ref a ∧ H a = some (.tup [.str p.1, .ref b]) ∧ H b = some (.tup p.2)
abbrev PerL (H : Hp) : List V → List (Str × List V) → Prop := Paired (PerAt H)
theorem PerL.mono {H H' : Hp} (t : TS H H') : ∀ {vs : List V} {xs : List (Str × List V)}, PerL H vs xs → PerL H' vs xs
  | _, _, .nil => .nil
  | _, _, .cons ⟨a, b, e, h1, h2⟩ r => .cons ⟨a, b, e, t a _ h1, t b _ h2⟩ (PerL.mono t r)
def valOk (R : Reg) (c : Str × Bool) (v : V) : Prop := if c.2 = true then ∃ k ∈ R.kinds, k.col = c.1 ∧ v = .str k.name else ∃ z : Int, v = .int z ∧ -1000000 ≤ z ∧ z ≤ 1000000
/-- the names of a column's kinds -/
def kindNames (R : Reg) (c : Str) : List Str := (R.kinds.filter fun k => decide (k.col = c)).map (·.name)
structure ColsOk (cs : List (Str × Bool)) : Prop where
  pos : 1 ≤ cs.length
  four : cs.length ≤ 4
  nd : (cs.map (·.1)).Nodup
  nm : ∀ c ∈ cs, isName c.1 = true
structure KindsOk (cs : List (Str × Bool)) (ks : List Knd) : Prop where
  each : ∀ c ∈ cs, c.2 = true → KOk c.1 (ks.filter fun k => decide (k.col = c.1)) ∧ 1 ≤ (ks.filter fun k => decide (k.col = c.1)).length ∧ (ks.filter fun k => decide (k.col = c.1)).length ≤ 60
  of : ∀ k ∈ ks, (k.col, true) ∈ cs
structure RegOk (R : Reg) : Prop where
  cols : ColsOk R.cols
  kinds : KindsOk R.cols R.kinds
  pl : R.persons.length ≤ 60
  pn : (R.persons.map (·.1)).Nodup
  pk : ∀ p ∈ R.persons, isName p.1 = true ∧ Paired (valOk R) R.cols p.2
def ownD (lc lk lp : Addr) : List (Key × V) := [(Sum.inr "columns", .ref lc), (Sum.inr "kinds", .ref lk), (Sum.inr "persons", .ref lp)]
/-- the law's own register: a dict of three lists -/
structure OwnX (H : Hp) (o lc lk lp : Addr) (R : Reg) : Prop where
  d : H o = some (.dK (ownD lc lk lp))
  c : ∃ cv, H lc = some (.lst cv) ∧ TupL H cv (R.cols.map colV)
  k : ∃ kv, H lk = some (.lst kv) ∧ TupL H kv (R.kinds.map kindV)
  p : ∃ pv, H lp = some (.lst pv) ∧ PerL H pv R.persons
def OwnAt (H : Hp) (o : Addr) (R : Reg) : Prop := ∃ lc lk lp, OwnX H o lc lk lp R
theorem own_c (lc lk lp : Addr) : valV (ownD lc lk lp) (Sum.inr "columns") = some (.ref lc) := by rfl
theorem own_k (lc lk lp : Addr) : valV (ownD lc lk lp) (Sum.inr "kinds") = some (.ref lk) := by
  unfold ownD
  rw [valV_neg (by intro z; exact absurd (Sum.inr.inj z) (by decide +kernel)), valV_pos rfl]
theorem own_p (lc lk lp : Addr) : valV (ownD lc lk lp) (Sum.inr "persons") = some (.ref lp) := by
  unfold ownD
  rw [valV_neg (by intro z; exact absurd (Sum.inr.inj z) (by decide +kernel)), valV_neg (by intro z; exact absurd (Sum.inr.inj z) (by decide +kernel)), valV_pos rfl]
theorem TupL.refs {H : Hp} {vs : List V} {xs : List (List V)} (h : TupL H vs xs) : ∀ v ∈ vs, ∃ a, v = .ref a := by
  intro v hv
  obtain ⟨i, hi⟩ := List.getElem?_of_mem hv
  obtain ⟨y, _, a, e, _⟩ := prd_at h hi
  exact ⟨a, e⟩
theorem PerL.refs {H : Hp} {vs : List V} {xs : List (Str × List V)} (h : PerL H vs xs) : ∀ v ∈ vs, ∃ a, v = .ref a := by
  intro v hv
  obtain ⟨i, hi⟩ := List.getElem?_of_mem hv
  obtain ⟨y, _, a, b, e, _⟩ := prd_at h hi
  exact ⟨a, e⟩
theorem ne_pot {H : Hp} {p l : Addr} {vs : List V} {x y z : Int} (hp : H p = some (.lst [.int x, .int y, .int z])) (hl : H l = some (.lst vs)) (h : ∀ v ∈ vs, ∃ a, v = .ref a) : l ≠ p := by
  intro e
  subst e
  rw [hp] at hl
  cases hl
  obtain ⟨a, e⟩ := h (.int x) List.mem_cons_self
  cases e
theorem kindNames_mem {R : Reg} {c : Str} {n : Str} (h : n ∈ kindNames R c) : ∃ k ∈ R.kinds, k.col = c ∧ n = k.name := by
  obtain ⟨k, hk, rfl⟩ := List.mem_map.mp h
  rw [List.mem_filter] at hk
  exact ⟨k, hk.1, of_decide_eq_true hk.2, rfl⟩
theorem own_merge (lc lk lp : Addr) : mergeK [] (ownD lc lk lp) = ownD lc lk lp := by
  have n1 : ¬ ((Sum.inr ("columns" : Str) : Key) = (Sum.inr ("kinds" : Str) : Key)) := by intro z; exact absurd (Sum.inr.inj z) (by decide +kernel)
  have n2 : ¬ ((Sum.inr ("columns" : Str) : Key) = (Sum.inr ("persons" : Str) : Key)) := by intro z; exact absurd (Sum.inr.inj z) (by decide +kernel)
  have n3 : ¬ ((Sum.inr ("kinds" : Str) : Key) = (Sum.inr ("persons" : Str) : Key)) := by intro z; exact absurd (Sum.inr.inj z) (by decide +kernel)
  have e1 : putK [] (Sum.inr ("columns" : Str) : Key) (V.ref lc) = [((Sum.inr ("columns" : Str) : Key), V.ref lc)] := putK_new _ valV_nil
  have e2 : putK [((Sum.inr ("columns" : Str) : Key), V.ref lc)] (Sum.inr ("kinds" : Str)) (V.ref lk) = [((Sum.inr ("columns" : Str) : Key), V.ref lc), (Sum.inr ("kinds" : Str), V.ref lk)] := putK_new _ (by rw [valV_neg n1, valV_nil])
  have e3 : putK [((Sum.inr ("columns" : Str) : Key), V.ref lc), (Sum.inr ("kinds" : Str), V.ref lk)] (Sum.inr ("persons" : Str)) (V.ref lp) = ownD lc lk lp := putK_new _ (by rw [valV_neg n2, valV_neg n3, valV_nil])
  show putK (putK (putK [] (Sum.inr ("columns" : Str) : Key) (V.ref lc)) (Sum.inr ("kinds" : Str)) (V.ref lk)) (Sum.inr ("persons" : Str)) (V.ref lp) = ownD lc lk lp
  rw [e1, e2, e3]
theorem KOk_col {c : Str} {ks : List Knd} (k : KOk c ks) : ∀ o ∈ ks, o.col = c := by
  induction k with
  | nil => intro o h; cases h
  | top => intro o h; rw [List.mem_singleton] at h; subst h; rfl
  | more k ho h hn nd h0 h1 ih =>
    intro o' h'
    rcases List.mem_append.mp h' with h' | h'
    · exact ih o' h'
    · rw [List.mem_singleton] at h'; subst h'; rfl
/-- one column's kinds more -/
theorem KindsOk.more {cs : List (Str × Bool)} {ks ks' : List Knd} {c : Str × Bool} (K : KindsOk cs ks) (nd : ((cs ++ [c]).map (·.1)).Nodup) (hc : c.2 = true) (ok : KOk c.1 ks') (h1 : 1 ≤ ks'.length) (h2 : ks'.length ≤ 60) : KindsOk (cs ++ [c]) (ks ++ ks') := by
  have hne : ∀ d ∈ cs, d.1 ≠ c.1 := fun d hd e => by
    rw [List.map_append, List.nodup_append] at nd
    exact nd.2.2 d.1 (List.mem_map_of_mem hd) c.1 (by simp) e
  have col := KOk_col ok
  refine ⟨fun d hd h => ?_, fun k hk => ?_⟩
  · rcases List.mem_append.mp hd with hd | hd
    · have : (ks'.filter fun k => decide (k.col = d.1)) = [] := List.filter_eq_nil_iff.mpr fun k hk => by
        rw [col k hk]
        intro z
        exact hne d hd (of_decide_eq_true z).symm
      rw [List.filter_append, this, List.append_nil]
      exact K.each d hd h
    · rw [List.mem_singleton] at hd
      subst hd
      have e1 : (ks.filter fun k => decide (k.col = d.1)) = [] := List.filter_eq_nil_iff.mpr fun k hk => by
        intro z
        exact hne _ (K.of k hk) (of_decide_eq_true z)
      have e2 : (ks'.filter fun k => decide (k.col = d.1)) = ks' := List.filter_eq_self.mpr fun k hk => decide_eq_true (col k hk)
      rw [List.filter_append, e1, e2, List.nil_append]
      exact ⟨ok, h1, h2⟩
  · rcases List.mem_append.mp hk with hk | hk
    · exact List.mem_append_left _ (K.of k hk)
    · refine List.mem_append_right _ ?_
      rw [List.mem_singleton, col k hk, ← hc]
/-- a column without kinds more -/
theorem KindsOk.line {cs : List (Str × Bool)} {ks : List Knd} {c : Str × Bool} (K : KindsOk cs ks) (hc : c.2 = false) : KindsOk (cs ++ [c]) ks := by
  refine ⟨fun d hd h => ?_, fun k hk => List.mem_append_left _ (K.of k hk)⟩
  rcases List.mem_append.mp hd with hd | hd
  · exact K.each d hd h
  · rw [List.mem_singleton] at hd; subst hd; rw [hc] at h; cases h
/-! ### data at any depth -/
def vD : V → PyData
  | .int i => .int i
  | .str s => .str s
  | .bl b => .bool b
  | _ => .none
def flat2 : V → Bool
  | .int _ => true
  | .str s => PyData.canLay0 (.str s)
  | .non => true
  | .bl _ => true
  | _ => false
theorem vD_dp {K : PySem.W.Frag} {H : Hp} {v : V} (h : flat2 v = true) : Dp K H v (vD v) := by
  cases v <;> first | exact Dp.non | exact Dp.bl _ | exact Dp.int _ | exact Dp.str _ | cases h
theorem vD_lay {v : V} (h : flat2 v = true) : (vD v).canLay0 = true := by
  cases v <;> first | rfl | exact h | cases h
theorem vD_depth {v : V} (h : flat2 v = true) : (vD v).depth = 0 := by
  cases v <;> first | rfl | cases h
theorem vDs_dp {K : PySem.W.Frag} {H : Hp} : ∀ {vs : List V}, vs.all flat2 = true → DpAll K H vs (vs.map vD)
  | [], _ => .nil
  | v :: r, h => by
    rw [List.all_cons, Bool.and_eq_true] at h
    exact .cons (vD_dp h.1) (vDs_dp h.2)
theorem lay_all : ∀ {ds : List PyData}, (∀ d ∈ ds, d.canLay0 = true) → PyData.canLayAll0 ds = true
  | [], _ => rfl
  | d :: r, h => by
    show (d.canLay0 && PyData.canLayAll0 r) = true
    rw [h d List.mem_cons_self, lay_all fun x hx => h x (List.mem_cons_of_mem _ hx)] <;> rfl
theorem depth_all {m : Nat} : ∀ {ds : List PyData}, (∀ d ∈ ds, d.depth ≤ m) → PyData.depthAll ds ≤ m
  | [], _ => Nat.zero_le _
  | d :: r, h => by
    show max d.depth (PyData.depthAll r) ≤ m
    exact Nat.max_le.mpr ⟨h d List.mem_cons_self, depth_all fun x hx => h x (List.mem_cons_of_mem _ hx)⟩
theorem flats_lay {vs : List V} (h : vs.all flat2 = true) : PyData.canLayAll0 (vs.map vD) = true := lay_all fun d hd => by
  obtain ⟨v, hv, rfl⟩ := List.mem_map.mp hd
  exact vD_lay (List.all_eq_true.mp h v hv)
theorem flats_depth {vs : List V} (h : vs.all flat2 = true) : PyData.depthAll (vs.map vD) ≤ 0 := depth_all fun d hd => by
  obtain ⟨v, hv, rfl⟩ := List.mem_map.mp hd
  rw [vD_depth (List.all_eq_true.mp h v hv)]
  exact Nat.le_refl _
def perD (p : Str × List V) : PyData := .tuple [.str p.1, .tuple (p.2.map vD)]
def perFlat (p : Str × List V) : Prop := PyData.canLay0 (.str p.1) = true ∧ p.2.all flat2 = true
theorem isName_lay {s : Str} (h : isName s = true) : PyData.canLay0 (.str s) = true := by
  show (s.cps.all (· < 0x110000)) = true
  rw [← Array.all_toList]
  refine List.all_eq_true.mpr fun c hc => ?_
  have := (isName_out h).2.2 c hc
  unfold sign at this
  refine decide_eq_true ?_
  simp only [Bool.or_eq_true, Bool.and_eq_true, decide_eq_true_eq] at this
  omega
theorem per_dp {K : PySem.W.Frag} {H : Hp} {v : V} {p : Str × List V} (h : PerAt H v p) (f : perFlat p) : Dp K H v (perD p) := by
  obtain ⟨a, b, rfl, h1, h2⟩ := h
  exact Dp.tup (SqT.of h1) (.cons (Dp.str _) (.cons (Dp.tup (SqT.of h2) (vDs_dp f.2)) .nil))
theorem pers_dp {K : PySem.W.Frag} {H : Hp} : ∀ {vs : List V} {ps : List (Str × List V)}, PerL H vs ps → (∀ p ∈ ps, perFlat p) → DpAll K H vs (ps.map perD)
  | _, _, .nil, _ => .nil
  | _, _, .cons a r, f => .cons (per_dp a (f _ List.mem_cons_self)) (pers_dp r fun p hp => f p (List.mem_cons_of_mem _ hp))
theorem per_lay {p : Str × List V} (f : perFlat p) : (perD p).canLay0 = true := by
  show (PyData.canLay0 (.str p.1) && ((PyData.canLayAll0 (p.2.map vD)) && true)) = true
  rw [f.1, flats_lay f.2] <;> rfl
theorem per_depth {p : Str × List V} (f : perFlat p) : (perD p).depth ≤ 3 := by
  have := flats_depth f.2
  simp only [perD, PyData.depth, PyData.depthAll]
  omega
theorem pers_shaped {ps : List (Str × List V)} (f : ∀ p ∈ ps, perFlat p) : SeqAt.shaped (.list (ps.map perD)) = true := by
  unfold SeqAt.shaped
  rw [Bool.and_eq_true]
  refine ⟨lay_all fun d hd => ?_, decide_eq_true ?_⟩
  · obtain ⟨p, hp, rfl⟩ := List.mem_map.mp hd
    exact per_lay (f p hp)
  · have : PyData.depthAll (ps.map perD) ≤ 3 := depth_all fun d hd => by
      obtain ⟨p, hp, rfl⟩ := List.mem_map.mp hd
      exact per_depth (f p hp)
    simp only [PyData.depth]
    omega
theorem valOk_flat {R : Reg} {c : Str × Bool} {v : V} (hk : ∀ k ∈ R.kinds, isName k.name = true) (h : valOk R c v) : flat2 v = true := by
  unfold valOk at h
  split at h
  · obtain ⟨k, h1, _, rfl⟩ := h
    exact isName_lay (hk k h1)
  · obtain ⟨z, rfl, _⟩ := h
    rfl
theorem valsOk_flat {R : Reg} (hk : ∀ k ∈ R.kinds, isName k.name = true) : ∀ {cs : List (Str × Bool)} {vs : List V}, Paired (valOk R) cs vs → vs.all flat2 = true
  | _, _, .nil => rfl
  | _, _, .cons a r => by rw [List.all_cons, valOk_flat hk a, valsOk_flat hk r] <;> rfl
theorem KOk_name {c : Str} {ks : List Knd} (k : KOk c ks) : ∀ o ∈ ks, isName o.name = true ∧ o.name ≠ "none" := by
  induction k with
  | nil => intro o h; cases h
  | top h hn => intro o h'; rw [List.mem_singleton] at h'; subst h'; exact ⟨h, hn⟩
  | more k ho h hn nd h0 h1 ih =>
    intro o' h'
    rcases List.mem_append.mp h' with h' | h'
    · exact ih o' h'
    · rw [List.mem_singleton] at h'; subst h'; exact ⟨h, hn⟩
theorem KindsOk.name {cs : List (Str × Bool)} {ks : List Knd} (K : KindsOk cs ks) : ∀ k ∈ ks, isName k.name = true ∧ k.name ≠ "none" := fun k hk => by
  have hc := K.of k hk
  have ok := (K.each _ hc rfl).1
  exact KOk_name ok k (List.mem_filter.mpr ⟨hk, decide_eq_true rfl⟩)
/-! ### the text of a register -/
def upS (o : Option Str) : Str := o.getD "none"
def vS : V → Str
  | .int z => (toString z : Str)
  | .str s => s
  | _ => ""
def colLine (c : Str × Bool) : Str := ((("column " : Str) ++ c.1) ++ (" " : Str)) ++ wordOf c.2
def kindWords (k : Knd) : List Str := ["kind", k.col, k.name, upS k.up, (toString k.loss : Str)]
def perWords (p : Str × List V) : List Str := ("person" : Str) :: p.1 :: p.2.map vS
def regLines (R : Reg) : List Str := R.cols.map colLine ++ (R.kinds.map fun k => Txt.join " " (kindWords k)) ++ R.persons.map fun p => Txt.join " " (perWords p)
def regText (R : Reg) : Str := Txt.join "\n" (regLines R)
theorem int_len {z : Int} (h0 : -1000000 ≤ z) (h1 : z ≤ 1000000) : (toString z : Str).length ≤ 30 := by
  have e := int_text_length_le10 (a := z) (k := 7) (by decide) (by omega)
  show (Str.ofString (toString z)).length ≤ 30
  rw [ofString_length]
  omega
theorem wordOf_len (b : Bool) : (wordOf b).length ≤ 5 := by cases b <;> decide +kernel
theorem sum_le {α : Type} {f : α → Nat} {m : Nat} : ∀ {xs : List α}, (∀ x ∈ xs, f x ≤ m) → (xs.map f).sum ≤ xs.length * m
  | [], _ => Nat.zero_le _
  | a :: r, h => by
    rw [List.map_cons, List.sum_cons, List.length_cons, Nat.succ_mul]
    have h1 := h a List.mem_cons_self
    have h2 := sum_le (xs := r) fun x hx => h x (List.mem_cons_of_mem _ hx)
    omega
end M
namespace M
open PySem L2
/-! ### the scales of the program -/
def wayOf (ps : List (Str × List Str)) (n : Str) : List Str := (ps.lookup n).getD []
def wayStep (ps : List (Str × List Str)) (k : Knd) : List Str := k.name :: match k.up with
  | none => []
  | some u => wayOf ps u
/-- each kind with the way up from it, in their order -/
def ways (ks : List Knd) : List (Str × List Str) := ks.foldl (fun ps k => ps ++ [(k.name, wayStep ps k)]) []
theorem ways_snoc (ks : List Knd) (k : Knd) : ways (ks ++ [k]) = ways ks ++ [(k.name, wayStep (ways ks) k)] := by
  unfold ways
  rw [List.foldl_append]
  rfl
theorem snoc_ind {α : Type} {p : List α → Prop} (h0 : p []) (h1 : ∀ l a, p l → p (l ++ [a])) : ∀ l, p l := fun l => by
  have h : ∀ m : List α, p m.reverse := fun m => by
    induction m with
    | nil => exact h0
    | cons a r ih => rw [List.reverse_cons]; exact h1 _ _ ih
  have := h l.reverse
  rwa [List.reverse_reverse] at this
theorem ways_names (ks : List Knd) : (ways ks).map (·.1) = ks.map (·.name) := by
  induction ks using snoc_ind with
  | h0 => rfl
  | h1 l a ih => rw [ways_snoc, List.map_append, List.map_append, ih]; rfl
theorem ways_len (ks : List Knd) : (ways ks).length = ks.length := by
  have := congrArg List.length (ways_names ks)
  rwa [List.length_map, List.length_map] at this
theorem lookup_mem {α β : Type} [BEq α] [LawfulBEq α] {k : α} {v : β} : ∀ {ps : List (α × β)}, ps.lookup k = some v → (k, v) ∈ ps
  | [], h => by cases h
  | (j, w) :: r, h => by
    rw [List.lookup_cons] at h
    cases e : k == j with
    | true =>
      rw [e] at h
      cases h
      rw [eq_of_beq e]
      exact List.mem_cons_self
    | false =>
      rw [e] at h
      exact List.mem_cons_of_mem _ (lookup_mem h)
theorem wayOf_in (ps : List (Str × List Str)) (n : Str) : wayOf ps n = [] ∨ (n, wayOf ps n) ∈ ps := by
  unfold wayOf
  cases e : ps.lookup n with
  | none => exact .inl rfl
  | some w => exact .inr (lookup_mem e)
theorem ways_wlen (ks : List Knd) : ∀ p ∈ ways ks, p.2.length ≤ ks.length := by
  induction ks using snoc_ind with
  | h0 => intro p h; cases h
  | h1 l a ih =>
    intro p h
    rw [ways_snoc] at h
    rw [List.length_append]
    rcases List.mem_append.mp h with h | h
    · have := ih p h; omega
    · rw [List.mem_singleton] at h
      subst h
      show (a.name :: _).length ≤ l.length + 1
      rw [List.length_cons]
      cases e : a.up with
      | none => exact Nat.succ_le_succ (Nat.zero_le _)
      | some u =>
        show (wayOf (ways l) u).length + 1 ≤ _
        rcases wayOf_in (ways l) u with h | h
        · rw [h]; exact Nat.succ_le_succ (Nat.zero_le _)
        · have : (wayOf (ways l) u).length ≤ l.length := ih _ h
          omega
theorem wayOf_len (ks : List Knd) (n : Str) : (wayOf (ways ks) n).length ≤ ks.length := by
  rcases wayOf_in (ways ks) n with h | h
  · rw [h]; exact Nat.zero_le _
  · exact ways_wlen ks _ h
def WayAt (H : Hp) (kv : Key × V) (p : Str × List Str) : Prop := kv.1 = Sum.inr p.1 ∧ TupAt H kv.2 (p.2.map V.str)
theorem g_lenD {K : PySem.W.Frag} {H : Hp} {Q : VK} {d : Addr} {kvs : List (Key × V)} (h : H d = some (.dK kvs)) (q : Q (.int kvs.length) H) : U.uLen K [.ref d] H Q := Or.inr ⟨kvs, h, q⟩
theorem g_sfld {K : PySem.W.Frag} {σ : L2.St} {H : Hp} {D : Ends} {ta tv : TE} {f : Str} (q : tv σ H fun y H1 => ta σ H1 fun x H2 => ∃ a C dx fs, x = .ref a ∧ H2 a = some (.ins C dx fs) ∧ Cls K C ∧ NoAttr K C f ∧ fs.length < 1000 ∧ D.nx σ (upd H2 a (.ins C dx (putF f y fs)))) : sFld K ta tv f D σ H := q
theorem g_fld {K : PySem.W.Frag} {σ : L2.St} {H : Hp} {Q : VK} {ta : TE} {f : Str} (q : ta σ H fun x H1 => ∃ a C dx fs v, x = .ref a ∧ H1 a = some (.ins C dx fs) ∧ Cls K C ∧ NoAttr K C f ∧ fs.lookup f = some v ∧ Q v H1) : tFld K ta f σ H Q := q
def lossD (ks : List Knd) : List (Key × V) := ks.map fun k => (Sum.inr k.name, V.int k.loss)
theorem val_paired {H : Hp} {n : Str} : ∀ {kvs : List (Key × V)} {ps : List (Str × List Str)}, Paired (WayAt H) kvs ps →
    ((n ∉ ps.map (·.1) ∧ valV kvs (Sum.inr n) = none) ∨ (n ∈ ps.map (·.1) ∧ ∃ v, valV kvs (Sum.inr n) = some v ∧ TupAt H v ((wayOf ps n).map V.str)))
  | _, _, .nil => .inl ⟨by simp, valV_nil⟩
  | (k, v) :: kvs, (m, w) :: ps, .cons ⟨e, t⟩ r => by
    have e : k = Sum.inr m := e
    subst e
    by_cases c : n = m
    · subst c
      refine .inr ⟨by simp, v, valV_pos rfl, ?_⟩
      have : wayOf ((n, w) :: ps) n = w := by unfold wayOf; rw [List.lookup_cons_self]; rfl
      rw [this]
      exact t
    · have nk : ¬ ((Sum.inr m : Key) = Sum.inr n) := fun z => c (Sum.inr.inj z).symm
      have eq : wayOf ((m, w) :: ps) n = wayOf ps n := by
        unfold wayOf
        rw [List.lookup_cons, show (n == m) = false from beq_false_of_ne c]
      rw [valV_neg nk, eq]
      rcases val_paired (n := n) r with ⟨h1, h2⟩ | ⟨h1, h2⟩
      · exact .inl ⟨by simp only [List.map_cons, List.mem_cons, not_or]; exact ⟨c, h1⟩, h2⟩
      · exact .inr ⟨List.mem_cons_of_mem _ h1, h2⟩
theorem lk_fst {k : Str} {v : V} {r : List (Str × V)} : ((k, v) :: r).lookup k = some v := by rw [List.lookup_cons_self]
theorem lk_nxt {k j : Str} {v : V} {r : List (Str × V)} (h : (k == j) = false) : ((j, v) :: r).lookup k = r.lookup k := by rw [List.lookup_cons, h]
theorem lk_nil2 {k a b : Str} {x y : V} (h1 : (k == a) = false) (h2 : (k == b) = false) : [(a, x), (b, y)].lookup k = none := by rw [lk_nxt h1, lk_nxt h2]; rfl
/-- a tree of kinds at a: its dict at dx, its ways up at u, its losses at l -/
structure TreeX (CT : Addr) (H : Hp) (a dx u l : Addr) (ks : List Knd) : Prop where
  hi : H a = some (.ins CT dx [("ups", .ref u), ("losses", .ref l)])
  hu : ∃ kvs, H u = some (.dK kvs) ∧ Paired (WayAt H) kvs (ways ks)
  hl : H l = some (.dK (lossD ks))
  hn : l ≠ u
theorem TreeX.ups {K : PySem.W.Frag} {CT : Addr} {H : Hp} {a dx u l : Addr} {ks : List Knd} (tr : TreeX CT H a dx u l ks) (c : Cls K CT) (n : NoAttr K CT "ups") {R : V → Prop} (q : R (.ref u)) :
    ∃ a' C dx fs v, V.ref a = .ref a' ∧ H a' = some (.ins C dx fs) ∧ Cls K C ∧ NoAttr K C "ups" ∧ fs.lookup ("ups" : Str) = some v ∧ R v := ⟨a, CT, dx, _, _, rfl, tr.hi, c, n, lk_fst, q⟩
theorem TreeX.losses {K : PySem.W.Frag} {CT : Addr} {H : Hp} {a dx u l : Addr} {ks : List Knd} (tr : TreeX CT H a dx u l ks) (c : Cls K CT) (n : NoAttr K CT "losses") {R : V → Prop} (q : R (.ref l)) :
    ∃ a' C dx fs v, V.ref a = .ref a' ∧ H a' = some (.ins C dx fs) ∧ Cls K C ∧ NoAttr K C "losses" ∧ fs.lookup ("losses" : Str) = some v ∧ R v := ⟨a, CT, dx, _, _, rfl, tr.hi, c, n, (lk_nxt (by decide +kernel)).trans lk_fst, q⟩
theorem TreeX.looks {CT : Addr} {H : Hp} {a dx u l : Addr} {ks : List Knd} (tr : TreeX CT H a dx u l ks) (n : Str) : ∃ kvs, H u = some (.dK kvs) ∧ kvs.length = ks.length ∧ (valV kvs (Sum.inr n)).isSome = decide (n ∈ ks.map (·.name)) ∧ (n ∈ ks.map (·.name) → ∃ v, valV kvs (Sum.inr n) = some v ∧ TupAt H v ((wayOf (ways ks) n).map V.str)) := by
  obtain ⟨kvs, e, p⟩ := tr.hu
  refine ⟨kvs, e, by rw [prd_len p, ways_len], ?_⟩
  rw [← ways_names]
  rcases val_paired (n := n) p with ⟨h1, h2⟩ | ⟨h1, v, h2, h3⟩
  · exact ⟨by rw [h2, decide_eq_false h1]; rfl, fun z => absurd z h1⟩
  · exact ⟨by rw [h2, decide_eq_true h1]; rfl, fun _ => ⟨v, h2, h3⟩⟩
theorem WayAt.mono {H H' : Hp} (t : TS H H') {kv : Key × V} {p : Str × List Str} (h : WayAt H kv p) : WayAt H' kv p := ⟨h.1, h.2.mono t⟩
theorem prd_snoc {α β : Type} {R : α → β → Prop} {a : α} {b : β} : ∀ {xs : List α} {ys : List β}, Paired R xs ys → R a b → Paired R (xs ++ [a]) (ys ++ [b])
  | _, _, .nil, h => .cons h .nil
  | _, _, .cons p r, h => .cons p (prd_snoc r h)
theorem prd_mono {α β : Type} {R S : α → β → Prop} (h : ∀ a b, R a b → S a b) : ∀ {xs : List α} {ys : List β}, Paired R xs ys → Paired S xs ys
  | _, _, .nil => .nil
  | _, _, .cons p r => .cons (h _ _ p) (prd_mono h r)
theorem TreeX.mono {CT a dx u l : Addr} {ks : List Knd} {H H' : Hp} (s : Same H H') (h : TreeX CT H a dx u l ks) : TreeX CT H' a dx u l ks :=
  ⟨s _ _ h.hi, let ⟨kvs, e, p⟩ := h.hu; ⟨kvs, s _ _ e, prd_mono (fun _ _ => WayAt.mono (TS.of s)) p⟩, s _ _ h.hl, h.hn⟩
/-- a scale: of a line, of a column of kinds -/
def ScaleAt (CL CT : Addr) (H : Hp) (v : V) (c : Str × Bool) (ks : List Knd) : Prop :=
  if c.2 = true then ∃ a dx u l, v = .ref a ∧ TreeX CT H a dx u l ks else ∃ a dx, v = .ref a ∧ H a = some (.ins CL dx [])
theorem ScaleAt.mono {CL CT : Addr} {H H' : Hp} {v : V} {c : Str × Bool} {ks : List Knd} (s : Same H H') (h : ScaleAt CL CT H v c ks) : ScaleAt CL CT H' v c ks := by
  unfold ScaleAt at h ⊢
  split at h
  · rename_i e
    rw [if_pos e]
    obtain ⟨a, dx, u, l, rfl, t⟩ := h
    exact ⟨a, dx, u, l, rfl, t.mono s⟩
  · rename_i e
    rw [if_neg e]
    obtain ⟨a, dx, rfl, t⟩ := h
    exact ⟨a, dx, rfl, s _ _ t⟩
/-- the kinds of a column -/
abbrev ksOf (ks : List Knd) (c : Str) : List Knd := ks.filter fun k => decide (k.col = c)
/-- the dict of the scales of the columns -/
def ScalesAt (CL CT : Addr) (H : Hp) (kvs : List (Key × V)) (cs : List (Str × Bool)) (ks : List Knd) : Prop :=
  Paired (fun kv c => kv.1 = Sum.inr c.1 ∧ ScaleAt CL CT H kv.2 c (ksOf ks c.1)) kvs cs
theorem ScalesAt.mono {CL CT : Addr} {H H' : Hp} {kvs : List (Key × V)} {cs : List (Str × Bool)} {ks : List Knd} (s : Same H H') (h : ScalesAt CL CT H kvs cs ks) : ScalesAt CL CT H' kvs cs ks :=
  prd_mono (fun _ _ q => ⟨q.1, q.2.mono s⟩) h
def isKind (ks : List Knd) (v : V) : Bool := match v with
  | .str n => decide (n ∈ ks.map (·.name))
  | _ => false
theorem TreeX.lock {CT : Addr} {H H' : Hp} {a dx u l d : Addr} {ks : List Knd} {kvs : List (Key × V)} {k : Key} {od : Obj} (hd : H d = some (.dK kvs)) (hx : (k, V.ref a) ∈ kvs) (h : TreeX CT H a dx u l ks) (s : Same (upd H d (.frz od (.dK kvs))) H') : TreeX CT H' a dx u l ks := by
  have ts : TS H H' := fun c xs e => s _ _ ((upd_ne (fun z => by rw [z, hd] at e; cases e)).trans e)
  refine ⟨s _ _ ((upd_ne (fun z => by rw [← z, h.hi] at hd; cases hd)).trans h.hi), ?_, ?_, h.hn⟩
  · obtain ⟨kvs', e, p⟩ := h.hu
    refine ⟨kvs', s _ _ ((upd_ne fun z => ?_).trans e), prd_mono (fun _ _ => WayAt.mono ts) p⟩
    rw [z, hd] at e
    cases e
    obtain ⟨i, hi⟩ := List.getElem?_of_mem hx
    obtain ⟨y, _, _, a', e', t⟩ := prd_at p hi
    cases e'
    rw [h.hi] at t
    cases t
  · refine s _ _ ((upd_ne fun z => ?_).trans h.hl)
    have e := h.hl
    rw [z, hd] at e
    cases e
    obtain ⟨k', _, e'⟩ := List.mem_map.mp hx
    cases e'
theorem ScaleAt.lock {CL CT : Addr} {H H' : Hp} {d : Addr} {c : Str × Bool} {ks : List Knd} {kvs : List (Key × V)} {k : Key} {x : V} {od : Obj} (hd : H d = some (.dK kvs)) (hx : (k, x) ∈ kvs) (h : ScaleAt CL CT H x c ks) (s : Same (upd H d (.frz od (.dK kvs))) H') : ScaleAt CL CT H' x c ks := by
  unfold ScaleAt at h ⊢
  split at h
  · rename_i e
    rw [if_pos e]
    obtain ⟨a, dx, u, l, rfl, t⟩ := h
    exact ⟨a, dx, u, l, rfl, t.lock hd hx s⟩
  · rename_i e
    rw [if_neg e]
    obtain ⟨a, dx, rfl, t⟩ := h
    exact ⟨a, dx, rfl, s _ _ ((upd_ne (fun z => by rw [← z, t] at hd; cases hd)).trans t)⟩
/-- what is a value of a column -/
def isVal (c : Str × Bool) (ks : List Knd) (v : V) : Bool := if c.2 = true then isKind ks v else intIn (-1000000) 1000000 v
/-- None, a truth value, an int, a text -/
def plainV : V → Bool
  | .non => true
  | .bl _ => true
  | .int _ => true
  | .str s => decide (s.length ≤ 1000000)
  | _ => false
def valsStand (cs : List (Str × Bool)) (ks : List Knd) (vals : List V) : Bool := decide (vals.length = cs.length) && (cs.zip vals).all fun p => isVal p.1 (ksOf ks p.1.1) p.2
theorem plain_int {K : PySem.W.Frag} {H : Hp} {v : V} (h : plainV v = true) (h2 : ∀ z, v ≠ .int z) : ∃ (t : String) (b1 b2 : Bool), TyX K H v (.type t) ∧ kitB t "int" = some b1 ∧ kitB t "bool" = some b2 ∧ (b1 && !b2) = false := by
  cases v with
  | non => exact ⟨"NoneType", false, false, U.ty_non, by decide +kernel, by decide +kernel, rfl⟩
  | bl b => exact ⟨"bool", true, true, U.ty_bl, by decide +kernel, by decide +kernel, rfl⟩
  | int z => exact absurd rfl (h2 z)
  | str s => exact ⟨"str", false, false, U.ty_str, by decide +kernel, by decide +kernel, rfl⟩
  | _ => cases h
theorem plain_str {K : PySem.W.Frag} {H : Hp} {v : V} (h : plainV v = true) (h2 : ∀ z, v ≠ .str z) : ∃ (t : String), TyX K H v (.type t) ∧ kitB t "str" = some false := by
  cases v with
  | non => exact ⟨"NoneType", U.ty_non, by decide +kernel⟩
  | bl b => exact ⟨"bool", U.ty_bl, by decide +kernel⟩
  | int z => exact ⟨"int", U.ty_int, by decide +kernel⟩
  | str s => exact absurd rfl (h2 s)
  | _ => cases h
theorem e_isval_line {K : PySem.W.Frag} {H : Hp} {Q : VK} {v : V} (h : plainV v = true) (q : Q (.bl (intIn (-1000000) 1000000 v)) H) : (∃ z : Int, v = .int z ∧ Q (.bl (decide (-1000000 ≤ z) && decide (z ≤ 1000000))) H) ∨ (∃ (t : String) (b1 b2 : Bool), TyX K H v (.type t) ∧ kitB t "int" = some b1 ∧ kitB t "bool" = some b2 ∧ (b1 && !b2) = false ∧ Q (.bl false) H) := by
  by_cases c : ∃ z, v = .int z
  · obtain ⟨z, rfl⟩ := c
    exact .inl ⟨z, rfl, q⟩
  · obtain ⟨t, b1, b2, h1, h2, h3, h4⟩ := plain_int (K := K) (H := H) h fun z e => c ⟨z, e⟩
    refine .inr ⟨t, b1, b2, h1, h2, h3, h4, ?_⟩
    have e : intIn (-1000000) 1000000 v = false := by
      unfold intIn
      split
      · rename_i z; exact absurd ⟨z, rfl⟩ c
      · rfl
    rw [e] at q
    exact q
theorem e_isval_tree {K : PySem.W.Frag} {H : Hp} {Q : VK} {ks : List Knd} {v : V} (h : plainV v = true) (q : Q (.bl (isKind ks v)) H) : (∃ n : Str, v = .str n ∧ Q (.bl (decide (n ∈ ks.map (·.name)))) H) ∨ (∃ t : String, TyX K H v (.type t) ∧ kitB t "str" = some false ∧ Q (.bl false) H) := by
  by_cases c : ∃ z, v = .str z
  · obtain ⟨z, rfl⟩ := c
    exact .inl ⟨z, rfl, q⟩
  · obtain ⟨t, h1, h2⟩ := plain_str (K := K) (H := H) h fun z e => c ⟨z, e⟩
    refine .inr ⟨t, h1, h2, ?_⟩
    have e : isKind ks v = false := by
      unfold isKind
      split
      · rename_i z; exact absurd ⟨z, rfl⟩ c
      · rfl
    rw [e] at q
    exact q
theorem cut_1 (a : V) (r : List V) : cutV (a :: r) (some 1) none = r := by
  have e : cutV (a :: r) (some ((1 : Nat) : Int)) none = r := by
    unfold cutV
    rw [HT.sIx_none, HT.sIx_nat, List.length_cons]
    have m : min 1 (r.length + 1) = 1 := by omega
    rw [m]
    show (r.drop 0).take _ = _
    rw [List.drop_zero, List.take_of_length_le (by omega)]
  exact e
theorem none_of {H H' : Hp} {p : Addr} (s : Same H H') (h : H' p = none) : H p = none := by
  cases e : H p with
  | none => rfl
  | some o => have := s _ _ e; rw [h] at this; cases this
def lossOf (ks : List Knd) (n : Str) : Int := ((ks.find? fun k => decide (k.name = n)).map (·.loss)).getD 0
theorem val_loss (n : Str) : ∀ ks : List Knd, (n ∈ ks.map (·.name) → valV (lossD ks) (Sum.inr n) = some (.int (lossOf ks n))) ∧ (n ∉ ks.map (·.name) → valV (lossD ks) (Sum.inr n) = none)
  | [] => ⟨fun z => (by cases z), fun _ => rfl⟩
  | k :: r => by
    by_cases c : k.name = n
    · refine ⟨fun _ => ?_, fun z => absurd (by rw [List.map_cons, c]; exact List.mem_cons_self) z⟩
      show valV ((Sum.inr k.name, V.int k.loss) :: lossD r) _ = _
      rw [valV_pos (by rw [c])]
      unfold lossOf
      rw [List.find?_cons_of_pos (by simpa using c)]
      rfl
    · have e : lossOf (k :: r) n = lossOf r n := by unfold lossOf; rw [List.find?_cons_of_neg (by simpa using c)]
      have e2 : valV (lossD (k :: r)) (Sum.inr n) = valV (lossD r) (Sum.inr n) := by
        show valV ((Sum.inr k.name, V.int k.loss) :: lossD r) _ = _
        exact valV_neg (fun z => c (Sum.inr.inj z))
      rw [e, e2]
      obtain ⟨h1, h2⟩ := val_loss n r
      refine ⟨fun z => h1 ?_, fun z => h2 fun y => z (List.mem_cons_of_mem _ y)⟩
      rcases List.mem_cons.mp z with z | z
      · exact absurd z.symm c
      · exact z
/-- what can stand above the next kind -/
def canUp (ks : List Knd) (up : V) (loss : Int) : Bool := if ks.isEmpty then decide (up = .non) else isKind ks up && (match up with
  | .str u => decide (loss ≤ lossOf ks u)
  | _ => false)
end M
namespace U
open PySem PySem.Spec PyProof.Rows L2
theorem u_glst {X : Cx} {K : PySem.W.Frag} {es : List Expr} {k : Nat} {t : TGs} {n : Nat} {pos : Pos} (hK : X.K = K) (hc : X.calm = true) (h : PGs X es t) (hn : (assignEach es X.env).length = n := by rfl) (hst : (assignEach es X.env).findIdx? (·.1) = none := by rfl) : PG X (.Tuple es k pos) (gUnl K n t) := by subst hK; exact pg_unl hc h hn hst
theorem u_cls {X : Cx} {x : Str} {C : Addr} {pos : Pos} (hg : Gl X x) (h : X.mg x = some (.ref C)) (hd : (x == ("__debug__" : Str)) = false := by decide) : PE X (.Name x pos) (tC (.ref C)) := pe_glob hg h rfl hd
theorem u_truth {X : Cx} {K : PySem.W.Frag} {a : Expr} {ta : TE} (hK : X.K = K) (ha : PE X a ta) (he : ∀ whole, isTrue a X.env whole = (do let v ← whole; standAt a.pos; holding [v] (truthy v))) : PT X a (fun σ H Q => ta σ H fun x H' => ∃ k, TruV K x H' k ∧ Q k H') := by subst hK; exact pt_truth ha he
theorem g_unl {K : PySem.W.Frag} {σ : L2.St} {H : Hp} {n : Nat} {g : TGs} {a : Addr} {xs : List V} {R : L2.St → Hp → Prop} (h : SqL K H a xs) (e : xs.length = n) (q : g xs σ H R) : gUnl K n g (.ref a) σ H R := ⟨a, xs, rfl, h, e, q⟩
end U
namespace ZV
open PySem PySem.Spec PyProof.Rows L2
/-! C() of a class that has no __init__ of its own -/
structure MkO (K : PySem.W.Frag) (C : Addr) : Prop where
  makes : PySem.W.makesIn K C = true
  init : PySem.W.findIn K (.ref C) "__init__" = some (some (.builtin "object.__init__"))
  kp : PySem.W.keepIn K (.ref C) = true
def tMakeO (C : Addr) : TE := fun _ H Q => ∀ x dx, H x = none → H dx = none → dx ≠ x → Q (.ref x) (upd (upd H dx (.own x)) x (.ins C dx []))
section
variable {X : Cx} {C : Addr} {x : Str} {p pos : Pos}
theorem run_makeO {pins : List (Addr × Obj)} {σ : L2.St} {H : Hp} {s : Shared} {Q : VK} (M : MkO X.K C) (I : Inv X pins σ H s) (h : tMakeO C σ H Q) : wpAny (model X.prog X.w) X.A (call (.ref C) []) (EP X pins σ Q) X.xe s := by
  have hq := h (s.heap.objs.size + 1) s.heap.objs.size (I.hok.fresh (Nat.le_succ _)) (I.hok.fresh (Nat.le_refl _)) (Nat.ne_of_lt (Nat.lt_succ_self _))
  have I2 := Inv.made (C := C) I
  refine wpAny_call ?_
  have KI := I.kIn
  obtain ⟨hh, g, d, t, os⟩ := s
  have Y := PySem.W.makes_of (M := model X.prog X.w) KI M.makes
  refine PySem.W.make_core Y (PySem.W.looks_findIn KI M.init) (fun self => PySem.W.Looks.of_pure (PySem.W.oi_bind self)) (.inr ⟨rfl, rfl⟩) ?_
  have hx : ((hh.push PySem.W.emptyDict).push (PySem.W.instObj C hh.objs.size)).get? (hh.objs.size + 1) = some (PySem.W.instObj C hh.objs.size) := by
    have := Heap.get?_push_size (hh.push PySem.W.emptyDict) (o := PySem.W.instObj C hh.objs.size) rfl
    rwa [Heap.size_push] at this
  have t1 : PySem.W.Looks (model X.prog X.w) ((hh.push PySem.W.emptyDict).push (PySem.W.instObj C hh.objs.size)) (typeOf (.ref (hh.objs.size + 1))) (.ref C) := (PySem.W.Looks.ld hx).andThen .now
  have t2 : PySem.W.Looks (model X.prog X.w) ((hh.push PySem.W.emptyDict).push (PySem.W.instObj C hh.objs.size)) (isInstance (.ref (hh.objs.size + 1)) (.type "object")) true := t1.andThen (Y.top.keeps fun b o e => Heap.get?_push_of_some _ (Heap.get?_push_of_some _ e))
  refine codeAny_call_builtin PySem.W.oi_plain PySem.W.entry_oi (@PySem.W.check_slot (model X.prog X.w) _ _ _ "object.__init__" "object" "__init__" (.ref (hh.objs.size + 1)) [] [] _ PySem.W.oi_kind PySem.W.oi_split t2 (PySem.W.oi_args (.ref (hh.objs.size + 1))) ?_)
  rw [PySem.W.oi_run]
  exact wpAny_pure (And.intro rfl ⟨V.ref (hh.objs.size + 1), _, I2, rfl, hq⟩)
theorem pe_makeO {K : PySem.W.Frag} (hK : X.K = K) (M : MkO K C) (hg : Gl X x) (hm : X.mg x = some (.ref C)) (hdb : (x == ("__debug__" : Str)) = false := by decide) : PE X (.Call (.Name x p) [] [] pos) (tMakeO C) := by
  subst hK
  refine ⟨fun pins s σ H Q I h => ?_⟩
  refine wpAny_Call_Name_kw (ld_glob I hg hm ?_ hdb)
  exact PySem.W.callWith_K0 I.kIn M.kp (run_makeO M I h)
end
end ZV
namespace ZV
open PySem PySem.Spec PyProof.Rows L2
/-! zip(d.values(), list or tuple), d locked -/
section
variable {prog : Program} {w : World} {K : Type} [DecidableEq K] {knd : KeyKind prog w K} {A : Around} {E : Value → Shared → Prop} {s : Shared}
theorem nextOf_values_item {it d : Addr} {i ep : Nat} {kvs : List (K × Value)} {k : K} {v : Value} {Q : Value → Shared → Prop} (hit : s.heap.IsValIter it d i kvs.length ep)
    (hm : s.heap.DictAt knd d kvs ep) (hx : kvs[i]? = some (k, v))
    (hQ : ∀ h', h'.IsValIter it d (i + 1) kvs.length ep → Heap.SameBut it s.heap h' → Q v { s with heap := h' }) :
    wpAny (model prog w) A (Builtin.SmallTypes.nextOf (.ref it)) Q E s := by
  obtain ⟨o, ho, hc, hd⟩ := id hit
  obtain ⟨od, es, hod, hcd, hdd, hk, hp, hn⟩ := id hm
  unfold Builtin.SmallTypes.nextOf
  refine wpAny_bind (wpAny_callSpecial?_slot (name := Str.ofString "__next__") hit.typeIs F.slot_dict_valueiterator_next
    (wpAny_call_entry F.slot_dict_valueiterator_next hit.typeIs F.entry_dict_valueiterator_next ?_ (F.args_dict_valueiterator_next_1 _)))
  refine wpAny_bind (wpAny_pure ?_)
  refine wpAny_bind ?_
  refine wpAny_bind ?_
  first | refine wpAny_bind (wpAny_typeNameOfWhole_valiter hit.typeIs (wpAny_pure ?_)) | refine wpAny_bind (wpAny_typeNameOf_valiter hit.typeIs (wpAny_pure ?_))
  refine wpAny_bind (wpAny_fieldsOf ho hd ?_)
  have hown : Builtin.Dict_items.ownsTuple "dict_valueiterator" = false := by decide
  simp only [hown, Bool.false_eq_true, if_false]
  show wpAny _ _ (if (Value.ref d == Value.none) = true then _ else _) _ _ s
  rw [if_neg (show ¬ ((Value.ref d == Value.none) = true) from Bool.false_ne_true)]
  refine wpAny_bind (wpAny_pure ?_)
  refine wpAny_bind (wpAny_dictEntries hod hdd ?_)
  have hsz : es.size = kvs.length := by rw [← hp.length]; simp
  rw [if_neg (by rw [hsz]; simp)]
  refine wpAny_bind (wpAny_pure ?_)
  refine wpAny_bind (wpAny_dictEpoch hod hdd ?_)
  rw [if_neg (by simp)]
  refine wpAny_pure ?_
  have hlt : i < kvs.length := by
    rcases Nat.lt_or_ge i kvs.length with h | h
    · exact h
    · simp [List.getElem?_eq_none h] at hx
  have hlt' : i < es.size := by rw [hsz]; exact hlt
  have hval : es[i].val = v := (hp.get? (e := es[i]) (by simp [hlt']) hx).2
  simp only [show ¬ ((i : Int) < 0) from by omega, if_false, Int.toNat_natCast, Array.getElem?_eq_getElem hlt']
  refine wpAny_bind ?_
  first | refine wpAny_bind (wpAny_typeNameOfWhole_valiter hit.typeIs (wpAny_pure ?_)) | refine wpAny_bind (wpAny_typeNameOf_valiter hit.typeIs (wpAny_pure ?_))
  refine wpAny_bind (wpAny_isOneOf_valiter hit.typeIs ?_)
  show wpAny _ _ (setField (.ref it) 1 (rawInt ((i : Int) + 1)) >>= _) _ _ s
  refine wpAny_bind (wpAny_setField ho hd (by simp) ?_)
  have hit' : (s.heap.update it (Obj.mapFields (·.setIfInBounds 1 (rawInt ((i : Int) + 1))))).IsValIter it d (i + 1) kvs.length ep :=
    ⟨_, Heap.get?_update_self _ ho (Obj.isFreed_of_fields (Obj.data_mapFields hd _)), (Obj.cls_mapFields ..).trans hc, by rw [Obj.data_mapFields hd]; simp [rawInt]⟩
  refine wpAny_bind (wpAny_holding ?_)
  refine wpAny_bind (wpAny_isOneOf_valiter (s := { s with heap := s.heap.update it (Obj.mapFields (·.setIfInBounds 1 (rawInt ((i : Int) + 1)))) }) hit'.typeIs ?_)
  refine wpAny_bind (wpAny_isOneOf_valiter (s := { s with heap := s.heap.update it (Obj.mapFields (·.setIfInBounds 1 (rawInt ((i : Int) + 1)))) }) hit'.typeIs ?_)
  show wpAny _ _ (pure es[i].val) _ _ _
  exact wpAny_pure (wpAny_pure ⟨_, rfl, wpAny_pure (hval ▸ hQ _ hit' (Heap.SameBut.update ..))⟩)
theorem nextOf_values_end {it d : Addr} {i ep : Nat} {kvs : List (K × Value)} {Q : Value → Shared → Prop} (hh : A.handled = none) (hit : s.heap.IsValIter it d i kvs.length ep)
    (hm : s.heap.DictAt knd d kvs ep) (hx : kvs[i]? = none)
    (hE : ∀ h' e, Heap.ExtBut it s.heap h' → (∃ o, h'.get? e = some o ∧ o.cls = .type "StopIteration") → E (.ref e) { s with heap := h' }) : wpAny (model prog w) A (Builtin.SmallTypes.nextOf (.ref it)) Q E s := by
  obtain ⟨o, ho, hc, hd⟩ := id hit
  obtain ⟨od, es, hod, hcd, hdd, hk, hp, hn⟩ := id hm
  unfold Builtin.SmallTypes.nextOf
  refine wpAny_bind (wpAny_callSpecial?_slot (name := Str.ofString "__next__") hit.typeIs F.slot_dict_valueiterator_next
    (wpAny_call_entry F.slot_dict_valueiterator_next hit.typeIs F.entry_dict_valueiterator_next ?_ (F.args_dict_valueiterator_next_1 _)))
  refine wpAny_bind (wpAny_pure ?_)
  refine wpAny_bind ?_
  refine wpAny_bind ?_
  first | refine wpAny_bind (wpAny_typeNameOfWhole_valiter hit.typeIs (wpAny_pure ?_)) | refine wpAny_bind (wpAny_typeNameOf_valiter hit.typeIs (wpAny_pure ?_))
  refine wpAny_bind (wpAny_fieldsOf ho hd ?_)
  have hown : Builtin.Dict_items.ownsTuple "dict_valueiterator" = false := by decide
  simp only [hown, Bool.false_eq_true, if_false]
  show wpAny _ _ (if (Value.ref d == Value.none) = true then _ else _) _ _ s
  rw [if_neg (show ¬ ((Value.ref d == Value.none) = true) from Bool.false_ne_true)]
  refine wpAny_bind (wpAny_pure ?_)
  refine wpAny_bind (wpAny_dictEntries hod hdd ?_)
  have hsz : es.size = kvs.length := by rw [← hp.length]; simp
  rw [if_neg (by rw [hsz]; simp)]
  refine wpAny_bind (wpAny_pure ?_)
  refine wpAny_bind (wpAny_dictEpoch hod hdd ?_)
  rw [if_neg (by simp)]
  refine wpAny_pure ?_
  have hge : es.size ≤ i := by rw [hsz]; simpa using hx
  simp only [show ¬ ((i : Int) < 0) from by omega, if_false, Int.toNat_natCast, Array.getElem?_eq_none hge]
  refine wpAny_bind ?_
  first | refine wpAny_bind (wpAny_typeNameOfWhole_valiter hit.typeIs (wpAny_pure ?_)) | refine wpAny_bind (wpAny_typeNameOf_valiter hit.typeIs (wpAny_pure ?_))
  show wpAny _ _ (setField (.ref it) 0 .none >>= _) _ _ s
  refine wpAny_bind (wpAny_setField ho hd (by simp) ?_)
  show wpAny _ _ (newExc (.type "StopIteration") [] >>= _) _ _ _
  refine wpAny_bind ?_
  simp only [newExc, newTuple]
  refine wpAny_bind (wpAny_newObj_type ?_ (by size_fits))
  refine wpAny_bind (m := firstArgMember _ _) (wpAny_of_eq (a := Value.none) (by first | rfl | (simp only [firstArgMember]; rfl)) ?_)
  refine wpAny_newObj_type ?_ (by size_fits)
  simp only [raiseNew]
  refine wpAny_bind (wpAny_handled ?_)
  first | rw [show A.in1.handled = none from hh] | rw [hh]
  refine wpAny_bind (wpAny_pure (wpAny_throw ?_))
  exact hE _ _ (((Heap.SameBut.update ..).extBut.push _).push _) ⟨_, Heap.get?_push_size _ rfl, rfl⟩
end
theorem dictAt_keep {prog : Program} {w : World} {K : Type} [DecidableEq K] {knd : KeyKind prog w K} {h h' : Heap} {d : Addr} {kvs : List (K × Value)} {ep : Nat} (x : h.DictAt knd d kvs ep) (k : ∀ o, h.get? d = some o → h'.get? d = some o) : h'.DictAt knd d kvs ep := by
  obtain ⟨od, es, hod, r⟩ := x
  exact ⟨od, es, k _ hod, r⟩
theorem draws_values {prog : Program} {w : World} {K : Type} [DecidableEq K] {knd : KeyKind prog w K} {A : Around} (hh : A.handled = none) (it d : Addr) (hne : d ≠ it) (kvs : List (K × Value)) (ep : Nat) :
    Draws prog w A it [it, d] kvs.length (fun i v => ∃ k, kvs[i]? = some (k, v)) (fun i h => h.IsValIter it d i kvs.length ep ∧ h.DictAt knd d kvs ep) where
  live := fun _ _ st => let ⟨o, ho, _⟩ := st.1; ⟨o, ho⟩
  frame := fun _ _ _ st hk => ⟨st.1.at fun o e => hk it (by simp) o e, dictAt_keep st.2 fun o e => hk d (by simp) o e⟩
  item := fun i s Q E hi st hQ => by
    refine nextOf_values_item st.1 st.2 (k := kvs[i].1) (v := kvs[i].2) (by simp [hi]) fun h' hit' hs' => ?_
    exact hQ _ h' s.toks ⟨kvs[i].1, by simp [hi]⟩ ⟨hit', dictAt_keep st.2 fun o e => hs'.extBut _ _ hne e⟩ hs'
  done := fun s Q E st hE => nextOf_values_end hh st.1 st.2 (by simp) hE
theorem begins_values (v d : Addr) (es : Array DictEntry) (ep : Nat) : Begins (.ref v) { cls := .type "dict_valueiterator", data := .fields #[.ref d, .int 0 0, .int es.size 0, .int ep 0] } fun h => h.IsValuesView v d ∧ h.DictRaw d es ep where
  iter := fun prog w A E s Q h q => wpAny_pyIter_values_raw h.1 h.2 q
  keeps := fun h h' x hk => ⟨let ⟨o, ho, r⟩ := x.1; ⟨o, hk _ _ ho, r⟩, x.2.at fun o e => hk _ _ e⟩
  free := rfl
theorem sep5 {n d b : Addr} (hd : d < n) (hb : b < n) : ZipSep2 (n + 4) (n + 2) (n + 3) n (n + 1) [n, d] [n + 1, b] where
  TIz := by simp [Addr]
  TOz := by simp [Addr]
  TITO := by simp [Addr]
  TIi1 := by simp [Addr]
  mem1 := by simp
  zf1 := by simp only [List.mem_cons, List.not_mem_nil, or_false, not_or]; exact ⟨Nat.ne_of_gt (Nat.lt_add_of_pos_right (by decide)), Nat.ne_of_gt (Nat.lt_of_lt_of_le hd (Nat.le_add_right _ _))⟩
  Tf1 := by simp only [List.mem_cons, List.not_mem_nil, or_false, not_or]; exact ⟨Nat.ne_of_gt (Nat.lt_add_of_pos_right (by decide)), Nat.ne_of_gt (Nat.lt_of_lt_of_le hd (Nat.le_add_right _ _))⟩
  TIi2 := by simp [Addr]
  mem2 := by simp
  zf2 := by simp only [List.mem_cons, List.not_mem_nil, or_false, not_or]; exact ⟨Nat.ne_of_gt (Nat.add_lt_add_left (by decide) n), Nat.ne_of_gt (Nat.lt_of_lt_of_le hb (Nat.le_add_right _ _))⟩
  Tf2 := by simp only [List.mem_cons, List.not_mem_nil, or_false, not_or]; exact ⟨Nat.ne_of_gt (Nat.add_lt_add_left (by decide) n), Nat.ne_of_gt (Nat.lt_of_lt_of_le hb (Nat.le_add_right _ _))⟩
  sep1_2 := by simp only [List.mem_cons, List.not_mem_nil, or_false, not_or]; exact ⟨Nat.ne_of_lt (Nat.lt_add_of_pos_right (by decide)), Nat.ne_of_gt hb⟩
  sep2_1 := by simp only [List.mem_cons, List.not_mem_nil, or_false, not_or]; exact ⟨Nat.ne_of_gt (Nat.lt_add_of_pos_right (by decide)), Nat.ne_of_gt (Nat.lt_of_lt_of_le hd (Nat.le_add_right _ _))⟩
/-- the values of the locked dict d beside the items at b, in new pairs -/
def ItvT (K : PySem.W.Frag) (d : Addr) (o : Obj) (kvs : List (Key × V)) (b : Addr) : It :=
  ⟨fun i H => H d = some (.frz o (.dK kvs)) ∧ i < kvs.length ∧ ∃ (ys : List V), SqT K H b ys ∧ i < ys.length,
    fun i H v H' => ∃ T k x y, v = .ref T ∧ H T = none ∧ H' = upd H T (.tup [x, y]) ∧ kvs[i]? = some (k, x) ∧ ∀ ys, SqT K H b ys → ys[i]? = some y,
    fun i H => H d = some (.frz o (.dK kvs)) ∧ ∃ ys : List V, SqT K H b ys ∧ i ≤ kvs.length ∧ i ≤ ys.length ∧ (i = kvs.length ∨ i = ys.length)⟩
theorem turn_zipVT {P : Program} {w : World} {K : PySem.W.Frag} {elts : List Expr} {kk : Nat} {tpos : Pos} {d b z TI TO i1 i2 : Addr} {o : Obj} {kvs : List (Key × V)} {es : Array DictEntry} {ep : Nat} (hod : o.data = .dict es ep) (S : ZipSep2 z TI TO i1 i2 [i1, d] [i2, b]) (n1 : d ≠ i1) (n2 : b ≠ i2) :
    Turn P w K (.Tuple elts kk tpos) (ItvT K d o kvs b) [z, TI, TO, i1, i2] z (fun i h => IsZip h z TI TO .none ∧ IsTupOf2 h TI (.ref i1) (.ref i2) ∧ (∃ x y, IsTupOf2 h TO x y) ∧ h.IsValIter i1 d i kvs.length ep ∧ h.IsTupleIter i2 b i) where
  mem := by simp
  obj := fun i h st c hc => by
    obtain ⟨hz, hTI, ⟨x, y, hTO⟩, ⟨o1, e1, _, d1⟩, ⟨o2, e2, _, d2⟩⟩ := st
    have e' : c = z ∨ c = TI ∨ c = TO ∨ c = i1 ∨ c = i2 := by simpa using hc
    rcases e' with q | q | q | q | q
    · rw [q]; exact ⟨_, hz, fun v q => nomatch q⟩
    · rw [q]; exact ⟨_, hTI, fun v q => nomatch q⟩
    · rw [q]; exact ⟨_, hTO, fun v q => nomatch q⟩
    · rw [q]; exact ⟨o1, e1, fun v q => by rw [d1] at q; cases q⟩
    · rw [q]; exact ⟨o2, e2, fun v q => by rw [d2] at q; cases q⟩
  keep := fun i h h' st k => by
    obtain ⟨hz, hTI, ⟨x, y, hTO⟩, h1, h2⟩ := st
    exact ⟨k z (by simp) _ hz, k TI (by simp) _ hTI, ⟨x, y, k TO (by simp) _ hTO⟩, h1.at fun o q => k i1 (by simp) o q, h2.at fun o q => k i2 (by simp) o q⟩
  item := by
    intro X hP hw hK hc i pins s σ H E I hf st hg
    subst hP hw hK
    obtain ⟨hz, hTI, ⟨x0, y0, hTO⟩, h1, h2⟩ := st
    obtain ⟨hd, hi, ys, hqy, hiy⟩ := hg
    obtain ⟨hs, hgd, hx, es', ep', vs, hdt, hsz, kv, hm⟩ := I.frzK hd
    obtain ⟨rfl, rfl⟩ := dict_ep hod hdt
    obtain ⟨its2, rv2, p2, _⟩ := I.tuple hqy
    have hl : kvs.length = vs.length := Paired.length kv
    have hl2 := rv2.length
    have hh : X.A.in1.handled = none := I.ok.hd hc
    obtain ⟨⟨k0, x⟩, hkv⟩ : ∃ p, kvs[i]? = some p := ⟨kvs[i], List.getElem?_eq_getElem hi⟩
    obtain ⟨u, hu, ru⟩ := kv_get kv hkv
    have hy : ys[i]? = some ys[i] := List.getElem?_eq_getElem hiy
    obtain ⟨u2, hu2, ru2⟩ := rv2.get hy
    have hzl : z < s.heap.objs.size := Heap.lt_size hz
    rw [hl] at h1
    refine wpAny_pyNext_zipD2_item (A := X.A) S (draws_values (A := X.A.in1) (knd := mixKind X.prog X.w) hh i1 d n1 vs _) (Draws.tuple (A := X.A.in1) hh i2 b n2 its2.toArray) hz hTI hTO ⟨h1, hm⟩ ⟨h2, p2⟩ (by omega) (by simp; omega) fun v v2 h' tk ev ev2 z' TO' st1' st2' hT hsz' hk => ?_
    obtain ⟨k', ev⟩ := ev
    obtain rfl : v = u := by rw [hu] at ev; cases ev; rfl
    obtain rfl : v2 = u2 := by
      have e : its2.toArray[i]? = some u2 := by simpa using hu2
      rw [e] at ev2; cases ev2; rfl
    refine ⟨_, rfl, wpAny_letOwnedTupleGo_zip (s := { s with heap := h', toks := tk }) z' fun h'' z'' sb => ?_⟩
    have hT2 : h''.get? s.heap.objs.size = some { cls := .type "tuple", data := .seq #[v, v2] } := (sb.2 _ (Nat.ne_of_gt hzl)).trans hT
    have new : ObjOk X.prog X.w (upd H s.heap.objs.size (.tup [x, ys[i]])) h'' s.heap.objs.size (.tup [x, ys[i]]) :=
      ⟨by show 2 ≤ sizeLine; decide, [v, v2], .cons ru (.cons ru2 .nil), ⟨_, hT2, rfl, _, rfl⟩⟩
    have I1 : Inv X pins σ (upd H s.heap.objs.size (.tup [x, ys[i]])) { s with heap := h'', toks := tk } :=
      I.turnedNew (t' := tk) (ch := [z, TI, TO, i1, i2]) (fun c o hb q => (sb.2 c (fun q' => hb (by simp [q']))).trans (hk c o (fun q' => hb (by simp [q'])) (fun q' => hb (by simp [q'])) (fun q' => hb (by simp [q'])) (fun q' => hb (by simp [q'])) q)) hf (Nat.le_refl _) new
    refine ⟨.ref s.heap.objs.size, _, I1, rfl, ⟨_, k0, x, _, rfl, I.hok.fresh (Nat.le_refl _), rfl, hkv, fun l hl => by rw [I.tuple_inj hl hqy]; exact hy⟩, ⟨z'', (sb.2 _ S.TIz).trans (hk _ _ S.TIz S.TITO S.TIi1 S.TIi2 hTI), ⟨v, v2, (sb.2 _ S.TOz).trans TO'⟩, ?_, st2'.1.at fun o q => (sb.2 i2 S.zi2.symm).trans q⟩, fun c hcm => ?_⟩
    · rw [hl]
      exact st1'.1.at fun o q => (sb.2 i1 S.zi1.symm).trans q
    · have hlt : c < s.heap.objs.size := by
        have e' : c = z ∨ c = TI ∨ c = TO ∨ c = i1 ∨ c = i2 := by simpa using hcm
        rcases e' with q | q | q | q | q
        · rw [q]; exact hzl
        · rw [q]; exact Heap.lt_size hTI
        · rw [q]; exact Heap.lt_size hTO
        · rw [q]; obtain ⟨_, e1, _⟩ := h1; exact Heap.lt_size e1
        · rw [q]; obtain ⟨_, e2, _⟩ := h2; exact Heap.lt_size e2
      rw [upd_ne (Nat.ne_of_lt hlt)]
      exact (hf c hcm).1
  done := by
    intro X hP hw hK hc i pins s σ H E I hf st hg
    subst hP hw hK
    obtain ⟨hz, hTI, ⟨x0, y0, hTO⟩, h1, h2⟩ := st
    obtain ⟨hd, ys, hqy, hi, hiy, hend⟩ := hg
    obtain ⟨hs, hgd, hx, es', ep', vs, hdt, hsz, kv, hm⟩ := I.frzK hd
    obtain ⟨rfl, rfl⟩ := dict_ep hod hdt
    obtain ⟨its2, rv2, p2, _⟩ := I.tuple hqy
    have hl : kvs.length = vs.length := Paired.length kv
    have hl2 := rv2.length
    have hh : X.A.in1.handled = none := I.ok.hd hc
    rw [hl] at h1
    have z2 : its2.toArray.size = its2.length := by simp
    exact wpAny_pyNext_zipD2_end (A := X.A) S (draws_values (A := X.A.in1) (knd := mixKind X.prog X.w) hh i1 d n1 vs _) (Draws.tuple (A := X.A.in1) hh i2 b n2 its2.toArray) hz hTI hTO ⟨h1, hm⟩ ⟨h2, p2⟩ (by omega) (by omega) (by omega) fun h' tk hk => ⟨rfl, I.turnedL (t' := tk) (ch := [z, TI, TO, i1, i2]) (fun c o hb q =>
      hk c o (fun q' => hb (by simp [q'])) (fun q' => hb (by simp [q'])) (fun q' => hb (by simp [q'])) (fun q' => hb (by simp [q'])) q) hf⟩
  self := fun A i s Q E st h => wpAny_pyIter_zip st.1 h
/-- the values of the locked dict d beside the items at b, in new pairs -/
def ItvL (K : PySem.W.Frag) (d : Addr) (o : Obj) (kvs : List (Key × V)) (b : Addr) : It :=
  ⟨fun i H => H d = some (.frz o (.dK kvs)) ∧ i < kvs.length ∧ ∃ (ys : List V), SqL K H b ys ∧ i < ys.length,
    fun i H v H' => ∃ T k x y, v = .ref T ∧ H T = none ∧ H' = upd H T (.tup [x, y]) ∧ kvs[i]? = some (k, x) ∧ ∀ ys, SqL K H b ys → ys[i]? = some y,
    fun i H => H d = some (.frz o (.dK kvs)) ∧ ∃ ys : List V, SqL K H b ys ∧ i ≤ kvs.length ∧ i ≤ ys.length ∧ (i = kvs.length ∨ i = ys.length)⟩
theorem turn_zipVL {P : Program} {w : World} {K : PySem.W.Frag} {elts : List Expr} {kk : Nat} {tpos : Pos} {d b z TI TO i1 i2 : Addr} {o : Obj} {kvs : List (Key × V)} {es : Array DictEntry} {ep : Nat} (hod : o.data = .dict es ep) (S : ZipSep2 z TI TO i1 i2 [i1, d] [i2, b]) (n1 : d ≠ i1) (n2 : b ≠ i2) :
    Turn P w K (.Tuple elts kk tpos) (ItvL K d o kvs b) [z, TI, TO, i1, i2] z (fun i h => IsZip h z TI TO .none ∧ IsTupOf2 h TI (.ref i1) (.ref i2) ∧ (∃ x y, IsTupOf2 h TO x y) ∧ h.IsValIter i1 d i kvs.length ep ∧ h.IsListIter i2 b i) where
  mem := by simp
  obj := fun i h st c hc => by
    obtain ⟨hz, hTI, ⟨x, y, hTO⟩, ⟨o1, e1, _, d1⟩, ⟨o2, e2, _, d2⟩⟩ := st
    have e' : c = z ∨ c = TI ∨ c = TO ∨ c = i1 ∨ c = i2 := by simpa using hc
    rcases e' with q | q | q | q | q
    · rw [q]; exact ⟨_, hz, fun v q => nomatch q⟩
    · rw [q]; exact ⟨_, hTI, fun v q => nomatch q⟩
    · rw [q]; exact ⟨_, hTO, fun v q => nomatch q⟩
    · rw [q]; exact ⟨o1, e1, fun v q => by rw [d1] at q; cases q⟩
    · rw [q]; exact ⟨o2, e2, fun v q => by rw [d2] at q; cases q⟩
  keep := fun i h h' st k => by
    obtain ⟨hz, hTI, ⟨x, y, hTO⟩, h1, h2⟩ := st
    exact ⟨k z (by simp) _ hz, k TI (by simp) _ hTI, ⟨x, y, k TO (by simp) _ hTO⟩, h1.at fun o q => k i1 (by simp) o q, h2.at fun o q => k i2 (by simp) o q⟩
  item := by
    intro X hP hw hK hc i pins s σ H E I hf st hg
    subst hP hw hK
    obtain ⟨hz, hTI, ⟨x0, y0, hTO⟩, h1, h2⟩ := st
    obtain ⟨hd, hi, ys, hqy, hiy⟩ := hg
    obtain ⟨hs, hgd, hx, es', ep', vs, hdt, hsz, kv, hm⟩ := I.frzK hd
    obtain ⟨rfl, rfl⟩ := dict_ep hod hdt
    obtain ⟨its2, rv2, p2, _⟩ := I.list hqy
    have hl : kvs.length = vs.length := Paired.length kv
    have hl2 := rv2.length
    have hh : X.A.in1.handled = none := I.ok.hd hc
    obtain ⟨⟨k0, x⟩, hkv⟩ : ∃ p, kvs[i]? = some p := ⟨kvs[i], List.getElem?_eq_getElem hi⟩
    obtain ⟨u, hu, ru⟩ := kv_get kv hkv
    have hy : ys[i]? = some ys[i] := List.getElem?_eq_getElem hiy
    obtain ⟨u2, hu2, ru2⟩ := rv2.get hy
    have hzl : z < s.heap.objs.size := Heap.lt_size hz
    rw [hl] at h1
    refine wpAny_pyNext_zipD2_item (A := X.A) S (draws_values (A := X.A.in1) (knd := mixKind X.prog X.w) hh i1 d n1 vs _) (Draws.list (A := X.A.in1) hh i2 b n2 its2.toArray) hz hTI hTO ⟨h1, hm⟩ ⟨h2, p2.isList⟩ (by omega) (by simp; omega) fun v v2 h' tk ev ev2 z' TO' st1' st2' hT hsz' hk => ?_
    obtain ⟨k', ev⟩ := ev
    obtain rfl : v = u := by rw [hu] at ev; cases ev; rfl
    obtain rfl : v2 = u2 := by
      have e : its2.toArray[i]? = some u2 := by simpa using hu2
      rw [e] at ev2; cases ev2; rfl
    refine ⟨_, rfl, wpAny_letOwnedTupleGo_zip (s := { s with heap := h', toks := tk }) z' fun h'' z'' sb => ?_⟩
    have hT2 : h''.get? s.heap.objs.size = some { cls := .type "tuple", data := .seq #[v, v2] } := (sb.2 _ (Nat.ne_of_gt hzl)).trans hT
    have new : ObjOk X.prog X.w (upd H s.heap.objs.size (.tup [x, ys[i]])) h'' s.heap.objs.size (.tup [x, ys[i]]) :=
      ⟨by show 2 ≤ sizeLine; decide, [v, v2], .cons ru (.cons ru2 .nil), ⟨_, hT2, rfl, _, rfl⟩⟩
    have I1 : Inv X pins σ (upd H s.heap.objs.size (.tup [x, ys[i]])) { s with heap := h'', toks := tk } :=
      I.turnedNew (t' := tk) (ch := [z, TI, TO, i1, i2]) (fun c o hb q => (sb.2 c (fun q' => hb (by simp [q']))).trans (hk c o (fun q' => hb (by simp [q'])) (fun q' => hb (by simp [q'])) (fun q' => hb (by simp [q'])) (fun q' => hb (by simp [q'])) q)) hf (Nat.le_refl _) new
    refine ⟨.ref s.heap.objs.size, _, I1, rfl, ⟨_, k0, x, _, rfl, I.hok.fresh (Nat.le_refl _), rfl, hkv, fun l hl => by rw [I.list_inj hl hqy]; exact hy⟩, ⟨z'', (sb.2 _ S.TIz).trans (hk _ _ S.TIz S.TITO S.TIi1 S.TIi2 hTI), ⟨v, v2, (sb.2 _ S.TOz).trans TO'⟩, ?_, st2'.1.at fun o q => (sb.2 i2 S.zi2.symm).trans q⟩, fun c hcm => ?_⟩
    · rw [hl]
      exact st1'.1.at fun o q => (sb.2 i1 S.zi1.symm).trans q
    · have hlt : c < s.heap.objs.size := by
        have e' : c = z ∨ c = TI ∨ c = TO ∨ c = i1 ∨ c = i2 := by simpa using hcm
        rcases e' with q | q | q | q | q
        · rw [q]; exact hzl
        · rw [q]; exact Heap.lt_size hTI
        · rw [q]; exact Heap.lt_size hTO
        · rw [q]; obtain ⟨_, e1, _⟩ := h1; exact Heap.lt_size e1
        · rw [q]; obtain ⟨_, e2, _⟩ := h2; exact Heap.lt_size e2
      rw [upd_ne (Nat.ne_of_lt hlt)]
      exact (hf c hcm).1
  done := by
    intro X hP hw hK hc i pins s σ H E I hf st hg
    subst hP hw hK
    obtain ⟨hz, hTI, ⟨x0, y0, hTO⟩, h1, h2⟩ := st
    obtain ⟨hd, ys, hqy, hi, hiy, hend⟩ := hg
    obtain ⟨hs, hgd, hx, es', ep', vs, hdt, hsz, kv, hm⟩ := I.frzK hd
    obtain ⟨rfl, rfl⟩ := dict_ep hod hdt
    obtain ⟨its2, rv2, p2, _⟩ := I.list hqy
    have hl : kvs.length = vs.length := Paired.length kv
    have hl2 := rv2.length
    have hh : X.A.in1.handled = none := I.ok.hd hc
    rw [hl] at h1
    have z2 : its2.toArray.size = its2.length := by simp
    exact wpAny_pyNext_zipD2_end (A := X.A) S (draws_values (A := X.A.in1) (knd := mixKind X.prog X.w) hh i1 d n1 vs _) (Draws.list (A := X.A.in1) hh i2 b n2 its2.toArray) hz hTI hTO ⟨h1, hm⟩ ⟨h2, p2.isList⟩ (by omega) (by omega) (by omega) fun h' tk hk => ⟨rfl, I.turnedL (t' := tk) (ch := [z, TI, TO, i1, i2]) (fun c o hb q =>
      hk c o (fun q' => hb (by simp [q'])) (fun q' => hb (by simp [q'])) (fun q' => hb (by simp [q'])) (fun q' => hb (by simp [q'])) q) hf⟩
  self := fun A i s Q E st h => wpAny_pyIter_zip st.1 h
def iZipV (K : PySem.W.Frag) (td : TE) (t2 : TA) : TI := fun σ H R => td σ H fun x H1 => ∃ d o kvs, x = .ref d ∧ H1 d = some (.frz o (.dK kvs)) ∧ t2 σ H1 fun vs H2 => ∃ b, vs = [.ref b] ∧ H2 d = some (.frz o (.dK kvs)) ∧ ((∃ ys, SqT K H2 b ys ∧ R (ItvT K d o kvs b) H2) ∨ ∃ ys, SqL K H2 b ys ∧ R (ItvL K d o kvs b) H2)
theorem pi_zipV {X : Cx} {K : PySem.W.Frag} {e e2 : Expr} {td : TE} {t2 : TA} {p pos tpos apos cpos : Pos} {elts : List Expr} {kk : Nat} (hK : X.K = K) (hg : Gl X "zip") (hm : X.mg "zip" = none) (he : PE X e td) (h2 : PA X [e2] t2) (hbase : attributeBase e "values" X.env (eval e X.env) = eval e X.env := by rfl) (hline : (apos.endLine == cpos.line) = true := by rfl)
    (hs : starEach [.Call (.Attribute e "values" apos) [] [] cpos, e2] X.env = (false, eval (.Call (.Attribute e "values" apos) [] [] cpos) X.env) :: starEach [e2] X.env := by rfl) (hpl : (backTo pos (starEach [e2] X.env)).any (·.1) = false := by rfl) :
    PI X (.Tuple elts kk tpos) (.Call (.Name "zip" p) [.Call (.Attribute e "values" apos) [] [] cpos, e2] [] pos) (iZipV K td t2) := by
  subst hK
  refine ⟨fun pins s σ H R I h => ?_⟩
  refine Call_ (ld_blt I hg hm PyProof.Rows.boot_zip (PyProof.Rows.callWith_type1 ?_ hs hpl))
  rw [hs]
  show wpAny _ _ (spliced ((false, eval (.Call (.Attribute e "values" apos) [] [] cpos) X.env) :: backTo pos (starEach [e2] X.env))) _ _ s
  refine Calls.spliced_cons ?_
  refine wpAny_Call_method (T := "dict") (id := "dict.values") hbase rfl hline F.plainAttrs_dict F.slot_dict_values F.type_dict_values (thn (he.run pins s σ H _ I h) fun u s1 ⟨x, H1, I1, rx, d, o, kvs, ex, hd, q⟩ => ?_)
  subst ex
  obtain rfl : u = Value.ref d := rx
  obtain ⟨hs', hgd, hx, es, ep, vs, hdt, hsz, kv, hm'⟩ := I1.frzK hd
  refine ⟨hm'.dictOf.typeIs, hm'.dictOf.mapOf.noDict, ?_⟩
  have I2 : Inv X pins σ H1 { s1 with heap := s1.heap.push { cls := .type "dict_values", data := .fields #[.ref d] } } := I1.kept (t' := s1.toks) fun b ob q => Heap.get?_push_of_some _ q
  have I3 : Inv X ((s1.heap.objs.size, { cls := .type "dict_values", data := .fields #[.ref d] }) :: pins) σ H1 { s1 with heap := s1.heap.push { cls := .type "dict_values", data := .fields #[.ref d] } } :=
    I2.pins_of fun p hp => by
      rcases List.mem_cons.mp hp with rfl | hp
      · exact ⟨Heap.get?_push_size _ rfl, I1.hok.fresh (Nat.le_refl _), Nat.ne_of_gt I1.lt, I1.nofs (Nat.le_refl _), fun v z => nomatch z⟩
      · exact I2.pin p (List.mem_append_right _ hp)
  have fin : wpAny (model X.prog X.w) X.A (spliced (backTo pos (starEach [e2] X.env))) (fun us s2 => wpAny (model X.prog X.w) X.A (call (.type "zip") (.ref s1.heap.objs.size :: us)) (fun v s3 => wpAny (model X.prog X.w) X.A (pyIter v) (PIE X pins σ (.Tuple elts kk tpos) R) X.xe s3) X.xe s2) X.xe { s1 with heap := s1.heap.push { cls := .type "dict_values", data := .fields #[.ref d] } } := by
    refine thn (h2.run pos _ _ σ H1 _ I3 q) fun us s2 ⟨ys, H2, I4, r2, b, eb, hd2, qq⟩ => ?_
    subst eb
    cases r2 with
    | cons r rr =>
      cases rr
      cases r
      have hv := (I4.pin (s1.heap.objs.size, { cls := .type "dict_values", data := .fields #[.ref d] }) (List.mem_append_right _ (List.mem_cons_self ..))).1
      have I5 : Inv X pins σ H2 s2 := I4.pins_of fun p hp => I4.pin p (List.mem_append_right _ (List.mem_cons_of_mem _ hp))
      obtain ⟨hs2, hgd2, hx2, es2, ep2, vs2, hdt2, hsz2, kv2, hm2⟩ := I5.frzK hd2
      obtain ⟨rfl, rfl⟩ := dict_ep hdt hdt2
      have fresh5 : ∀ c, c ∈ [s2.heap.objs.size + 4, s2.heap.objs.size + 2, s2.heap.objs.size + 3, s2.heap.objs.size, s2.heap.objs.size + 1] → FpOk X pins H2 c := fun c hcm => by
        have e' : c = s2.heap.objs.size + 4 ∨ c = s2.heap.objs.size + 2 ∨ c = s2.heap.objs.size + 3 ∨ c = s2.heap.objs.size ∨ c = s2.heap.objs.size + 1 := by simpa using hcm
        have hle : s2.heap.objs.size ≤ c := by
          rcases e' with z | z | z | z | z
          · rw [z]; exact Nat.le_add_right _ _
          · rw [z]; exact Nat.le_add_right _ _
          · rw [z]; exact Nat.le_add_right _ _
          · rw [z]; exact Nat.le_refl _
          · rw [z]; exact Nat.le_add_right _ _
        exact I5.fpOk hle (I5.hok.fresh hle)
      have ld : d < s2.heap.objs.size := Heap.lt_size hgd2
      rcases qq with ⟨ys, hq, qR⟩ | ⟨ys, hq, qR⟩
      · obtain ⟨its, rv, p2, _⟩ := I5.tuple hq
        obtain ⟨ob, hob, _⟩ := id p2
        have lb := Heap.lt_size hob
        refine zip_begins2 (begins_values s1.heap.objs.size d _ _) (begins_tuple b its.toArray) ⟨⟨_, hv, rfl, rfl⟩, ⟨o, hgd2, hx2, hdt2⟩⟩ p2 fun h' hz hTI hTO g1 g2 hsz' hk => wpAny_pyIter_zip hz ?_
        exact ⟨s2.heap.objs.size + 4, [s2.heap.objs.size + 4, s2.heap.objs.size + 2, s2.heap.objs.size + 3, s2.heap.objs.size, s2.heap.objs.size + 1], _, _, H2, rfl, I5.kept (t' := s2.toks) hk, turn_zipVT hdt2 (sep5 ld lb) (Nat.ne_of_lt ld) (Nat.ne_of_lt (Nat.lt_succ_of_lt lb)), ⟨hz, hTI, ⟨_, _, hTO⟩, ⟨_, g1, rfl, by rw [hsz2]; rfl⟩, ⟨_, g2, rfl, rfl⟩⟩, fresh5, qR⟩
      · obtain ⟨its, rv, p2, _⟩ := I5.list hq
        have lb : b < s2.heap.objs.size := p2.lt
        refine zip_begins2 (begins_values s1.heap.objs.size d _ _) (begins_list b its.toArray) ⟨⟨_, hv, rfl, rfl⟩, ⟨o, hgd2, hx2, hdt2⟩⟩ p2.isList fun h' hz hTI hTO g1 g2 hsz' hk => wpAny_pyIter_zip hz ?_
        exact ⟨s2.heap.objs.size + 4, [s2.heap.objs.size + 4, s2.heap.objs.size + 2, s2.heap.objs.size + 3, s2.heap.objs.size, s2.heap.objs.size + 1], _, _, H2, rfl, I5.kept (t' := s2.toks) hk, turn_zipVL hdt2 (sep5 ld lb) (Nat.ne_of_lt ld) (Nat.ne_of_lt (Nat.lt_succ_of_lt lb)), ⟨hz, hTI, ⟨_, _, hTO⟩, ⟨_, g1, rfl, by rw [hsz2]; rfl⟩, ⟨_, g2, rfl, rfl⟩⟩, fresh5, qR⟩
  show wpAny _ _ (callWith cpos (.builtin "dict.values") [.ref d] [] []) _ X.xe s1
  exact method_meetsIn F.slot_dict_values F.entry_dict_values rfl (PySem.evalArgs_none ⟨rfl, hm'.dictOf.typeIs, F.args_dict_values_1 _, _, meets_dict_values (mixKind X.prog X.w) d hs', ⟨vs, hm'.dictOf⟩, fin⟩)
theorem walk_zipVT {K : PySem.W.Frag} {d b : Addr} {o : Obj} {kvs : List (Key × V)} {ys : List V} (hn : kvs.length = ys.length) : Walk (ItvT K d o kvs b) kvs.length (fun H => H d = some (.frz o (.dK kvs)) ∧ SqT K H b ys) (YPair (fun i => kvs[i]?.map Prod.snd) (fun i => ys[i]?)) :=
  ⟨fun i H hi q => ⟨q.1, hi, ys, q.2, by omega⟩, fun H q => ⟨q.1, ys, q.2, Nat.le_refl _, by omega, .inl rfl⟩, fun i H x H' hi q ⟨T, k, x, y, e1, e2, e3, e4, e5⟩ => ⟨T, x, y, e1, e2, e3, by dsimp only; rw [e4]; rfl, e5 ys q.2⟩⟩
theorem walk_zipVL {K : PySem.W.Frag} {d b : Addr} {o : Obj} {kvs : List (Key × V)} {ys : List V} (hn : kvs.length = ys.length) : Walk (ItvL K d o kvs b) kvs.length (fun H => H d = some (.frz o (.dK kvs)) ∧ SqL K H b ys) (YPair (fun i => kvs[i]?.map Prod.snd) (fun i => ys[i]?)) :=
  ⟨fun i H hi q => ⟨q.1, hi, ys, q.2, by omega⟩, fun H q => ⟨q.1, ys, q.2, Nat.le_refl _, by omega, .inl rfl⟩, fun i H x H' hi q ⟨T, k, x, y, e1, e2, e3, e4, e5⟩ => ⟨T, x, y, e1, e2, e3, by dsimp only; rw [e4]; rfl, e5 ys q.2⟩⟩
theorem same_unlock {H H' : Hp} {d : Addr} {u : HO} {od : Obj} (h : H d = some u) (s : Same (upd H d (.frz od u)) H') : Same H (upd H' d u) := fun c o e => by
  by_cases q : c = d
  · subst q
    rw [h] at e
    cases e
    exact upd_same
  · rw [upd_ne q]
    exact s c o ((upd_ne q).trans e)
section
variable {σ : L2.St} {H : Hp} {Q : VK} {K : PySem.W.Frag}
theorem lcI_zipT {g : TG} {tt : TT} {te : TE} {vs : List Nat} {d b : Addr} {o : Obj} {kvs : List (Key × V)} {ys : List V} (hd : H d = some (.frz o (.dK kvs))) (hb : ∀ H', Same H H' → SqT K H' b ys) (hl : kvs.length = ys.length) (hn : kvs.length ≤ 1000000) (f : Nat → Option V)
    (turn : ∀ i k x y T H' (A : VK) (B : Hp → Prop), kvs[i]? = some (k, x) → ys[i]? = some y → Same H H' → H' T = some (.tup [x, y]) → (∀ v H4, f i = some v → Same H' H4 → A v H4) → (f i = none → ∀ H3, Same H' H3 → B H3) →
      g (.ref T) (wipe σ vs) H' fun σ2 H2 => wipe σ2 vs = wipe σ vs ∧ tt σ2 H2 fun b H3 => if b = true then te σ2 H3 A else B H3)
    (k : ∀ E H', H E = none → Same H H' → H' E = some (.lst ((List.range kvs.length).filterMap f)) → Q (.ref E) H') : U.lcI σ vs g tt te Q (ItvT K d o kvs b) H := by
  refine U.lcI_same (walk_zipVT hl) hn f (fun H' s => ⟨s _ _ hd, hb H' s⟩) (fun i H' x H'' y => ?_) (fun i x H' H'' A B hi s y kA kB => ?_) k
  · obtain ⟨T, x1, y1, _, nT, rfl, _⟩ := y
    exact U.same_new nT
  · obtain ⟨T, x1, y1, rfl, nT, rfl, e1, e2⟩ := y
    dsimp only at e1 e2
    cases e : kvs[i]? with
    | none => rw [e] at e1; cases e1
    | some p =>
      rw [e] at e1
      cases e1
      exact turn i p.1 p.2 y1 T _ A B e e2 (s.trans (U.same_new nT)) upd_same kA kB
theorem lcI_zipL {g : TG} {tt : TT} {te : TE} {vs : List Nat} {d b : Addr} {o : Obj} {kvs : List (Key × V)} {ys : List V} (hd : H d = some (.frz o (.dK kvs))) (hb : SqL K H b ys) (hl : kvs.length = ys.length) (hn : kvs.length ≤ 1000000) (f : Nat → Option V)
    (turn : ∀ i k x y T H' (A : VK) (B : Hp → Prop), kvs[i]? = some (k, x) → ys[i]? = some y → Same H H' → H' T = some (.tup [x, y]) → (∀ v H4, f i = some v → Same H' H4 → A v H4) → (f i = none → ∀ H3, Same H' H3 → B H3) →
      g (.ref T) (wipe σ vs) H' fun σ2 H2 => wipe σ2 vs = wipe σ vs ∧ tt σ2 H2 fun b H3 => if b = true then te σ2 H3 A else B H3)
    (k : ∀ E H', H E = none → Same H H' → H' E = some (.lst ((List.range kvs.length).filterMap f)) → Q (.ref E) H') : U.lcI σ vs g tt te Q (ItvL K d o kvs b) H := by
  refine U.lcI_same (walk_zipVL hl) hn f (fun H' s => ⟨s _ _ hd, s.seq hb⟩) (fun i H' x H'' y => ?_) (fun i x H' H'' A B hi s y kA kB => ?_) k
  · obtain ⟨T, x1, y1, _, nT, rfl, _⟩ := y
    exact U.same_new nT
  · obtain ⟨T, x1, y1, rfl, nT, rfl, e1, e2⟩ := y
    dsimp only at e1 e2
    cases e : kvs[i]? with
    | none => rw [e] at e1; cases e1
    | some p =>
      rw [e] at e1
      cases e1
      exact turn i p.1 p.2 y1 T _ A B e e2 (s.trans (U.same_new nT)) upd_same kA kB
theorem g_lockE {te : TE} {d : Addr} {kvs : List (Key × V)} (h : H d = some (.dK kvs)) (q : ∀ od, te σ (upd H d (.frz od (.dK kvs))) fun v H' => H' d = some (.frz od (.dK kvs)) ∧ Q v (upd H' d (.dK kvs))) : tLockE te σ H Q := ⟨d, .dK kvs, h, trivial, q⟩
theorem g_lockS {t : TS} {D : Ends} {d : Addr} {kvs : List (Key × V)} (h : H d = some (.dK kvs)) (q : ∀ od, t ⟨fun σ' H' => H' d = some (.frz od (.dK kvs)) ∧ D.nx σ' (upd H' d (.dK kvs)), fun v H' => H' d = some (.frz od (.dK kvs)) ∧ D.rt v (upd H' d (.dK kvs)), fun σ' H' => H' d = some (.frz od (.dK kvs)) ∧ D.bk σ' (upd H' d (.dK kvs)), fun σ' H' => H' d = some (.frz od (.dK kvs)) ∧ D.ct σ' (upd H' d (.dK kvs))⟩ σ (upd H d (.frz od (.dK kvs)))) : tLock t D σ H := ⟨d, .dK kvs, h, trivial, q⟩
theorem g_iZipV {td : TE} {t2 : TA} {R : It → Hp → Prop} (q : td σ H fun x H1 => ∃ d o kvs, x = .ref d ∧ H1 d = some (.frz o (.dK kvs)) ∧ t2 σ H1 fun vs H2 => ∃ b, vs = [.ref b] ∧ H2 d = some (.frz o (.dK kvs)) ∧ ((∃ ys, SqT K H2 b ys ∧ R (ItvT K d o kvs b) H2) ∨ ∃ ys, SqL K H2 b ys ∧ R (ItvL K d o kvs b) H2)) : iZipV K td t2 σ H R := q
theorem g_or {te tf : TE} (q : te σ H Q ∨ tf σ H Q) : (fun σ H Q => te σ H Q ∨ tf σ H Q : TE) σ H Q := q
theorem g_meth {C : Addr} {m : Str} {sp : Sp} {dvs : List V} {E : XK} {ta : TE} {t : TA} (q : ta σ H fun x H1 => ∃ a dx fs, x = .ref a ∧ H1 a = some (.ins C dx fs) ∧ fs.lookup m = none ∧ t σ H1 fun vs H2 => sp (x :: (vs ++ dvs)) H2 Q E) : tMeth C m sp dvs E ta t σ H Q := q
end
end ZV
namespace M
open PySem L2
/-- a scale, with the dicts that it owns -/
def ScaleX (CL CT : Addr) (H : Hp) (v : V) (c : Str × Bool) (ks : List Knd) (g : List Addr) : Prop :=
  if c.2 = true then ∃ a dx u l, v = .ref a ∧ TreeX CT H a dx u l ks ∧ g = [u, l] else ∃ a dx, v = .ref a ∧ H a = some (.ins CL dx []) ∧ g = []
theorem ScaleX.at {CL CT : Addr} {H : Hp} {v : V} {c : Str × Bool} {ks : List Knd} {g : List Addr} (h : ScaleX CL CT H v c ks g) : ScaleAt CL CT H v c ks := by
  unfold ScaleX at h
  unfold ScaleAt
  split at h
  · rename_i e
    rw [if_pos e]
    obtain ⟨a, dx, u, l, rfl, t, _⟩ := h
    exact ⟨a, dx, u, l, rfl, t⟩
  · rename_i e
    rw [if_neg e]
    obtain ⟨a, dx, rfl, t, _⟩ := h
    exact ⟨a, dx, rfl, t⟩
abbrev Col := (Str × Bool) × List Addr
abbrev flatG (gs : List Col) : List Addr := gs.flatMap (·.2)
def SclX (CL CT : Addr) (H : Hp) (kvs : List (Key × V)) (gs : List Col) (ks : List Knd) : Prop :=
  Paired (fun kv (g : Col) => kv.1 = Sum.inr g.1.1 ∧ ScaleX CL CT H kv.2 g.1 (ksOf ks g.1.1) g.2) kvs gs
theorem SclX.at {CL CT : Addr} {H : Hp} {ks : List Knd} : ∀ {kvs : List (Key × V)} {gs : List Col}, SclX CL CT H kvs gs ks → ScalesAt CL CT H kvs (gs.map (·.1)) ks
  | _, _, .nil => .nil
  | _, _, .cons h r => .cons ⟨h.1, h.2.at⟩ (SclX.at r)
def numD : Nat → List (Str × List V) → List (Key × V)
  | _, [] => []
  | i, p :: r => (Sum.inr p.1, V.int i) :: numD (i + 1) r
def draftF (lc lk lp ds dn : Addr) : List (Str × V) := [("columns", .ref lc), ("kinds", .ref lk), ("persons", .ref lp), ("scales", .ref ds), ("numbers", .ref dn)]
structure DraftX (CL CT CD : Addr) (H : Hp) (a dx lc lk lp ds dn : Addr) (gs : List Col) (ks : List Knd) (ps : List (Str × List V)) : Prop where
  hi : H a = some (.ins CD dx (draftF lc lk lp ds dn))
  hc : ∃ cv, H lc = some (.lst cv) ∧ TupL H cv (gs.map fun g => colV g.1)
  hk : ∃ kv, H lk = some (.lst kv) ∧ TupL H kv (ks.map kindV)
  hp : ∃ pv, H lp = some (.lst pv) ∧ PerL H pv ps
  hs : ∃ kvs, H ds = some (.dK kvs) ∧ SclX CL CT H kvs gs ks
  hn : H dn = some (.dK (numD 0 ps))
  ne1 : lc ≠ lk
  ne2 : lc ≠ lp
  ne3 : lk ≠ lp
  nd : (ds :: dn :: flatG gs).Nodup
theorem fld_look {f g : Str} (h : (f == g) = false) {v : V} {r : List (Str × V)} {o : Option V} (q : r.lookup f = o) : ((g, v) :: r).lookup f = o := (lk_nxt h).trans q
theorem dr_columns (lc lk lp ds dn : Addr) : (draftF lc lk lp ds dn).lookup ("columns" : Str) = some (.ref lc) := lk_fst
theorem dr_kinds (lc lk lp ds dn : Addr) : (draftF lc lk lp ds dn).lookup ("kinds" : Str) = some (.ref lk) := fld_look (by decide +kernel) lk_fst
theorem dr_persons (lc lk lp ds dn : Addr) : (draftF lc lk lp ds dn).lookup ("persons" : Str) = some (.ref lp) := fld_look (by decide +kernel) (fld_look (by decide +kernel) lk_fst)
theorem dr_scales (lc lk lp ds dn : Addr) : (draftF lc lk lp ds dn).lookup ("scales" : Str) = some (.ref ds) := fld_look (by decide +kernel) (fld_look (by decide +kernel) (fld_look (by decide +kernel) lk_fst))
theorem dr_numbers (lc lk lp ds dn : Addr) : (draftF lc lk lp ds dn).lookup ("numbers" : Str) = some (.ref dn) := fld_look (by decide +kernel) (fld_look (by decide +kernel) (fld_look (by decide +kernel) (fld_look (by decide +kernel) lk_fst)))
theorem dr_no {f : Str} (h : [("columns" : Str), "kinds", "persons", "scales", "numbers"].contains f = false) (lc lk lp ds dn : Addr) : (draftF lc lk lp ds dn).lookup f = none := by
  have e : ∀ g ∈ [("columns" : Str), "kinds", "persons", "scales", "numbers"], (f == g) = false := fun g hg => by
    cases e : f == g with
    | false => rfl
    | true =>
      have q := eq_of_beq e
      subst q
      have : [("columns" : Str), "kinds", "persons", "scales", "numbers"].contains f = true := List.contains_iff_mem.mpr hg
      rw [h] at this
      cases this
  refine fld_look (e _ (by simp)) (fld_look (e _ (by simp)) (fld_look (e _ (by simp)) (fld_look (e _ (by simp)) (fld_look (e _ (by simp)) rfl))))
/-- no column of kinds lacks kinds -/
def bareOf (gs : List Col) (ks : List Knd) : List Col := gs.filter fun g => g.1.2 && (ksOf ks g.1.1).isEmpty
end M
namespace M
open PySem L2
section
variable {K : PySem.W.Frag} {σ : L2.St} {H : Hp} {D : Ends} {a C dx : Addr} {fs : List (Str × V)} {f : Str}
theorem g_newL (hσ : σ[0]? = some (some (.ref a))) (ha : H a = some (.ins C dx fs)) (c : Cls K C) (n : NoAttr K C f) (hl : fs.length < 1000)
    (q : ∀ p H', H p = none → H' p = some (.lst []) → H' a = some (.ins C dx (putF f (.ref p) fs)) → (∀ c o, c ≠ a → H c = some o → H' c = some o) → D.nx σ H') : sFld K (tVar 0) (tLst tNil) f D σ H := by
  refine g_sfld (U.g_lst (U.g_nil ⟨Nat.zero_le _, fun p np => ?_⟩))
  refine U.g_var hσ ?_
  have ap := ne_of_none ha np
  refine ⟨a, C, dx, fs, rfl, (upd_ne ap).trans ha, c, n, hl, q p _ np ((upd_ne (Ne.symm ap)).trans upd_same) upd_same fun b o hb e => ?_⟩
  rw [upd_ne hb, upd_ne (ne_of_none e np)]
  exact e
theorem g_newD (hσ : σ[0]? = some (some (.ref a))) (ha : H a = some (.ins C dx fs)) (c : Cls K C) (n : NoAttr K C f) (hl : fs.length < 1000)
    (q : ∀ p H', H p = none → H' p = some (.dK []) → H' a = some (.ins C dx (putF f (.ref p) fs)) → (∀ c o, c ≠ a → H c = some o → H' c = some o) → D.nx σ H') : sFld K (tVar 0) tDNewK f D σ H := by
  refine g_sfld (U.g_dnewK fun p np => ?_)
  refine U.g_var hσ ?_
  have ap := ne_of_none ha np
  refine ⟨a, C, dx, fs, rfl, (upd_ne ap).trans ha, c, n, hl, q p _ np ((upd_ne (Ne.symm ap)).trans upd_same) upd_same fun b o hb e => ?_⟩
  rw [upd_ne hb, upd_ne (ne_of_none e np)]
  exact e
end
theorem putF_skip {f g : Str} {v x : V} {r : List (Str × V)} (h : ¬ g = f) : putF f v ((g, x) :: r) = (g, x) :: putF f v r := by
  show (if g = f then _ else _) = _
  rw [if_neg h]
end M
namespace M
open PySem L2
theorem bare_nil {α γ : Type} (gs : List α) (b : α → Bool) (f : Nat → Option γ) (hf : ∀ i g, gs[i]? = some g → (f i).isSome = b g) : decide (((List.range gs.length).filterMap f).length = 0) = (gs.filter b).isEmpty := by
  rw [Bool.eq_iff_iff, decide_eq_true_eq, List.isEmpty_iff, List.length_eq_zero_iff, List.filterMap_eq_nil_iff, List.filter_eq_nil_iff]
  constructor
  · intro h g hg
    obtain ⟨i, hi⟩ := List.getElem?_of_mem hg
    have e := hf i g hi
    have lt : i < gs.length := by
      rcases Nat.lt_or_ge i gs.length with q | q
      · exact q
      · rw [List.getElem?_eq_none q] at hi; cases hi
    rw [h i (List.mem_range.mpr lt)] at e
    rw [← e]
    exact Bool.false_ne_true
  · intro h i hi
    have lt := List.mem_range.mp hi
    have e := hf i _ (List.getElem?_eq_getElem lt)
    cases q : f i with
    | none => rfl
    | some v =>
      rw [q] at e
      exact absurd e.symm (h _ (List.getElem_mem lt))
end M
namespace M
open PySem L2
/-! ### what stays when lists and dicts in S change -/
structure Keep (S : List Addr) (H H' : Hp) : Prop where
  k : ∀ c o, c ∉ S → H c = some o → H' c = some o
  s : ∀ c ∈ S, (∃ xs, H c = some (.lst xs)) ∨ ∃ kvs, H c = some (.dK kvs)
theorem Keep.tup {S : List Addr} {H H' : Hp} (q : Keep S H H') : TS H H' := fun a xs e => q.k a _ (fun z => by
  rcases q.s a z with ⟨ys, h⟩ | ⟨kvs, h⟩ <;> rw [e] at h <;> cases h) e
theorem Keep.ins {S : List Addr} {H H' : Hp} (q : Keep S H H') {a C dx : Addr} {fs : List (Str × V)} (e : H a = some (.ins C dx fs)) : H' a = some (.ins C dx fs) := q.k a _ (fun z => by
  rcases q.s a z with ⟨ys, h⟩ | ⟨kvs, h⟩ <;> rw [e] at h <;> cases h) e
theorem TreeX.keep {CT : Addr} {H H' : Hp} {a dx u l : Addr} {ks : List Knd} {S : List Addr} (q : Keep S H H') (hu : u ∉ S) (hl : l ∉ S) (h : TreeX CT H a dx u l ks) : TreeX CT H' a dx u l ks :=
  ⟨q.ins h.hi, let ⟨kvs, e, p⟩ := h.hu; ⟨kvs, q.k _ _ hu e, prd_mono (fun _ _ => WayAt.mono q.tup) p⟩, q.k _ _ hl h.hl, h.hn⟩
theorem ScaleX.keep {CL CT : Addr} {H H' : Hp} {v : V} {c : Str × Bool} {ks : List Knd} {g : List Addr} {S : List Addr} (q : Keep S H H') (hg : ∀ c ∈ g, c ∉ S) (h : ScaleX CL CT H v c ks g) : ScaleX CL CT H' v c ks g := by
  unfold ScaleX at h ⊢
  split at h
  · rename_i e
    rw [if_pos e]
    obtain ⟨a, dx, u, l, rfl, t, rfl⟩ := h
    exact ⟨a, dx, u, l, rfl, t.keep q (hg u (by simp)) (hg l (by simp)), rfl⟩
  · rename_i e
    rw [if_neg e]
    obtain ⟨a, dx, rfl, t, rfl⟩ := h
    exact ⟨a, dx, rfl, q.ins t, rfl⟩
theorem SclX.keep {CL CT : Addr} {H H' : Hp} {S : List Addr} {ks : List Knd} (q : Keep S H H') : ∀ {kvs : List (Key × V)} {gs : List Col}, (∀ c ∈ flatG gs, c ∉ S) → SclX CL CT H kvs gs ks → SclX CL CT H' kvs gs ks
  | _, _, _, .nil => .nil
  | _, _, hg, .cons h r => .cons ⟨h.1, h.2.keep q fun c hc => hg c (List.mem_append_left _ hc)⟩ (SclX.keep q (fun c hc => hg c (List.mem_append_right _ hc)) r)
/-- the keys of the scales -/
theorem SclX.val {CL CT : Addr} {H : Hp} {ks : List Knd} {n : Str} : ∀ {kvs : List (Key × V)} {gs : List Col}, SclX CL CT H kvs gs ks →
    ((n ∉ gs.map (fun g => g.1.1) ∧ valV kvs (Sum.inr n) = none) ∨ ∃ g ∈ gs, g.1.1 = n ∧ ∃ v, valV kvs (Sum.inr n) = some v ∧ ScaleX CL CT H v g.1 (ksOf ks g.1.1) g.2)
  | _, _, .nil => .inl ⟨by simp, valV_nil⟩
  | (k, v) :: kvs, g :: gs, .cons ⟨e, t⟩ r => by
    have e : k = Sum.inr g.1.1 := e
    subst e
    by_cases c : g.1.1 = n
    · exact .inr ⟨g, List.mem_cons_self, c, v, valV_pos (by show (Sum.inr g.1.1 : Key) = _; rw [c]), t⟩
    · have nk : ¬ ((Sum.inr g.1.1 : Key) = Sum.inr n) := fun z => c (Sum.inr.inj z)
      rw [valV_neg nk]
      rcases SclX.val (n := n) r with ⟨h1, h2⟩ | ⟨g', h1, h2⟩
      · exact .inl ⟨by simp only [List.map_cons, List.mem_cons, not_or]; exact ⟨fun z => c z.symm, h1⟩, h2⟩
      · exact .inr ⟨g', List.mem_cons_of_mem _ h1, h2⟩
end M
namespace M
open PySem L2
theorem SclX.flat {CL CT : Addr} {H : Hp} {ks : List Knd} : ∀ {kvs : List (Key × V)} {gs : List Col}, SclX CL CT H kvs gs ks → ∀ c ∈ flatG gs, ∃ m, H c = some (.dK m)
  | _, _, .nil, c, hc => by cases hc
  | _, _, .cons h r, c, hc => by
    rcases List.mem_append.mp hc with z | z
    · have t := h.2
      unfold ScaleX at t
      split at t
      · obtain ⟨a, dx, u, l, _, tr, e⟩ := t
        dsimp only at z
        rw [e] at z
        simp only [List.mem_cons, List.not_mem_nil, or_false] at z
        rcases z with rfl | rfl
        · obtain ⟨m, e, _⟩ := tr.hu; exact ⟨m, e⟩
        · exact ⟨_, tr.hl⟩
      · obtain ⟨a, dx, _, _, e⟩ := t
        dsimp only at z
        rw [e] at z
        cases z
    · exact SclX.flat r c z
end M
namespace G
open PySem PySem.Spec PyProof.Rows L2
/-! ### defs that are called where nothing is being shown: so repr of things may be reckoned -/
/-- what a def promises, called where no guard stands -/
structure FnG (P : Program) (w : World) (K : PySem.W.Frag) (mg : Str → Option Value) (base : Heap) (k : Nat) (f : Addr) (fd : FuncData) (ps : List Str) (sp : Sp) : Prop where
  plen : ∀ us H Q E, sp us H Q E → us.length = ps.length
  go : ∀ (A : Around) (outer : List Env) (s : Shared) (H : Hp) (args : Args) (us : List Value) (vs : List V) (Q : VK) (E : XK), Room k A → A.guards = some [] → Env0 P w K mg base A outer s H →
    BindsTo s fd args (ps.zip us) → Vals vs us → sp vs H Q E → codeAny (model P w) A (.call (.ref f) args) (CR CX0 outer P w H s Q E) s
theorem gd_deeper {A : Around} (env : Env) (h : A.guards = some []) : (A.deeper env).guards = some [] := by
  first | exact h | (simpa [Around.deeper] using h)
section
variable {X : Cx} {k : Nat} {f : Addr} {fd : FuncData} {ps ks : List Str} {sp : Sp} {dvs : List V} {ds : List Value} {E : XK} {x : Str} {p pos : Pos} {e : Expr} {es : List Expr} {kws : List Keyword} {t tk : TA}
theorem run_g {pins : List (Addr × Obj)} {σ : L2.St} {H : Hp} {s : Shared} {Q : VK} {us : List Value} {vs : List V} (F : FnG X.prog X.w X.K X.mg X.base k f fd ps sp) (hr : Room k X.A) (hgd : X.A.guards = some []) (hb : Binds X.K fd ps ds) (hd : Vals dvs ds)
    (I : Inv X pins σ H s) (r : Vals vs us) (h : sp (vs ++ dvs) H Q E) : wpAny (model X.prog X.w) X.A (call (.ref f) us) (EP X pins σ Q) X.xe s := by
  have both := r.append hd
  have n : (us ++ ds).length = ps.length := both.length ▸ F.plen _ _ _ _ h
  have c := F.go X.A X.stack s H ⟨us, []⟩ (us ++ ds) (vs ++ dvs) Q E hr hgd I.env0 (hb s us I.kIn n) both h
  refine wpAny_call (codeAny_mono c fun res s2 z => ?_)
  match res, z with
  | .ok (.ret _), z => exact I.after z
theorem pe_callG (F : FnG X.prog X.w X.K X.mg X.base k f fd ps sp) (hr : Room k X.A) (hgd : X.A.guards = some []) (hg : Gl X x) (hm : X.mg x = some (.ref f)) (hk : PySem.W.keepIn X.K (.ref f) = true) (hb : Binds X.K fd ps ds) (hd : Vals dvs ds)
    (ha : PA X (e :: es) t) (hdb : (x == ("__debug__" : Str)) = false := by decide) (he : starEach (e :: es) X.env = (false, eval e X.env) :: starEach es X.env := by rfl) (hpl : (backTo pos (starEach es X.env)).any (·.1) = false := by rfl) :
    PE X (.Call (.Name x p) (e :: es) [] pos) (tCall sp dvs E0 t) := ⟨fun pins s σ H Q I h =>
  wpAny_Call_Name_kw (ld_glob I hg hm (PySem.W.callWith_K (h₀ := X.base) I.ok.mod.kin hk (thn (ha.run pos pins s σ H _ I h) fun _ _ ⟨_, _, I1, r, q⟩ => ⟨I1.kIn, run_g F hr hgd hb hd I1 r q⟩) he hpl) hdb)⟩
end
section
variable {P : Program} {w : World} {K : PySem.W.Frag} {mg : Str → Option Value} {base : Heap} {k : Nat} {f : Addr} {fd : FuncData} {N ps : List Str} {sp : Sp}
theorem FnG.of (F : FnOk P w K mg base CX0 k f fd ps sp) : FnG P w K mg base k f fd ps sp := ⟨F.len, fun A outer s H args us vs Q E hr _ => F.run A outer s H args us vs Q E hr⟩
/-- a def by its body -/
theorem okG {x qual : Str} {st : Stmt} (F : Fun K x qual st f fd) (S : FnScope N ps (defScope st)) (plen : ∀ us H Q E, sp us H Q E → us.length = ps.length)
    (body : ∀ (cdv : Value) (A : Around) (outer : List Env) (s : Shared) (H : Hp) (vs : List V) (Q : VK) (E : XK), Room k (A.deeper (envOfC qual (defScope st) s.heap.objs.size f cdv)) →
      (A.deeper (envOfC qual (defScope st) s.heap.objs.size f cdv)).guards = some [] → sp vs H Q E →
      ∃ t, PSs (cxOf CX0 P w K mg base N qual (defScope st) f cdv A outer s H E).nox (defBody st) t ∧ t { nx := fun _ H' => Q .non H', rt := Q } (start N vs) H) : FnG P w K mg base (k + 1) f fd ps sp := by
  obtain ⟨oc, od, kV, doc, pm, an, cdv, ct, osl, rfl, lk, hcd⟩ := F.ex
  constructor
  · exact plen
  intro A outer s H args us vs Q E hr hgd e0 hb r hsp
  have old : K.In s.heap := e0.mod.kin.keeps fun b o z => (e0.bs b o z).1
  have nolim : s.heap.NoLimit := e0.mod.nolimit.keeps fun b o z => (e0.bs b o z).1
  have kinds : ∀ y ∈ ps.zip us, (defScope st).names.lookup y.1 = some .local ∨ ((defScope st).names.lookup y.1 = some .cell ∧ ((cellsFrom (s.heap.objs.size + 1) (defScope st).names []).lookup y.1).isSome = true) := by
    rintro ⟨n, v⟩ hy
    rcases S.par n (List.of_mem_zip hy).1 with q | q
    · exact Or.inl q
    · exact Or.inr ⟨q, PySem.W.cellsFrom_some _ _ _ (Or.inl q)⟩
  obtain ⟨t, ht, hq⟩ := body cdv A outer s H vs Q E (hr.deeper _) (gd_deeper _ hgd) hsp
  refine codeAny_call_function hr.depth (old _ _ lk) rfl S.co S.gen rfl (PySem.W.codeRec_of old hcd) (hb _ _ _ _ (wpAny_newFunctionEnv_cells S.kind kinds fun env he s1 x => ?_))
  cases he
  have I : Inv (cxOf CX0 P w K mg base N qual (defScope st) f cdv A outer s H E) [] (start N vs) H s1 := inv_start S hr.hd e0 (plen _ _ _ _ hsp) r x
  refine ⟨nolim.keeps x.toInCall.keep, codeAny_func (wpAny_mono (ht.nox.run [] s1 (start N vs) H _ I hq) ?_ fun _ _ z => z)⟩
  intro fl s2 z
  cases fl with
  | ret u =>
    obtain ⟨v, _, H2, J, rv, q⟩ := z
    exact ⟨v, H2, J.os, J.bare, J.base, J.hok, rv, q⟩
  | next =>
    obtain ⟨_, H2, J, q⟩ := z
    exact ⟨V.non, H2, J.os, J.bare, J.base, J.hok, rfl, q⟩
  | brk => obtain ⟨_, _, _, q⟩ := z; exact q.elim
  | cont => obtain ⟨_, _, _, q⟩ := z; exact q.elim
end
end G
namespace G
open PySem PySem.Spec PyProof.Rows L2
/-! ### the law's end: the def of the law, called where the top has run -/
theorem guards_caller : callerA.guards = some [] := rfl
section
variable {P : Program} {w : World} {K : PySem.W.Frag} {mg mb : Str → Option Value} {k : Nat} {fa a : Addr} {fd : FuncData} {x : Str} {sp : Sp} {s : Shared} {vs : List Value} {ns : List Int}
/-- what is tracked at the law's call: the script, where it is none of the top's own objects -/
def scrH (K : PySem.W.Frag) (a : Addr) (vs : List Value) (ns : List Int) : Hp := fun b => if b = a ∧ K.lookup a = none then some (.frz { cls := .type "list", data := .seq vs.toArray } (.lst (ns.map V.int))) else none
theorem scr_some {b : Addr} {o : HO} (h : scrH K a vs ns b = some o) : b = a ∧ K.lookup a = none ∧ o = .frz { cls := .type "list", data := .seq vs.toArray } (.lst (ns.map V.int)) := by
  unfold scrH at h
  split at h
  · rename_i c
    exact ⟨c.1, c.2, (Option.some.inj h).symm⟩
  · cases h
theorem scr_none {b : Addr} (h : b ≠ a) : scrH K a vs ns b = none := if_neg fun c => h c.1
theorem scr_K {b : Addr} {o : Obj} (h : K.lookup b = some o) : scrH K a vs ns b = none := if_neg fun c => by
  rw [c.1, c.2] at h
  cases h
theorem scr_dict {b : Addr} {o : Obj} {es : Array DictEntry} {ep : Nat} (ha : s.heap.get? a = some { cls := .type "list", data := .seq vs.toArray }) (h : s.heap.get? b = some o) (d : o.data = .dict es ep) : scrH K a vs ns b = none := by
  refine scr_none fun e => ?_
  rw [e, ha] at h
  cases h
  cases d
theorem endG (KX : K.In s.heap) (gm : s.heap.Ns mainGlobals mg) (gb : s.heap.Ns builtinsNs mb) (hbb : ∀ x : Str, x ≠ "__name__" → mb x = bootBuiltins x) (lim : s.heap.NoLimit) (gens : s.gens = #[])
    (ha : s.heap.get? a = some { cls := .type "list", data := .seq vs.toArray }) (hi : IntsAre vs ns) (hl : ns.length ≤ sizeLine) (hr : Room k callerA)
    (F : ∀ base : Heap, K.In base → base.Ns mainGlobals mg → FnG P w K mg base k fa fd [x] sp) (bind : ∀ (s : Shared) (u : Value), BindsTo s fd ⟨[u], []⟩ [(x, u)])
    (hsp : ∀ H : Hp, SqL K H a (ns.map V.int) → sp [.ref a] H (fun v _ => v = .bl true) fun _ _ _ => False) :
    codeAny (model P w) callerA (.call (.ref fa) ⟨[.ref a], []⟩) (fun r s' => r = .ok (.ret (.bool true)) ∧ OldK s.heap s'.heap ∧ s'.os = s.os ∧ AllBare s'.gens) s := by
  have rv := vals_ints hi
  have nl := hi.length
  let H := scrH K a vs ns
  have hok : HOk P w H s.heap := fun b u z => by
    obtain ⟨rfl, _, rfl⟩ := scr_some z
    exact ⟨ha, by rw [List.length_map]; exact hl, vs, _, rv, ha⟩
  have hS : SqL K H a (ns.map V.int) := by
    cases q : K.lookup a with
    | none => exact Or.inl (Or.inr ⟨_, if_pos ⟨rfl, q⟩⟩)
    | some o =>
      have e := KX a o q
      rw [ha] at e
      cases e
      exact Or.inr ⟨_, vs.toArray, _, q, rfl, rfl, rfl, by rw [List.size_toArray, nl]; exact hl, by simpa using rv⟩
  have names : ∀ {b : Addr} {m : Str → Option Value}, s.heap.Ns b m → (hidT s.heap H).Ns b m := by
    rintro b m ⟨o, es, ep, e, d, r⟩
    exact ⟨o, es, ep, hidT_get e (scr_dict ha e d), d, r⟩
  have KB : K.In (hidT s.heap H) := fun b o e => hidT_get (KX b o e) (scr_K e)
  have M : Mod K mg (hidT s.heap H) := by
    obtain ⟨mc, h1, h2⟩ := lim
    exact ⟨KB, names gm, ⟨mb, names gb, hbb⟩, ⟨mc, names h1, h2⟩⟩
  have e0 : Env0 P w K mg (hidT s.heap H) callerA [] s H := by
    refine ⟨rfl, M, fun b o e => of_hidT e, Nat.le_of_eq (hidT_size _ _), trivial, fun b hb => ?_, hok, .of_eq gens⟩
    exact absurd (show b ∈ ([] : List Addr) from hb) (by simp)
  have run := (F _ KB (names gm)).go callerA [] s H ⟨[.ref a], []⟩ [.ref a] [.ref a] _ _ hr guards_caller e0 (bind s (.ref a)) (.cons rfl .nil) (hsp H hS)
  refine codeAny_mono run fun r s2 z => ?_
  match r, z with
  | .ok (.ret u), z =>
    obtain ⟨v, H2, os, bare, un, hok2, rv2, q⟩ := z
    cases (show v = .bl true from q)
    cases (show u = Value.bool true from rv2)
    refine ⟨rfl, OldK.of_keep fun b o e => ?_, os, bare⟩
    cases q : H b with
    | none => exact un.keep b o e q (fun z => absurd (show b ∈ ([] : List Addr) from z) (by simp)) (by simp)
    | some u =>
      obtain ⟨rfl, _, rfl⟩ := scr_some q
      obtain ⟨e2, _⟩ := hok2 b _ (un.frzs b _ _ q)
      rw [ha] at e
      cases e
      exact e2
/-- the goal that the head leaves -/
theorem walkG {l : PySem.W.OpenLaw} {n k : Nat} {q : Program} {loose : List Str} {XP : (Str → Option Value) → Heap → Prop} {YP : World → Heap → Prop} {d : DefRec} {K : Params → PySem.W.Frag} {sp : PySem.W.Frag → Sp} {x : Str}
    (hn : l.most = some n) (hn2 : n ≤ sizeLine) (hdf : d.params.defaults = []) (hr : Room k callerA)
    (hY : ∀ (w : World) (h : Heap), YP w h → (K w.params).In h)
    (F : ∀ (w : World) (mg : Str → Option Value) (fa : Addr) (h : Heap), (K w.params).In h → h.Ns mainGlobals mg → mg d.name = some (.ref fa) →
      ∃ fd : FuncData, (∀ (s : Shared) (u : Value), BindsTo s fd ⟨[u], []⟩ [(x, u)]) ∧
        ∀ base : Heap, (K w.params).In base → base.Ns mainGlobals mg → FnG l.prog w (K w.params) mg base k fa fd [x] (sp (K w.params)))
    (hsp : ∀ (K : PySem.W.Frag) (H : Hp) (a : Addr) (ns : List Int), ns.length ≤ n → SqL K H a (ns.map V.int) → sp K [.ref a] H (fun v _ => v = .bl true) fun _ _ _ => False) :
    PySem.W.WalkO q loose XP YP l.row.toRowW d [] (fun f vs => PySem.call f vs) := by
  refine Att.attach_call hn hdf fun w s₀ s₁ mg mb fa o pm cd doc a vs ns T Y ho hd hcd hmg hobj hints hlen hg => ?_
  obtain ⟨fd, hb, hF⟩ := F w mg fa _ (hY w _ Y) T.T.g hmg
  exact endG (hY w _ Y) T.T.g T.T.b T.T.builtins T.T.nolimit hg hobj hints (Nat.le_trans hlen hn2) hr hF hb fun H => hsp _ H a ns hlen
end
end G
namespace QD
open PySem PySem.Spec PyProof.Rows L2
/-! ### repr, != and count of data; small dicts among them -/
/-- v is the datum d -/
inductive Dq (K : PySem.W.Frag) (H : Hp) : V → PyData → Prop
  | dp {v : V} {d : PyData} (h : Dp K H v d) : Dq K H v d
  | d0 {a : Addr} (h : H a = some (.dK [])) : Dq K H (.ref a) (.dict [])
  | d1 {a : Addr} {x : Str} {i : Int} (h : H a = some (.dK [(Sum.inr x, .int i)])) : Dq K H (.ref a) (.dict [(.str x, .int i)])
theorem seqT {K : PySem.W.Frag} {H H' : Hp} {a : Addr} {xs : List V} (s : Same H H') (h : SqT K H a xs) : SqT K H' a xs := by
  rcases h with (h | ⟨o, h⟩) | h
  · exact Or.inl (Or.inl (s _ _ h))
  · exact Or.inl (Or.inr ⟨o, s _ _ h⟩)
  · exact Or.inr h
mutual
theorem dp_mono {K : PySem.W.Frag} {H H' : Hp} (s : Same H H') : ∀ (d : PyData) (v : V), Dp K H v d → Dp K H' v d
  | .none, _, h => by cases h; exact .non
  | .bool b, _, h => by cases h; exact .bl b
  | .int i, _, h => by cases h; exact .int i
  | .str x, _, h => by cases h; exact .str x
  | .list ds, _, h => by
    cases h with
    | lst hs ha => exact .lst (s.seq hs) (dpa_mono s ds _ ha)
  | .tuple ds, _, h => by
    cases h with
    | tup hs ha => exact .tup (seqT s hs) (dpa_mono s ds _ ha)
  | .dict _, _, h => by cases h
theorem dpa_mono {K : PySem.W.Frag} {H H' : Hp} (s : Same H H') : ∀ (ds : List PyData) (vs : List V), DpAll K H vs ds → DpAll K H' vs ds
  | [], _, h => by cases h; exact .nil
  | d :: ds, _, h => by
    cases h with
    | cons h1 h2 => exact .cons (dp_mono s d _ h1) (dpa_mono s ds _ h2)
end
theorem Dq.mono {K : PySem.W.Frag} {H H' : Hp} {v : V} {d : PyData} (s : Same H H') (h : Dq K H v d) : Dq K H' v d := by
  cases h with
  | dp h => exact .dp (dp_mono s d v h)
  | d0 h => exact .d0 (s _ _ h)
  | d1 h => exact .d1 (s _ _ h)
mutual
theorem dp_noDict {K : PySem.W.Frag} {H : Hp} : ∀ (d : PyData) (v : V), Dp K H v d → d.hasDict = false
  | .none, _, _ => by simp only [PyData.hasDict]
  | .bool _, _, _ => by simp only [PyData.hasDict]
  | .int _, _, _ => by simp only [PyData.hasDict]
  | .str _, _, _ => by simp only [PyData.hasDict]
  | .list ds, _, h => by
    cases h with
    | lst _ ha => simp only [PyData.hasDict]; exact dpa_noDict ds _ ha
  | .tuple ds, _, h => by
    cases h with
    | tup _ ha => simp only [PyData.hasDict]; exact dpa_noDict ds _ ha
  | .dict _, _, h => by cases h
theorem dpa_noDict {K : PySem.W.Frag} {H : Hp} : ∀ (ds : List PyData) (vs : List V), DpAll K H vs ds → PyData.hasDictAll ds = false
  | [], _, _ => by simp only [PyData.hasDictAll]
  | d :: ds, _, h => by
    cases h with
    | cons h1 h2 => simp only [PyData.hasDictAll, dp_noDict d _ h1, dpa_noDict ds _ h2, Bool.or_false]
end
section
variable {X : Cx} {K : PySem.W.Frag}
theorem Dq.reads {pins : List (Addr × Obj)} {σ : L2.St} {H : Hp} {s : Shared} (I : Inv X pins σ H s) {v : V} {d : PyData} {u : Value} (h : Dq X.K H v d) (r : RelV v u) : ∃ as, Reads s.heap u d as ∧ (d.hasDict = true → sysModules ∉ as) := by
  cases h with
  | dp h =>
    obtain ⟨as, q⟩ := Dp.reads I d v u h r
    refine ⟨as, q, fun hd => ?_⟩
    exact absurd hd (by rw [dp_noDict d v h]; exact Bool.false_ne_true)
  | @d0 a h =>
    cases (show u = Value.ref a from r)
    obtain ⟨_, ns, vs, kv, o, es, ep, e1, ex, e2, ko, pr, nd⟩ := (show ObjOk X.prog X.w H s.heap a (.dK []) from I.hok a _ h)
    cases kv
    generalize hl : es.toList = l at pr
    cases pr
    refine ⟨_, .dict e1 ex.1 e2 (as := []) (bs := []) (by rw [hl]; exact .nil) (by rw [hl]; exact .nil), fun _ hm => ?_⟩
    have hm : sysModules ∈ [a] := by simpa using hm
    rw [List.mem_singleton] at hm
    rw [← hm] at ns
    cases ns
  | @d1 a x i h =>
    cases (show u = Value.ref a from r)
    obtain ⟨_, ns, vs, kv, o, es, ep, e1, ex, e2, ko, pr, nd⟩ := (show ObjOk X.prog X.w H s.heap a (.dK [(Sum.inr x, .int i)]) from I.hok a _ h)
    cases kv with
    | @cons _ p _ ps h1 h2 =>
      cases h2
      obtain ⟨k', u'⟩ := p
      obtain ⟨z1, z2⟩ := h1
      have z1 : (Sum.inr x : Key) = k' := z1
      subst z1
      obtain ⟨t, z2⟩ := (show ∃ t, u' = Value.int i t from z2)
      subst z2
      generalize hl : es.toList = l at pr
      cases pr with
      | @cons e kv es2 kvs hk hv p2 =>
        cases p2
        obtain ⟨tx, ek⟩ : ∃ t, e.key = Value.str x t := by
          rcases keyIs_shape (show keyIs (Sum.inr x) e.key = true from hk) with ⟨i2, t2, q, _⟩ | ⟨x2, t2, q, q2⟩
          · cases q
          · cases q; exact ⟨t2, q2⟩
        have ev : e.val = Value.int i t := hv
        refine ⟨_, .dict e1 ex.1 e2 (as := [] ++ []) (bs := [] ++ []) ?_ ?_, fun _ hm => ?_⟩
        · rw [hl]
          show ReadsAll s.heap [e.key] [.str x] _
          rw [ek]
          exact .cons (.str x tx) .nil
        · rw [hl]
          show ReadsAll s.heap [e.val] [.int i] _
          rw [ev]
          exact .cons (.int i t) .nil
        · have hm : sysModules ∈ [a] := by simpa using hm
          rw [List.mem_singleton] at hm
          rw [← hm] at ns
          cases ns
/-- repr(x) -/
def rRep (K : PySem.W.Frag) : List V → Hp → VK → Prop := fun xs H Q => ∃ x d, xs = [x] ∧ Dq K H x d ∧ d.showable = true ∧ d.depth ≤ 50 ∧ d.shown.length ≤ sizeLine ∧ Q (.str d.shown) H
theorem call_rep (hK : X.K = K) (hgd : X.A.guards = some []) (hu : X.A.units + 64 < cLine) : CallR X (.builtin "repr") (rRep K) := by
  subst hK
  intro pins s σ H xs us Q I r h
  obtain ⟨x, d, rfl, hx, hs, hdp, hz, q⟩ := h
  obtain ⟨u, rfl, ru⟩ := r.one
  have rf : ∀ a, x = V.ref a → wpAny (model X.prog X.w) X.A (call (.builtin "repr") [u]) (EP X pins σ Q) X.xe s := by
    intro a ex
    subst ex
    cases (show u = Value.ref a from ru)
    obtain ⟨as, rd, hsm⟩ := hx.reads I (u := Value.ref a) rfl
    exact repr_of_reads' rd hs hsm hgd (by omega) (fun _ _ e => e) (fun h' u tk hk => ⟨.str d.shown, H, I.kept (t' := tk) hk, ⟨u, rfl⟩, q⟩) hz
  cases hx with
  | d0 h => exact rf _ rfl
  | d1 h => exact rf _ rfl
  | dp h =>
    cases h with
    | lst h1 h2 => exact rf _ rfl
    | tup h1 h2 => exact rf _ rfl
    | non => cases (show u = Value.none from ru); simp only [PyData.shown] at q; exact P.repr_of_none ⟨.str "None", H, I.tok _, ⟨_, rfl⟩, q⟩
    | bl b => cases (show u = Value.bool b from ru); simp only [PyData.shown] at q; exact P.repr_of_bool ⟨.str (if b then "True" else "False"), H, I.tok _, ⟨_, rfl⟩, q⟩
    | int i =>
      obtain ⟨t, rfl⟩ := (show ∃ t, u = Value.int i t from ru)
      simp only [PyData.shown] at q
      simp only [PyData.showable] at hs
      exact P.repr_of_int (of_decide_eq_true hs) ⟨.str (toString i), H, I.tok _, ⟨_, rfl⟩, q⟩
    | str z =>
      obtain ⟨t, rfl⟩ := (show ∃ t, u = Value.str z t from ru)
      simp only [PyData.shown] at q hz
      exact P.repr_of_str ⟨.str (reprText z), H, I.tok _, ⟨_, rfl⟩, q⟩ hz
/-- l.count(y) of flat values -/
def rCntF (K : PySem.W.Frag) : V → List V → Hp → VK → Prop := fun x xs H Q => ∃ (p : Addr) (ys : List V) (y : V), x = .ref p ∧ xs = [y] ∧ SqL K H p ys ∧ flatV y = true ∧ ys.all flatV = true ∧ Q (.int ((ys.countP fun z => eqV z y : Nat) : Int)) H
theorem cnt_rel {y : V} : ∀ {ys : List V} {its : List Value}, Vals ys its → ys.all flatV = true → its.countP (eqU y) = ys.countP fun z => eqV z y
  | _, _, .nil, _ => rfl
  | z :: ys, u :: its, .cons r t, f => by
    rw [List.all_cons, Bool.and_eq_true] at f
    rw [List.countP_cons, List.countP_cons, cnt_rel t f.2, eqU_of r f.1]
theorem mt_cntF (hK : X.K = K) : MtR X "list.count" (rCntF K) := by
  subst hK
  intro pins s σ H x xs v us Q I rx rxs h
  obtain ⟨p, ys, y, rfl, rfl, hs, fy, fys, q⟩ := h
  cases rx
  obtain ⟨u, rfl, ru⟩ := rxs.one
  obtain ⟨its, rv, ⟨⟨cls, dd, data, sl⟩, n, ho, hc, hdn, hd⟩, hlen⟩ := I.list hs
  simp only at hc hd
  subst hc hd
  refine call_meets PySem.F.slot_list_count ⟨_, ho, rfl⟩ PySem.F.entry_list_count (PySem.F.args_list_count_2 _ _)
    (SeqAt.list_countAt p its.toArray n dd sl u (eqU y)) ⟨ho, fun u' hu' => mem_eqAt ru fy rv fys u' (by simpa using hu'), ?_⟩
  exact ⟨.int ((ys.countP fun z => eqV z y : Nat) : Int), H, I.tok _, ⟨s.toks, by rw [← cnt_rel (y := y) rv fys]⟩, q⟩
end
end QD
namespace KW
open PySem PySem.Spec PyProof.Rows L2
/-! ### f(k = v, ..): every parameter by its name -/
/-- these places of a list, in this order -/
def pk {α : Type} (ix : List Nat) (l : List α) : List α := ix.filterMap fun i => l[i]?
theorem pk_vals {zs : List V} {ws : List Value} (r : Vals zs ws) : ∀ ix : List Nat, Vals (pk ix zs) (pk ix ws)
  | [] => .nil
  | i :: ix => by
    unfold pk
    rw [List.filterMap_cons, List.filterMap_cons]
    cases e : zs[i]? with
    | some z =>
      obtain ⟨w, h, rw'⟩ := r.get e
      rw [h]
      exact .cons rw' (pk_vals r ix)
    | none =>
      have l := r.length
      have : ws[i]? = none := by
        rw [List.getElem?_eq_none_iff] at e ⊢
        omega
      rw [this]
      exact pk_vals r ix
def tK0 (m : Nat) (sp : Sp) (ix : List Nat) (E : XK) (tk : TA) : TE := fun σ H Q => tk σ H fun zs H2 => zs.length = m ∧ sp (pk ix zs) H2 Q E
theorem g_K0 {m : Nat} {sp : Sp} {ix : List Nat} {E : XK} {tk : TA} {σ : L2.St} {H : Hp} {Q : VK} (q : tk σ H fun zs H2 => zs.length = m ∧ sp (pk ix zs) H2 Q E) : tK0 m sp ix E tk σ H Q := q
section
variable {K : PySem.W.Frag} {fd : FuncData} {ps ks : List Str} {x qual : Str} {st : Stmt} {f : Addr}
theorem kb0 (F : Fun K x qual st f fd) (ix : List Nat) (h : ∀ (kV doc pm : Value) (an : Option Addr) (cdv ct : Value) (ws : List Value), ws.length = ks.length → bindArgs (PySem.W.fnOf x qual (defArgs st) (defBody st) (defScope st) .none kV doc pm an cdv ct) ⟨[], ks.zip ws⟩ = pure (ps.zip (pk ix ws))) :
    KBn K fd ps 0 ks (fun _ ws => pk ix ws) (fun _ zs => pk ix zs) := by
  obtain ⟨oc, od, kV, doc, pm, an, cdv, ct, osl, rfl, lk, hcd⟩ := F.ex
  refine ⟨fun s us ws X l1 l2 => ?_, fun r1 r2 => pk_vals r2 ix⟩
  cases us with
  | nil => exact BindsTo.of_eq (h kV doc pm an cdv ct ws l2)
  | cons a r => simp at l1
end
section
variable {X : Cx} {CX : CXT} {k : Nat} {f : Addr} {fd : FuncData} {ps ks : List Str} {sp : Sp} {E : XK} {x : Str} {p pos : Pos} {kws : List Keyword} {tk : TA} {ix : List Nat}
theorem pe_callK0 (F : FnOk X.prog X.w X.K X.mg X.base CX k f fd ps sp) (hr : Room k X.A) (hg : Gl X x) (hm : X.mg x = some (.ref f)) (hk : PySem.W.keepIn X.K (.ref f) = true) (hb : KBn X.K fd ps 0 ks (fun _ ws => pk ix ws) (fun _ zs => pk ix zs)) (hx : Passes CX X E)
    (hkw : PK X kws tk) (hall : (backToKw pos (keywordEach kws X.env)).all (·.1.isSome) = true := by rfl) (hks : (backToKw pos (keywordEach kws X.env)).filterMap (·.1) = ks := by rfl) (hdb : (x == ("__debug__" : Str)) = false := by decide)
    (hpl : ((backTo pos (starEach [] X.env)).any (·.1) || (backToKw pos (keywordEach kws X.env)).any (·.1.isNone)) = false := by rfl) : PE X (.Call (.Name x p) [] kws pos) (tK0 ks.length sp ix E tk) := by
  refine ⟨fun pins s σ H Q I h => ?_⟩
  refine wpAny_Call_Name_kw (ld_glob I hg hm ?_ hdb)
  refine PySem.W.callWith_KW0 (h₀ := X.base) I.ok.mod.kin hk hall ?_ hpl
  refine thn (hkw.run pos pins s σ H _ I h) fun ws s2 ⟨zs, H2, I2, rz, l2, q2⟩ => ⟨I2.kIn, ?_⟩
  rw [hks]
  exact run_fnN (us := []) (vs := []) F hr hb hx I2 .nil rz rfl l2 q2
end
end KW
namespace HX
open PySem PySem.Spec PyProof.Rows L2 He
/-! ### the head's facts, with a look of one's own at the written part -/
/-- what the names stand for, and what these objects name: twice over -/
def nmA (g : Addr → Option Obj) (nm : List Str) : List Addr := nm.map fun x => ga (frG g [mainGlobals]) x
def nxt (g : Addr → Option Obj) (as : List Addr) : List Addr := as.flatMap fun a => match g a with
  | some o => (match o.data with
    | .dict es _ => es.toList.flatMap fun e => refV e.val
    | .func fd => refV fd.code
    | .cls cd => [cd.ns]
    | _ => [])
  | none => []
def asX (g : Addr → Option Obj) (nm : List Str) : List Addr :=
  let a1 := nmA g nm
  let a2 := nxt g a1
  let a3 := nxt g a2
  let a4 := nxt g a3
  mainGlobals :: (a1 ++ (a2 ++ (a3 ++ a4)))
def obsX (nm : List Str) (fa : List Fa) (fn : List FnD) (xb : PySem.W.Frag → Bool) (g : Addr → Option Obj) : Al × Bool := (fun K : PySem.W.Frag => (obsE fa fn K, xb K)) (frG g (asX g nm))
def hookX (nm : List Str) (fa : List Fa) (fn : List FnD) (xb : PySem.W.Frag → Bool) : PySem.W.Hook where
  α := Al × Bool
  obs := fun s => obsX nm fa fn xb s.heap.get?
  val := fun _ => (valE fn, true)
  says := fun _ h => ∃ K : PySem.W.Frag, K.In h ∧ SaysE fa fn K ∧ xb K = true
  of := fun _ _ e => ⟨_, frG_in, congrArg Prod.fst e, congrArg Prod.snd e⟩
  keeps := fun _ _ _ ⟨K, hK, c⟩ k => ⟨K, PySem.W.Frag.In.keeps hK k, c⟩
theorem obsX_eq {nm : List Str} {fa : List Fa} {fn : List FnD} {xb : PySem.W.Frag → Bool} {g : Addr → Option Obj} {s : Shared} (h : ∀ a, g a = s.heap.get? a) : obsX nm fa fn xb g = (hookX nm fa fn xb).obs s := by
  have e : g = s.heap.get? := funext h
  rw [e] <;> rfl
/-- the end over such a head -/
theorem walkGE {l : PySem.W.OpenLaw} {n k : Nat} {q : Program} {loose : List Str} {XP : (Str → Option Value) → Heap → Prop} {YP : World → Heap → Prop} {d : DefRec} {sp : PySem.W.Frag → Sp} {x : Str}
    (hn : l.most = some n) (hn2 : n ≤ sizeLine) (hdf : d.params.defaults = []) (hr : Room k callerA)
    (F : ∀ (w : World) (mg : Str → Option Value) (fa : Addr) (h : Heap), YP w h → h.Ns mainGlobals mg → mg d.name = some (.ref fa) →
      ∃ (K : PySem.W.Frag) (fd : FuncData), K.In h ∧ (∀ (s : Shared) (u : Value), BindsTo s fd ⟨[u], []⟩ [(x, u)]) ∧
        ∀ base : Heap, K.In base → base.Ns mainGlobals mg → G.FnG l.prog w K mg base k fa fd [x] (sp K))
    (hsp : ∀ (K : PySem.W.Frag) (H : Hp) (a : Addr) (ns : List Int), ns.length ≤ n → SqL K H a (ns.map V.int) → sp K [.ref a] H (fun v _ => v = .bl true) fun _ _ _ => False) :
    PySem.W.WalkO q loose XP YP l.row.toRowW d [] (fun f vs => PySem.call f vs) := by
  refine Att.attach_call hn hdf fun w s₀ s₁ mg mb fa o pm cd doc a vs ns T Y ho hd hcd hmg hobj hints hlen hg => ?_
  obtain ⟨K, fd, KX, hb, hF⟩ := F w mg fa _ Y T.T.g hmg
  exact G.endG KX T.T.g T.T.b T.T.builtins T.T.nolimit hg hobj hints (Nat.le_trans hlen hn2) hr hF hb fun H => hsp K H a ns hlen
end HX
namespace LM
/-! ### sums over places -/
def sm (f : Nat → Int) : Nat → Int
  | 0 => 0
  | n + 1 => sm f n + f n
def sg (f : Nat → Int) (b e : Nat) : Int := sm f e - sm f b
theorem sg_self (f : Nat → Int) (b : Nat) : sg f b b = 0 := by unfold sg; omega
theorem sg_succ (f : Nat → Int) (b e : Nat) : sg f b (e + 1) = sg f b e + f e := by
  unfold sg
  have : sm f (e + 1) = sm f e + f e := rfl
  omega
theorem sg_add (f : Nat → Int) (b m e : Nat) : sg f b m + sg f m e = sg f b e := by unfold sg; omega
theorem sg_one (f : Nat → Int) (b : Nat) : sg f b (b + 1) = f b := by rw [sg_succ, sg_self]; omega
theorem sg_le {f g : Nat → Int} {b : Nat} : ∀ {e : Nat}, b ≤ e → (∀ i, b ≤ i → i < e → f i ≤ g i) → sg f b e ≤ sg g b e
  | 0, h, _ => by
    have : b = 0 := by omega
    subst this
    rw [sg_self, sg_self]
    exact Int.le_refl _
  | e + 1, h, q => by
    by_cases c : b = e + 1
    · rw [c, sg_self, sg_self]
      exact Int.le_refl _
    · have ih := sg_le (f := f) (g := g) (b := b) (e := e) (by omega) fun i h1 h2 => q i h1 (by omega)
      have := q e (by omega) (by omega)
      rw [sg_succ, sg_succ]
      omega
theorem sg_congr {f g : Nat → Int} {b e : Nat} (h : b ≤ e) (q : ∀ i, b ≤ i → i < e → f i = g i) : sg f b e = sg g b e := by
  have h1 := sg_le h fun i a c => Int.le_of_eq (q i a c)
  have h2 := sg_le h fun i a c => Int.le_of_eq (q i a c).symm
  omega
theorem sg_subc (f : Nat → Int) (c : Int) {b : Nat} : ∀ {e : Nat}, b ≤ e → sg (fun i => f i - c) b e = sg f b e - c * ((e : Int) - (b : Int))
  | 0, h => by
    have : b = 0 := by omega
    subst this
    rw [sg_self, sg_self]
    simp
  | e + 1, h => by
    by_cases q : b = e + 1
    · rw [q, sg_self, sg_self, Int.sub_self]
      omega
    · have ih := sg_subc f c (b := b) (e := e) (by omega)
      rw [sg_succ, sg_succ, ih]
      have : c * (((e + 1 : Nat) : Int) - (b : Int)) = c * ((e : Int) - (b : Int)) + c := by
        rw [show ((e + 1 : Nat) : Int) - (b : Int) = ((e : Int) - (b : Int)) + 1 by omega, Int.mul_add, Int.mul_one]
      omega
theorem sg_neg (f : Nat → Int) {b : Nat} : ∀ {e : Nat}, b ≤ e → sg (fun i => - f i) b e = - sg f b e
  | 0, h => by
    have : b = 0 := by omega
    subst this
    rw [sg_self, sg_self]
    rfl
  | e + 1, h => by
    by_cases q : b = e + 1
    · rw [q, sg_self, sg_self]; rfl
    · have ih := sg_neg f (b := b) (e := e) (by omega)
      rw [sg_succ, sg_succ, ih]
      omega
/-- y - f -/
theorem sg_rsubc (f : Nat → Int) (c : Int) {b e : Nat} (h : b ≤ e) : sg (fun i => c - f i) b e = c * ((e : Int) - (b : Int)) - sg f b e := by
  have h1 := sg_neg (fun i => f i - c) h
  rw [sg_subc f c h] at h1
  rw [show (fun i => c - f i) = fun i => -(f i - c) by funext i; omega, h1]
  omega
def ab (x : Int) : Int := if x < 0 then -x else x
theorem ab_ge (x : Int) : x ≤ ab x ∧ -x ≤ ab x ∧ 0 ≤ ab x := by
  unfold ab
  split <;> omega
theorem ab_pos {x : Int} (h : 0 ≤ x) : ab x = x := by unfold ab; rw [if_neg (by omega)]
theorem ab_neg {x : Int} (h : x ≤ 0) : ab x = -x := by
  unfold ab
  split <;> omega
def Mon (a : Nat → Int) (n : Nat) : Prop := ∀ i j, i ≤ j → j < n → a i ≤ a j
/-- what the values from b to e lose if c is shown -/
def lossAt (a : Nat → Int) (c : Int) (b e : Nat) : Int := sg (fun i => ab (a i - c)) b e
/-- the least loss of a stretch -/
def cs (a : Nat → Int) (b e : Nat) : Int := lossAt a (a ((b + e) / 2)) b e
theorem lossAt_add (a : Nat → Int) (c : Int) (b m e : Nat) : lossAt a c b m + lossAt a c m e = lossAt a c b e := sg_add _ b m e
theorem lossAt_nonneg (a : Nat → Int) (c : Int) {b e : Nat} (h : b ≤ e) : 0 ≤ lossAt a c b e := by
  have := sg_le (f := fun _ => 0) (g := fun i => ab (a i - c)) h fun i _ _ => (ab_ge _).2.2
  have z := sg_subc (fun _ => (0 : Int)) 0 h
  simp at z
  have z2 : sg (fun _ => (0 : Int)) b e = 0 := by
    have : ∀ n, sm (fun _ => (0 : Int)) n = 0 := by
      intro n
      induction n with
      | zero => rfl
      | succ n ih =>
        show sm _ n + 0 = 0
        rw [ih]; rfl
    unfold sg
    rw [this, this]; rfl
  unfold lossAt
  omega
theorem loss_up {a : Nat → Int} {n : Nat} (M : Mon a n) {m e : Nat} (h : m ≤ e) (he : e ≤ n) : lossAt a (a m) m e = sg a m e - a m * ((e : Int) - (m : Int)) := by
  unfold lossAt
  rw [← sg_subc a (a m) h]
  exact sg_congr h fun i h1 h2 => ab_pos (by have := M m i h1 (by omega); omega)
theorem loss_dn {a : Nat → Int} {n : Nat} (M : Mon a n) {b m : Nat} (h : b ≤ m) (he : m < n) : lossAt a (a m) b m = a m * ((m : Int) - (b : Int)) - sg a b m := by
  unfold lossAt
  rw [← sg_rsubc a (a m) h]
  refine sg_congr h fun i h1 h2 => ?_
  have := M i m (by omega) he
  rw [ab_neg (by omega)]
  omega
theorem mid_bd {b e : Nat} (h : b < e) : b ≤ (b + e) / 2 ∧ (b + e) / 2 < e := by omega
/-- the program's sums -/
theorem cs_sums {a : Nat → Int} {n : Nat} (M : Mon a n) {b e : Nat} (h : b < e) (he : e ≤ n) :
    cs a b e = (sm a e - sm a ((b + e) / 2) - a ((b + e) / 2) * ((e : Int) - ((b + e) / 2 : Nat))) + (a ((b + e) / 2) * (((b + e) / 2 : Nat) - (b : Int)) - sm a ((b + e) / 2) + sm a b) := by
  obtain ⟨h1, h2⟩ := mid_bd h
  unfold cs
  generalize (b + e) / 2 = m at *
  rw [← lossAt_add a (a m) b m e, loss_up M (by omega) he, loss_dn M h1 (by omega)]
  unfold sg
  omega
theorem cs_le {a : Nat → Int} {n : Nat} (M : Mon a n) {b e : Nat} (h : b < e) (he : e ≤ n) (y : Int) : cs a b e ≤ lossAt a y b e := by
  obtain ⟨h1, h2⟩ := mid_bd h
  have hk : (e - (b + e) / 2 = (b + e) / 2 - b) ∨ (e - (b + e) / 2 = (b + e) / 2 - b + 1) := by omega
  unfold cs
  generalize (b + e) / 2 = m at *
  rw [← lossAt_add a (a m) b m e, loss_up M (by omega) he, loss_dn M h1 (by omega), ← lossAt_add a y b m e]
  have u1 : sg a m e - y * ((e : Int) - (m : Int)) ≤ lossAt a y m e := by
    rw [← sg_subc a y (by omega)]
    exact sg_le (by omega) fun i _ _ => (ab_ge _).1
  have u2 : y * ((m : Int) - (b : Int)) - sg a b m ≤ lossAt a y b m := by
    rw [← sg_rsubc a y h1]
    exact sg_le h1 fun i _ _ => by have := (ab_ge (a i - y)).2.1; omega
  obtain ⟨q, hq⟩ : ∃ q : Nat, m = b + q := ⟨m - b, by omega⟩
  have e1 : (m : Int) - (b : Int) = (q : Int) := by omega
  rw [e1] at u2 ⊢
  rcases hk with hk | hk
  · have e2 : (e : Int) - (m : Int) = (q : Int) := by omega
    rw [e2] at u1 ⊢
    omega
  · have e2 : (e : Int) - (m : Int) = (q : Int) + 1 := by omega
    rw [e2, Int.mul_add, Int.mul_one] at u1 ⊢
    by_cases c : y ≤ a m
    · omega
    · have u3 : sg a m e - y * ((q : Int) + 1) + 2 * (y - a m) ≤ lossAt a y m e := by
        have z1 : lossAt a y m e = ab (a m - y) + lossAt a y (m + 1) e := by
          rw [← lossAt_add a y m (m + 1) e]
          unfold lossAt
          rw [sg_one]
        have z2 : sg a m e = a m + sg a (m + 1) e := by rw [← sg_add a m (m + 1) e, sg_one]
        have z3 : sg a (m + 1) e - y * ((e : Int) - ((m + 1 : Nat) : Int)) ≤ lossAt a y (m + 1) e := by
          rw [← sg_subc a y (by omega)]
          exact sg_le (by omega) fun i _ _ => (ab_ge _).1
        have z4 := (ab_ge (a m - y)).2.1
        have e3 : (e : Int) - ((m + 1 : Nat) : Int) = (q : Int) := by omega
        rw [e3] at z3
        rw [Int.mul_add, Int.mul_one]
        omega
      rw [Int.mul_add, Int.mul_one] at u3
      omega
/-- a stretch cut into two loses no more -/
theorem cs_cut {a : Nat → Int} {n : Nat} (M : Mon a n) {b m e : Nat} (h1 : b < m) (h2 : m < e) (he : e ≤ n) : cs a b m + cs a m e ≤ cs a b e := by
  have z1 := cs_le M h1 (by omega) (a ((b + e) / 2))
  have z2 := cs_le M h2 he (a ((b + e) / 2))
  have z3 := lossAt_add a (a ((b + e) / 2)) b m e
  unfold cs at *
  omega
theorem cs_nonneg (a : Nat → Int) {b e : Nat} (h : b ≤ e) : 0 ≤ cs a b e := lossAt_nonneg a _ h
/-! ### the least of some -/
def lmin : List Int → Option Int
  | [] => none
  | x :: r => match lmin r with
    | none => some x
    | some y => some (if y < x then y else x)
theorem lmin_none {xs : List Int} : lmin xs = none ↔ xs = [] := by
  cases xs with
  | nil => exact ⟨fun _ => rfl, fun _ => rfl⟩
  | cons x r =>
    refine ⟨fun h => ?_, fun h => by cases h⟩
    unfold lmin at h
    split at h <;> cases h
theorem lmin_out : ∀ {xs : List Int} {v : Int}, lmin xs = some v → v ∈ xs ∧ ∀ w ∈ xs, v ≤ w
  | [], v, h => by cases h
  | x :: r, v, h => by
    unfold lmin at h
    split at h
    · rename_i e
      cases h
      rw [lmin_none] at e
      subst e
      simp
    · rename_i y e
      obtain ⟨h1, h2⟩ := lmin_out e
      cases h
      refine ⟨?_, fun w hw => ?_⟩
      · split
        · exact List.mem_cons_of_mem _ h1
        · exact List.mem_cons_self
      · rcases List.mem_cons.mp hw with rfl | hw
        · split <;> omega
        · have := h2 w hw
          split <;> omega
theorem lmin_in {xs : List Int} {v : Int} (h1 : v ∈ xs) (h2 : ∀ w ∈ xs, v ≤ w) : lmin xs = some v := by
  cases e : lmin xs with
  | none => rw [lmin_none] at e; subst e; cases h1
  | some u =>
    obtain ⟨h3, h4⟩ := lmin_out e
    have := h2 u h3
    have := h4 v h1
    congr 1
    omega
/-- two lists of which each has one below each of the other -/
theorem lmin_eq {xs ys : List Int} (h1 : ∀ x ∈ xs, ∃ y ∈ ys, y ≤ x) (h2 : ∀ y ∈ ys, ∃ x ∈ xs, x ≤ y) : lmin xs = lmin ys := by
  cases e : lmin ys with
  | none =>
    rw [lmin_none] at e ⊢
    subst e
    cases xs with
    | nil => rfl
    | cons x r => obtain ⟨y, hy, _⟩ := h1 x List.mem_cons_self; cases hy
  | some v =>
    obtain ⟨h3, h4⟩ := lmin_out e
    obtain ⟨x, hx, hxv⟩ := h2 v h3
    have e2 : x = v := by
      obtain ⟨y, hy, hyx⟩ := h1 x hx
      have := h4 y hy
      omega
    subst e2
    refine lmin_in hx fun w hw => ?_
    obtain ⟨y, hy, hyw⟩ := h1 w hw
    have := h4 y hy
    omega
/-! ### the least losses of the first values -/
def put (t : List (Option Int)) (b : Nat) : Option Int := (t[b]?).getD none
/-- what each begin gives -/
def cand (c : Nat → Nat → Int) (t : List (Option Int)) (lo hi e : Nat) : List Int := (List.range' lo (hi - lo)).filterMap fun b => (put t b).map (· + c b e)
def tab (c : Nat → Nat → Int) (s : Nat) : Nat → List (Option Int)
  | 0 => [some 0]
  | n + 1 => tab c s n ++ [lmin (cand c (tab c s n) 0 (n + 2 - s) (n + 1))]
theorem tab_len (c : Nat → Nat → Int) (s n : Nat) : (tab c s n).length = n + 1 := by
  induction n with
  | zero => rfl
  | succ n ih =>
    show (tab c s n ++ [_]).length = _
    rw [List.length_append, ih]
    rfl
def F (c : Nat → Nat → Int) (s e : Nat) : Option Int := put (tab c s e) e
theorem tab_at (c : Nat → Nat → Int) (s : Nat) : ∀ {n i : Nat}, i ≤ n → (tab c s n)[i]? = some (F c s i)
  | 0, i, h => by
    have : i = 0 := by omega
    subst this
    rfl
  | n + 1, i, h => by
    by_cases e : i = n + 1
    · subst e
      have l := tab_len c s (n + 1)
      unfold F put
      rw [List.getElem?_eq_getElem (by omega)]
      rfl
    · show (tab c s n ++ [_])[i]? = _
      rw [List.getElem?_append_left (by rw [tab_len]; omega)]
      exact tab_at c s (by omega)
theorem put_tab (c : Nat → Nat → Int) (s : Nat) {n i : Nat} (h : i ≤ n) : put (tab c s n) i = F c s i := by
  unfold put
  rw [tab_at c s h]
  rfl
theorem mem_cand {c : Nat → Nat → Int} {t : List (Option Int)} {lo hi e : Nat} {x : Int} : x ∈ cand c t lo hi e ↔ ∃ b u, lo ≤ b ∧ b < hi ∧ put t b = some u ∧ x = u + c b e := by
  unfold cand
  rw [List.mem_filterMap]
  constructor
  · rintro ⟨b, hb, h⟩
    rw [List.mem_range'_1] at hb
    cases q : put t b with
    | none => rw [q] at h; cases h
    | some u =>
      rw [q] at h
      cases h
      exact ⟨b, u, hb.1, by omega, q, rfl⟩
  · rintro ⟨b, u, h1, h2, h3, rfl⟩
    exact ⟨b, List.mem_range'_1.mpr ⟨h1, by omega⟩, by rw [h3]; rfl⟩
theorem F_zero (c : Nat → Nat → Int) (s : Nat) : F c s 0 = some 0 := rfl
theorem F_succ (c : Nat → Nat → Int) (s n : Nat) : F c s (n + 1) = lmin (cand c (tab c s n) 0 (n + 2 - s) (n + 1)) := by
  show put (tab c s n ++ [_]) (n + 1) = _
  unfold put
  rw [List.getElem?_append_right (by rw [tab_len]; omega), tab_len, Nat.sub_self]
  rfl
section
variable {c : Nat → Nat → Int} {s : Nat} (hs : 1 ≤ s)
include hs
theorem F_mem {e : Nat} {v : Int} (h0 : 0 < e) (h : F c s e = some v) : ∃ b u, b + s ≤ e ∧ F c s b = some u ∧ v = u + c b e := by
  obtain ⟨n, rfl⟩ : ∃ n, e = n + 1 := ⟨e - 1, by omega⟩
  rw [F_succ] at h
  obtain ⟨b, u, h1, h2, h3, h4⟩ := mem_cand.mp (lmin_out h).1
  rw [put_tab c s (by omega)] at h3
  exact ⟨b, u, by omega, h3, h4⟩
theorem F_le {b e : Nat} {u : Int} (h : b + s ≤ e) (hb : F c s b = some u) : ∃ v, F c s e = some v ∧ v ≤ u + c b e := by
  obtain ⟨n, rfl⟩ : ∃ n, e = n + 1 := ⟨e - 1, by omega⟩
  rw [F_succ]
  have m : u + c b (n + 1) ∈ cand c (tab c s n) 0 (n + 2 - s) (n + 1) := mem_cand.mpr ⟨b, u, Nat.zero_le _, by omega, by rw [put_tab c s (by omega)]; exact hb, rfl⟩
  cases q : lmin (cand c (tab c s n) 0 (n + 2 - s) (n + 1)) with
  | none => rw [lmin_none] at q; rw [q] at m; cases m
  | some v => exact ⟨v, rfl, (lmin_out q).2 _ m⟩
/-- stretches of fewer than twice the size are enough -/
theorem F_near {n N : Nat} (hc : ∀ b m e, b < m → m < e → e ≤ N → c b m + c m e ≤ c b e) (hn : n + 1 ≤ N) : lmin (cand c (tab c s n) (n + 2 - 2 * s) (n + 2 - s) (n + 1)) = F c s (n + 1) := by
  rw [F_succ]
  refine lmin_eq (fun x hx => ?_) (fun y hy => ?_)
  · obtain ⟨b, u, h1, h2, h3, h4⟩ := mem_cand.mp hx
    exact ⟨x, mem_cand.mpr ⟨b, u, Nat.zero_le _, h2, h3, h4⟩, Int.le_refl _⟩
  · obtain ⟨b, u, h1, h2, h3, rfl⟩ := mem_cand.mp hy
    by_cases q : n + 2 - 2 * s ≤ b
    · exact ⟨_, mem_cand.mpr ⟨b, u, q, h2, h3, rfl⟩, Int.le_refl _⟩
    · rw [put_tab c s (by omega)] at h3
      obtain ⟨v, hv, hle⟩ := F_le hs (e := n + 1 - s) (by omega) h3
      refine ⟨v + c (n + 1 - s) (n + 1), mem_cand.mpr ⟨n + 1 - s, v, by omega, by omega, by rw [put_tab c s (by omega)]; exact hv, rfl⟩, ?_⟩
      have := hc b (n + 1 - s) (n + 1) (by omega) (by omega) hn
      omega
/-- more persons a crowd: no less loss -/
theorem F_mono : ∀ (e : Nat) {v : Int}, F c (s + 1) e = some v → ∃ w, F c s e = some w ∧ w ≤ v := by
  intro e
  induction e using Nat.strongRecOn with
  | _ e ih =>
    intro v h
    by_cases h0 : e = 0
    · subst h0
      exact ⟨v, h, Int.le_refl _⟩
    · obtain ⟨b, u, h1, h2, rfl⟩ := F_mem (by omega) (by omega) h
      obtain ⟨w, h3, h4⟩ := ih b (by omega) h2
      obtain ⟨x, h5, h6⟩ := F_le hs (b := b) (e := e) (by omega) h3
      exact ⟨x, h5, by omega⟩
theorem F_one {n : Nat} (h : n = 0 ∨ s ≤ n) : ∃ v, F c s n = some v := by
  by_cases h0 : n = 0
  · subst h0; exact ⟨0, rfl⟩
  · obtain ⟨v, h1, _⟩ := F_le (c := c) hs (b := 0) (e := n) (by omega) (F_zero c s)
    exact ⟨v, h1⟩
theorem F_pos (hc : ∀ b e, b ≤ e → 0 ≤ c b e) : ∀ (e : Nat) {v : Int}, F c s e = some v → 0 ≤ v := by
  intro e
  induction e using Nat.strongRecOn with
  | _ e ih =>
    intro v h
    by_cases h0 : e = 0
    · subst h0
      cases h
      exact Int.le_refl _
    · obtain ⟨b, u, h1, h2, rfl⟩ := F_mem hs (by omega) h
      have := ih b (by omega) h2
      have := hc b e (by omega)
      omega
theorem F_bd {B : Int} (hb : ∀ e, c 0 e ≤ B) (hB : 0 ≤ B) {e : Nat} {v : Int} (h : F c s e = some v) : v ≤ B := by
  by_cases h0 : e = 0
  · subst h0
    cases h
    exact hB
  · obtain ⟨b, u, h1, _⟩ := F_mem hs (by omega) h
    obtain ⟨w, h3, h4⟩ := F_le (c := c) hs (b := 0) (e := e) (by omega) (F_zero c s)
    rw [h] at h3
    cases h3
    have := hb e
    omega
end
/-! ### in how many ways -/
def wcond (c : Nat → Nat → Int) (s : Nat) (b e : Nat) : Bool := match F c s b with
  | none => false
  | some u => decide (some (u + c b e) = F c s e)
def wtab (c : Nat → Nat → Int) (s : Nat) : Nat → List Int
  | 0 => [1]
  | n + 1 => wtab c s n ++ [(((List.range (n + 2 - s)).filter fun b => wcond c s b (n + 1)).map fun b => ((wtab c s n)[b]?).getD 0).sum]
theorem wtab_len (c : Nat → Nat → Int) (s n : Nat) : (wtab c s n).length = n + 1 := by
  induction n with
  | zero => rfl
  | succ n ih =>
    show (wtab c s n ++ [_]).length = _
    rw [List.length_append, ih]
    rfl
theorem sum_pow : ∀ (n : Nat), ((List.range n).map fun b => (2 : Int) ^ b).sum + 1 = 2 ^ n
  | 0 => rfl
  | n + 1 => by
    have ih := sum_pow n
    rw [List.range_succ, List.map_append, List.sum_append]
    simp only [List.map_cons, List.map_nil, List.sum_cons, List.sum_nil]
    rw [Int.pow_succ]
    omega
theorem sum_le_f {f : Nat → Int} {p : Nat → Bool} (g : Nat → Int) : ∀ (n : Nat), (∀ b, b < n → 0 ≤ f b ∧ f b ≤ g b) → 0 ≤ (((List.range n).filter p).map f).sum ∧ (((List.range n).filter p).map f).sum ≤ ((List.range n).map g).sum
  | 0, _ => ⟨Int.le_refl _, Int.le_refl _⟩
  | n + 1, h => by
    have ih := sum_le_f (f := f) (p := p) g n fun b hb => h b (by omega)
    have hn := h n (by omega)
    rw [List.range_succ, List.filter_append, List.map_append, List.map_append, List.sum_append, List.sum_append]
    by_cases c : p n = true
    · rw [List.filter_cons_of_pos c]
      simp only [List.filter_nil, List.map_cons, List.map_nil, List.sum_cons, List.sum_nil]
      omega
    · rw [List.filter_cons_of_neg c]
      simp only [List.filter_nil, List.map_cons, List.map_nil, List.sum_cons, List.sum_nil]
      omega
theorem wtab_bd (c : Nat → Nat → Int) {s : Nat} (hs : 1 ≤ s) : ∀ (n i : Nat), i ≤ n → ∃ v, (wtab c s n)[i]? = some v ∧ 0 ≤ v ∧ v ≤ 2 ^ i
  | 0, i, h => by
    have : i = 0 := by omega
    subst this
    exact ⟨1, rfl, by decide, by decide⟩
  | n + 1, i, h => by
    by_cases e : i = n + 1
    · subst e
      have ih := wtab_bd c hs n
      have q : ∀ b, b < n + 2 - s → 0 ≤ ((wtab c s n)[b]?).getD 0 ∧ ((wtab c s n)[b]?).getD 0 ≤ (2 : Int) ^ b := fun b hb => by
        obtain ⟨v, h1, h2, h3⟩ := ih b (by omega)
        rw [h1]
        exact ⟨h2, h3⟩
      have z := sum_le_f (p := fun b => wcond c s b (n + 1)) (fun b => (2 : Int) ^ b) (n + 2 - s) q
      have z2 := sum_pow (n + 2 - s)
      refine ⟨(((List.range (n + 2 - s)).filter fun b => wcond c s b (n + 1)).map fun b => ((wtab c s n)[b]?).getD 0).sum, ?_, z.1, ?_⟩
      · show (wtab c s n ++ [_])[n + 1]? = _
        rw [List.getElem?_append_right (by rw [wtab_len]; omega), wtab_len, Nat.sub_self]
        rfl
      · have : (2 : Int) ^ (n + 2 - s) ≤ 2 ^ (n + 1) := by
          have := Nat.pow_le_pow_right (n := 2) (by decide) (show n + 2 - s ≤ n + 1 by omega)
          exact_mod_cast this
        omega
    · obtain ⟨v, h1, h2⟩ := wtab_bd c hs n i (by omega)
      refine ⟨v, ?_, h2⟩
      show (wtab c s n ++ [_])[i]? = _
      rw [List.getElem?_append_left (by rw [wtab_len]; omega)]
      exact h1
/-! ### how many are at most so much, of rising ones -/
theorem count_max {xs : List Int} {L : Int} (p : xs.Pairwise (· ≤ ·)) (m : Int) (hm : m ∈ (0 : Int) :: (((List.range xs.length).filterMap fun i : Nat => (xs[i]?).bind fun x : Int => if x ≤ L then some ((i : Int) + 1) else none))) (hle : ∀ y ∈ (0 : Int) :: (((List.range xs.length).filterMap fun i : Nat => (xs[i]?).bind fun x : Int => if x ≤ L then some ((i : Int) + 1) else none)), y ≤ m) : m = (xs.filter fun x => decide (x ≤ L)).length := by
  -- the first k are, no others
  have key : ∃ k : Nat, k ≤ xs.length ∧ (xs.filter fun x => decide (x ≤ L)).length = k ∧ ∀ i x, xs[i]? = some x → (x ≤ L ↔ i < k) := by
    clear hm hle
    induction xs with
    | nil => exact ⟨0, Nat.le_refl _, rfl, fun i x h => by simp at h⟩
    | cons a r ih =>
      obtain ⟨k, h1, h2, h3⟩ := ih (List.pairwise_cons.mp p).2
      by_cases c : a ≤ L
      · refine ⟨k + 1, by rw [List.length_cons]; omega, by rw [List.filter_cons_of_pos (by simpa using c), List.length_cons, h2], fun i x h => ?_⟩
        cases i with
        | zero => simp at h; subst h; exact ⟨fun _ => Nat.succ_pos _, fun _ => c⟩
        | succ i =>
          have := h3 i x (by simpa using h)
          rw [this]
          omega
      · have none : ∀ x ∈ r, ¬ x ≤ L := fun x hx => by
          have := (List.pairwise_cons.mp p).1 x hx
          omega
        refine ⟨0, Nat.zero_le _, ?_, fun i x h => ?_⟩
        · rw [List.filter_cons_of_neg (by simpa using c), List.filter_eq_nil_iff.mpr fun x hx => by simpa using none x hx]
          rfl
        · have : ¬ x ≤ L := by
            cases i with
            | zero => simp at h; subst h; exact c
            | succ i => exact none x (List.mem_of_getElem? (by simpa using h))
          exact ⟨fun q => absurd q this, fun q => absurd q (Nat.not_lt_zero _)⟩
  obtain ⟨k, h1, h2, h3⟩ := key
  rw [h2]
  have lo : (k : Int) ≤ m := by
    cases k with
    | zero => exact hle 0 List.mem_cons_self
    | succ k =>
      have hk : k < xs.length := by omega
      refine hle _ (List.mem_cons_of_mem _ (List.mem_filterMap.mpr ⟨k, List.mem_range.mpr hk, ?_⟩))
      rw [List.getElem?_eq_getElem hk]
      show (if xs[k] ≤ L then some ((k : Int) + 1) else none) = _
      rw [if_pos ((h3 k xs[k] (List.getElem?_eq_getElem hk)).mpr (Nat.lt_succ_self _))]
      rfl
  have hi : m ≤ (k : Int) := by
    rcases List.mem_cons.mp hm with rfl | hm
    · omega
    · obtain ⟨i, hi, e⟩ := List.mem_filterMap.mp hm
      rw [List.mem_range] at hi
      rw [List.getElem?_eq_getElem hi] at e
      have e : (if xs[i] ≤ L then some ((i : Int) + 1) else none) = some m := e
      by_cases q : xs[i] ≤ L
      · rw [if_pos q] at e
        cases e
        have := (h3 i xs[i] (List.getElem?_eq_getElem hi)).mp q
        omega
      · rw [if_neg q] at e
        cases e
  omega
end LM
namespace ET
open PySem PySem.Spec PyProof.Rows L2
/-! ### enumerate of a tuple -/
set_option maxHeartbeats 1000000 in
theorem newB1 {u : Value} {ob : Obj} {Hh : Heap → Prop} (B : Begins u ob Hh) :
    Meets (Builtin.«enumerate.__new__» ⟨[.type "enumerate", u], []⟩) (fun _ R s => Hh s.heap ∧
      R (.ok (.ret (.ref (s.heap.push ob).objs.size))) { s with heap := (s.heap.push ob).push { cls := .type "enumerate", data := .fields #[.none, .bool false, .ref s.heap.objs.size, rawInt 0, .none, .none] } }) :=
  .of_wp fun prog w A R s hh => by
    obtain ⟨hp, gg, dd, tk, os⟩ := s; obtain ⟨h1, h⟩ := hh
    have hsub := sub_enumerate
    have hbeg : ∀ {A' : Around} {E : Value → Shared → Prop} {Q : Value → Shared → Prop}, Q (.ref hp.objs.size) ⟨hp.push ob, gg, dd, tk, os⟩ → wpAny (model prog w) A' (pyIter u) Q E ⟨hp, gg, dd, tk, os⟩ :=
      fun q => B.iter prog w _ _ ⟨hp, gg, dd, tk, os⟩ _ h1 q
    wp_walk using hbeg
    refine wpAny_stack_any fun st => wpAny_pure ?_
    split
    · rename_i cl _ _ _ _ _
      cases (cl == Value.type "enumerate")
      · wp_walk using hbeg
        exact ⟨_, rfl, h⟩
      · wp_walk using hbeg
        exact ⟨_, rfl, h⟩
    · wp_walk using hbeg
      exact ⟨_, rfl, h⟩
theorem call_enumB {prog : Program} {w : World} {A : Around} {E : Value → Shared → Prop} {s : Shared} {u : Value} {ob : Obj} {Hh : Heap → Prop} {Q : Value → Shared → Prop} (B : Begins u ob Hh) (h1 : Hh s.heap)
    (h : ∀ h', IsEnum h' (s.heap.objs.size + 1) s.heap.objs.size 0 .none → h'.get? s.heap.objs.size = some ob → (∀ b o, s.heap.get? b = some o → h'.get? b = some o) → Q (.ref (s.heap.objs.size + 1)) { s with heap := h' }) :
    wpAny (model prog w) A (call (.type "enumerate") [u]) Q E s := by
  refine callType_new F.called_enumerate (by decide) (F.typeCall_enumerate_1 _) (F.newCall_enumerate_1 _) (fun oo => F.args_object_init_2 oo _) F.entry_enumerate_new (newB1 B) ⟨h1, ?_⟩
  have sz : (s.heap.push ob).objs.size = s.heap.objs.size + 1 := Heap.size_push ..
  show _ ∧ _
  rw [sz]
  have en : IsEnum ((s.heap.push ob).push { cls := .type "enumerate", data := .fields #[.none, .bool false, .ref s.heap.objs.size, rawInt 0, .none, .none] }) (s.heap.objs.size + 1) s.heap.objs.size 0 .none := by
    have z := Heap.get?_push_size (s.heap.push ob) (o := { cls := .type "enumerate", data := .fields #[.none, .bool false, .ref s.heap.objs.size, rawInt 0, .none, .none] }) rfl
    rw [sz] at z; exact z
  refine ⟨⟨_, en, rfl⟩, h _ en (Heap.get?_push_of_some _ (Heap.get?_push_size _ B.free)) fun b o e => Heap.get?_push_of_some _ (Heap.get?_push_of_some _ e)⟩
def IteT (K : PySem.W.Frag) (a : Addr) : It :=
  ⟨fun i H => ∃ (xs : List V) (x : V), SqT K H a xs ∧ xs[i]? = some x, fun i H v H' => ∃ T x, v = .ref T ∧ H T = none ∧ H' = upd H T (.tup [.int ((i : Nat) : Int), x]) ∧ ∀ xs, SqT K H a xs → xs[i]? = some x, fun i H => ∃ xs : List V, SqT K H a xs ∧ xs.length = i⟩
theorem turn_enumT {P : Program} {w : World} {K : PySem.W.Frag} {elts : List Expr} {kk : Nat} {tpos : Pos} (a e it : Addr) :
    Turn P w K (.Tuple elts kk tpos) (IteT K a) [e, it] e (fun i h => (∃ old, IsEnum h e it ((i : Nat) : Int) old) ∧ h.IsTupleIter it a i ∧ e ≠ it ∧ a ≠ it ∧ a ≠ e) where
  mem := List.mem_cons_self
  obj := by
    intro i h st b hb
    obtain ⟨⟨old, he⟩, ⟨o, ho, hc, hd⟩, _⟩ := st
    rcases List.mem_cons.mp hb with z | hb
    · subst z; exact ⟨_, he, fun v q => nomatch q⟩
    · rw [List.mem_singleton] at hb
      subst hb; exact ⟨o, ho, fun v q => by rw [hd] at q; cases q⟩
  keep := by
    intro i h h' st k
    obtain ⟨⟨old, he⟩, hi, hne⟩ := st
    exact ⟨⟨old, k e List.mem_cons_self _ he⟩, hi.at fun o q => k it (List.mem_cons_of_mem _ List.mem_cons_self) o q, hne⟩
  item := by
    intro X hP hw hK hc i pins s σ H E I hf st hg
    subst hP hw hK
    obtain ⟨⟨old, he⟩, hit, hne, hai, hae⟩ := st
    obtain ⟨xs, x, hq, hx⟩ := hg
    obtain ⟨its, rv, pt, hz⟩ := I.tuple hq
    obtain ⟨u, hu, ru⟩ := rv.get hx
    have hel : e < s.heap.objs.size := Heap.lt_size he
    have hil : it < s.heap.objs.size := by obtain ⟨_, q, _⟩ := hit; exact Heap.lt_size q
    have ilt : i < its.toArray.size := by
      obtain ⟨z, _⟩ := List.getElem?_eq_some_iff.mp hu
      simpa using z
    have pt' : s.heap.IsTuple a its.toArray := pt
    refine wpAny_pyNext_enum_itemC (A := X.A) (Draws.tuple (A := X.A.in1) (I.ok.hd hc) it a hai its.toArray) he ⟨hit, pt'⟩ ilt hne (by simp [hne, Ne.symm hae]) fun v h' tk ev ho hst hT hsz hk => ?_
    obtain rfl : v = u := by
      have e2 : its.toArray[i]? = some u := by simpa using hu
      rw [e2] at ev; cases ev; rfl
    refine ⟨_, rfl, wpAny_letOwnedTupleGo_enum (s := { s with heap := h', toks := tk + 1 }) ho fun h'' he' sb => ?_⟩
    have hT2 : h''.get? s.heap.objs.size = some { cls := .type "tuple", data := .seq #[.int ((i : Nat) : Int) tk, v] } := (sb.2 _ (Nat.ne_of_gt hel)).trans hT
    have new : ObjOk X.prog X.w (upd H s.heap.objs.size (.tup [.int ((i : Nat) : Int), x])) h'' s.heap.objs.size (.tup [.int ((i : Nat) : Int), x]) :=
      ⟨by show 2 ≤ sizeLine; decide, [.int ((i : Nat) : Int) tk, v], .cons ⟨_, rfl⟩ (.cons ru .nil), ⟨_, hT2, rfl, _, rfl⟩⟩
    have I1 : Inv X pins σ (upd H s.heap.objs.size (.tup [.int ((i : Nat) : Int), x])) { s with heap := h'', toks := tk + 1 } :=
      I.turnedNew (t' := tk + 1) (ch := [e, it]) (fun b ob hb q => (sb.2 b (fun z => hb (by simp [z]))).trans (hk b ob (fun z => hb (by simp [z])) (fun z => hb (by simp [z])) q)) hf (Nat.le_refl _) new
    refine ⟨.ref s.heap.objs.size, _, I1, rfl, ⟨_, x, rfl, I.hok.fresh (Nat.le_refl _), rfl, fun ys hy => by rw [I.tuple_inj hy hq]; exact hx⟩, ⟨⟨v, ?_⟩, hst.1.at fun o q => (sb.2 it (Ne.symm hne)).trans q, hne, hai, hae⟩, fun b hb => ?_⟩
    · have e1 : ((i + 1 : Nat) : Int) = (i : Int) + 1 := by omega
      rw [e1]; exact he'
    · have hb' : b < s.heap.objs.size := by
        rcases List.mem_cons.mp hb with z | hb
        · rw [z]; exact hel
        · rw [List.mem_singleton] at hb
          rw [hb]; exact hil
      rw [upd_ne (Nat.ne_of_lt hb')]
      exact (hf b hb).1
  done := by
    intro X hP hw hK hc i pins s σ H E I hf st hg
    subst hP hw hK
    obtain ⟨⟨old, he⟩, hit, hne, hai, hae⟩ := st
    obtain ⟨xs, hq, hx⟩ := hg
    obtain ⟨its, rv, pt, hz⟩ := I.tuple hq
    obtain ⟨f0, f1, f2, f3, f4, f5⟩ := hf it (List.mem_cons_of_mem _ List.mem_cons_self)
    have hl := rv.length
    have z : i = its.toArray.size := by simp; omega
    rw [z] at hit
    have pt' : s.heap.IsTuple a its.toArray := pt
    exact wpAny_pyNext_enum_endD (A := X.A) (Draws.tuple (A := X.A.in1) (I.ok.hd hc) it a hai its.toArray) he ⟨hit, pt'⟩ fun h' eb => ⟨rfl, I.turned (t' := s.toks) (fun b o hb q => eb b o hb q) f0 f1 f3 f4 f5⟩
  self := fun A i s Q E st h => by
    obtain ⟨⟨_, he⟩, _⟩ := st
    exact wpAny_pyIter_enum he h
def iEnumT (K : PySem.W.Frag) (ta : TA) : TI := fun σ H R => ta σ H fun vs H1 => ∃ a xs, vs = [.ref a] ∧ SqT K H1 a xs ∧ R (IteT K a) H1
theorem pi_enumT {X : Cx} {K : PySem.W.Frag} {e : Expr} {ta : TA} {p pos tpos : Pos} {elts : List Expr} {kk : Nat} (hK : X.K = K) (hg : Gl X "enumerate") (hm : X.mg "enumerate" = none) (ha : PA X [e] ta) (hs : starEach [e] X.env = [(false, eval e X.env)] := by rfl) :
    PI X (.Tuple elts kk tpos) (.Call (.Name "enumerate" p) [e] [] pos) (iEnumT K ta) := by
  subst hK
  constructor
  intro pins s σ H R I h
  refine Call_ (ld_blt I hg hm boot_enumerate (PyProof.Rows.callWith_type1 (thn (ha.run pos pins s σ H _ I h) fun us s1 hh => ?_) hs rfl))
  obtain ⟨vs, H1, I1, r1, a, xs, ex, hq, q⟩ := hh
  subst ex
  obtain ⟨u, rfl, ru⟩ := r1.one
  cases (show u = Value.ref a from ru)
  obtain ⟨its, rv, pt, hz⟩ := I1.tuple hq
  have la : a < s1.heap.objs.size := by obtain ⟨o, q, _⟩ := (show s1.heap.IsTuple a its.toArray from pt); exact Heap.lt_size q
  refine call_enumB (begins_tuple a its.toArray) pt fun h' he hit hk => wpAny_pyIter_enum he ?_
  have I3 : Inv X pins σ H1 { s1 with heap := h' } := I1.kept (t' := s1.toks) hk
  refine ⟨s1.heap.objs.size + 1, [s1.heap.objs.size + 1, s1.heap.objs.size], _, _, H1, rfl, I3, turn_enumT a (s1.heap.objs.size + 1) s1.heap.objs.size, ⟨⟨.none, he⟩, ⟨_, hit, rfl, rfl⟩, Nat.succ_ne_self _, Nat.ne_of_lt la, Nat.ne_of_lt (Nat.lt_succ_of_lt la)⟩, fun b hb => ?_, q⟩
  have hle : s1.heap.objs.size ≤ b := by
    rcases List.mem_cons.mp hb with z | hb
    · rw [z]; exact Nat.le_add_right _ _
    · rw [List.mem_singleton] at hb
      rw [hb]; exact Nat.le_refl _
  exact I1.fpOk hle (I1.hok.fresh hle)
theorem walk_enumT {K : PySem.W.Frag} {a : Addr} {xs : List V} : Walk (IteT K a) xs.length (fun H => SqT K H a xs) (YPair (fun i => some (.int ((i : Nat) : Int))) (fun i => xs[i]?)) := by
  refine ⟨fun i _ hi q => ⟨xs, xs[i], q, List.getElem?_eq_getElem hi⟩, fun _ q => ⟨xs, q, rfl⟩, fun i H v H' _ q y => ?_⟩
  obtain ⟨T, x, h1, h2, h3, h4⟩ := y
  exact ⟨T, .int ((i : Nat) : Int), x, h1, h2, h3, rfl, h4 xs q⟩
theorem g_iEnumT {K : PySem.W.Frag} {σ : L2.St} {H : Hp} {ta : TA} {R : It → Hp → Prop} (q : ta σ H fun vs H1 => ∃ a xs, vs = [.ref a] ∧ SqT K H1 a xs ∧ R (IteT K a) H1) : iEnumT K ta σ H R := q
end ET
namespace MD
open PySem PySem.Spec PyProof.Rows L2
/-! ### min(list, default = ..) of whole numbers -/
def rMinD (K : PySem.W.Frag) : List V → List V → Hp → VK → Prop := fun xs zs H Q => ∃ (a : Addr) (ns : List Int) (d : V), xs = [V.ref a] ∧ zs = [d] ∧ SqL K H a (ns.map V.int) ∧ (ns = [] → Q d H) ∧ ∀ m, m ∈ ns → (∀ y ∈ ns, m ≤ y) → Q (.int m) H
theorem reads_ints {h : Heap} : ∀ {ns : List Int} {its : List Value}, Vals (ns.map V.int) its → ∃ as, ReadsAll h its (ns.map PyData.int) as
  | [], _, r => by cases r; exact ⟨_, .nil⟩
  | n :: ns, _, r => by
    cases r with
    | cons r1 r2 =>
      obtain ⟨t, rfl⟩ := r1
      obtain ⟨as, q⟩ := reads_ints r2
      exact ⟨_, .cons (.int n t) q⟩
theorem foldl_min : ∀ (ns : List Int) (n : Int), ns.foldl min n ∈ n :: ns ∧ ∀ y ∈ n :: ns, ns.foldl min n ≤ y
  | [], n => ⟨List.mem_cons_self, fun y h => by rw [List.mem_singleton] at h; rw [h]; exact Int.le_refl _⟩
  | k :: r, n => by
    obtain ⟨h2, h3⟩ := foldl_min r (min n k)
    rw [List.foldl_cons]
    have z := h3 _ List.mem_cons_self
    refine ⟨?_, fun y hy => ?_⟩
    · rcases List.mem_cons.mp h2 with q | q
      · rw [q]
        rcases (show min n k = n ∨ min n k = k by omega) with e | e
        · rw [e]; exact List.mem_cons_self
        · rw [e]; exact List.mem_cons_of_mem _ List.mem_cons_self
      · exact List.mem_cons_of_mem _ (List.mem_cons_of_mem _ q)
    · rcases List.mem_cons.mp hy with rfl | hy
      · omega
      · rcases List.mem_cons.mp hy with rfl | hy
        · omega
        · exact h3 y (List.mem_cons_of_mem _ hy)
theorem alike_ints (ns : List Int) : PySem.W.AlikeAll (ns.map PyData.int) := by
  refine ⟨fun x hx y hy => ?_, fun x hx => ?_⟩
  · obtain ⟨i, _, rfl⟩ := List.mem_map.mp hx
    obtain ⟨j, _, rfl⟩ := List.mem_map.mp hy
    rfl
  · obtain ⟨i, _, rfl⟩ := List.mem_map.mp hx
    intro z
    cases z
theorem depth_ints : ∀ ns : List Int, PyData.depthAll (ns.map PyData.int) ≤ 1
  | [] => by simp [PyData.depthAll]
  | n :: r => by
    have := depth_ints r
    simp only [List.map_cons, PyData.depthAll, PyData.depth]
    omega
theorem cr_minD {X : Cx} {K : PySem.W.Frag} (hK : X.K = K) (hc : X.calm = true) (hu : X.A.units + 64 < cLine) : CallRK X (.builtin "min") [Str.ofString "default"] (rMinD K) := by
  subst hK
  intro pins s σ H xs zs us ws Q I r rz h
  obtain ⟨a, ns, d, rfl, rfl, hs, h0, h1⟩ := h
  obtain ⟨u, rfl, ru⟩ := r.one
  cases (show u = Value.ref a from ru)
  obtain ⟨w, rfl, rw1⟩ := rz.one
  obtain ⟨its, rv, hl, _⟩ := I.list hs
  obtain ⟨as, rd⟩ := reads_ints (h := s.heap) rv
  have dd := depth_ints ns
  refine PySem.W.min_list_default (xs := ns.map PyData.int) (as := as) (I.ok.hd hc) hl.isList rd (alike_ints ns) (by omega) (fun e h' tk hk => ?_) fun y ys i v h' tk bs e hv hrd hk => ?_
  · have e : ns = [] := by
      cases ns with
      | nil => rfl
      | cons => cases e
    exact ⟨d, H, I.kept (t' := tk) hk, rw1, h0 e⟩
  · cases ns with
    | nil => cases e
    | cons n r =>
      rw [List.map_cons] at e
      injection e with e1 e2
      subst e1 e2
      rw [PySem.W.minD_ints] at hrd
      obtain ⟨m1, m2⟩ := foldl_min r n
      generalize r.foldl min n = m at hrd m1 m2
      obtain ⟨t, rfl⟩ : ∃ t, v = Value.int m t := by cases hrd; exact ⟨_, rfl⟩
      exact ⟨.int m, H, I.kept (t' := tk) hk, ⟨t, rfl⟩, h1 m m1 m2⟩
theorem g_minD {K : PySem.W.Frag} {a : Addr} {ns : List Int} {H : Hp} {Q : VK} {d : V} (hs : SqL K H a (ns.map V.int)) (q0 : ns = [] → Q d H) (q1 : ∀ m, m ∈ ns → (∀ y ∈ ns, m ≤ y) → Q (.int m) H) : rMinD K [V.ref a] [d] H Q := ⟨a, ns, d, rfl, rfl, hs, q0, q1⟩
theorem g_ckw {r : List V → List V → Hp → VK → Prop} {t tk : TA} {σ : L2.St} {H : Hp} {Q : VK} (q : t σ H fun vs H1 => tk σ H1 fun zs H2 => r vs zs H2 Q) : tCKw r t tk σ H Q := q
end MD
namespace U
open PySem PySem.Spec PyProof.Rows L2
/-! ### range from a begin, sorted, slices -/
section
variable {σ : L2.St} {H : Hp} {Q : VK} {D : Ends} {K : PySem.W.Frag}
theorem g_iRng2 {ta : TA} {R : It → Hp → Prop} (q : ta σ H fun vs H1 => ∃ i j : Int, vs = [.int i, .int j] ∧ (-(2 ^ 62) ≤ i ∧ i < 2 ^ 62 ∧ -(2 ^ 62) ≤ j ∧ j < 2 ^ 62) ∧ R (Itr i (j - i).toNat) H1) : iRng2 ta σ H R := q
theorem e_rng2 {i j : Int} {R : It → Hp → Prop} (h : -1000000 ≤ i ∧ i ≤ 1000000 ∧ -1000000 ≤ j ∧ j ≤ 1000000) (q : R (Itr i (j - i).toNat) H) : ∃ a b : Int, [V.int i, V.int j] = [.int a, .int b] ∧ (-(2 ^ 62) ≤ a ∧ a < 2 ^ 62 ∧ -(2 ^ 62) ≤ b ∧ b < 2 ^ 62) ∧ R (Itr a (b - a).toNat) H := ⟨i, j, rfl, by omega, q⟩
theorem lcI_rg {g : TG} {tt : TT} {te : TE} {vs : List Nat} {lo : Int} {n : Nat} (hn : n ≤ 1000000) (f : Nat → Option V)
    (turn : ∀ i H' (A : VK) (B : Hp → Prop), i < n → Same H H' → (∀ y H4, f i = some y → Same H' H4 → A y H4) → (f i = none → ∀ H3, Same H' H3 → B H3) →
      g (.int (lo + (i : Int))) (wipe σ vs) H' fun σ2 H2 => wipe σ2 vs = wipe σ vs ∧ tt σ2 H2 fun b H3 => if b = true then te σ2 H3 A else B H3)
    (k : ∀ E H', H E = none → Same H H' → H' E = some (.lst ((List.range n).filterMap f)) → Q (.ref E) H') : lcI σ vs g tt te Q (Itr lo n) H := by
  refine lcI_same walk_range hn f (fun _ _ => trivial) (fun i H' x H'' y => by rw [y.1]; exact Same.refl _) (fun i x H' H'' A B hi s y kA kB => ?_) k
  obtain ⟨rfl, rfl⟩ := y
  exact turn i H'' A B hi s kA kB
theorem call_uSortI {X : Cx} (hK : X.K = K) : CallR X (.builtin "sorted") (rSortedI K) := by subst hK; exact cr_sortedI
theorem call_uSortP {X : Cx} (hK : X.K = K) : CallR X (.builtin "sorted") (rSortedPO K) := by subst hK; exact cr_sortedPO
theorem call_uMaxL {X : Cx} (hK : X.K = K) (hc : X.calm = true) : CallR X (.builtin "max") (rMax K) := by subst hK; exact cr_max hc
theorem call_uMinL {X : Cx} (hK : X.K = K) (hc : X.calm = true) : CallR X (.builtin "min") (rMin K) := by subst hK; exact cr_min hc
theorem g_sortI {p : Addr} {ns : List Int} (h : SqL K H p (ns.map V.int)) (q : ∀ (ns' : List Int) (l : Addr), ns'.Perm ns → ns'.Pairwise (· ≤ ·) → H l = none → Q (.ref l) (upd H l (.lst (ns'.map V.int)))) : rSortedI K [.ref p] H Q := ⟨p, ns, rfl, h, q⟩
theorem g_maxL {p : Addr} {ns : List Int} (h : SqL K H p (ns.map V.int)) (hl : 0 < ns.length) (q : ∀ m, m ∈ ns → (∀ y, y ∈ ns → y ≤ m) → Q (.int m) H) : rMax K [.ref p] H Q := ⟨p, ns, rfl, h, hl, q⟩
theorem g_minL {p : Addr} {ns : List Int} (h : SqL K H p (ns.map V.int)) (hl : 0 < ns.length) (q : ∀ m, m ∈ ns → (∀ y, y ∈ ns → m ≤ y) → Q (.int m) H) : rMin K [.ref p] H Q := ⟨p, ns, rfl, h, hl, q⟩
theorem g_cat {a b : Addr} {xs zs : List V} (h : H a = some (.lst xs)) (hb : H b = some (.lst zs)) (hl : xs.length + zs.length ≤ 1000000) (q : ∀ p, H p = none → Q (.ref p) (upd H p (.lst (xs ++ zs)))) : uAdd K (.ref a) (.ref b) H Q := Or.inl ⟨a, b, xs, zs, rfl, rfl, h, hb, Nat.le_trans hl (by decide), q⟩
theorem g_par3 {i j l : Nat} {ta : TA} (q : ta σ H fun vs H1 => ∃ u v w, vs = [u, v, w] ∧ D.nx (((σ.set i (some u)).set j (some v)).set l (some w)) H1) : tPar3 i j l ta D σ H := q
theorem e_three {u v w : V} {R : V → V → V → Prop} (q : R u v w) : ∃ x y z, [u, v, w] = [x, y, z] ∧ R x y z := ⟨u, v, w, rfl, q⟩
end
theorem cut_mid {xs : List V} {b e : Nat} (he : e ≤ xs.length) (hb : b ≤ e) : cutV xs (some (b : Int)) (some (e : Int)) = (xs.drop b).take (e - b) := by
  unfold cutV
  rw [HT.sIx_nat, HT.sIx_nat, show min b xs.length = b by omega, show min e xs.length = e by omega]
theorem cut_from {xs : List V} {b : Nat} (hb : b ≤ xs.length) : cutV xs (some (b : Int)) none = xs.drop b := by
  unfold cutV
  rw [HT.sIx_nat, HT.sIx_none, show min b xs.length = b by omega, List.take_of_length_le (by rw [List.length_drop]; omega)]
theorem at_end {α : Type} {xs ys : List α} {v : α} (e : xs = ys ++ [v]) : atI xs (-1) = some v := by
  rw [e]
  exact atI_last ys v
end U
namespace LM
open PySem L2
theorem fm_some {α β : Type} (f : α → β) : ∀ xs : List α, xs.filterMap (fun a => some (f a)) = xs.map f
  | [] => rfl
  | a :: r => by rw [List.filterMap_cons, List.map_cons, ← fm_some f r]
/-! ### pairs sorted -/
def keyAt (H : Hp) (v : V) : Int × Int := match v with
  | .ref t => match H t with
    | some (.tup [.int i, .int j]) => (i, j)
    | _ => (0, 0)
  | _ => (0, 0)
theorem keyAt_of {H : Hp} {t : Addr} {i j : Int} (h : H t = some (.tup [.int i, .int j])) : keyAt H (.ref t) = (i, j) := by
  unfold keyAt
  dsimp only
  rw [h]
/-- pairs of ints -/
def pairV (p : Int × Int) : List V := [.int p.1, .int p.2]
theorem key_prd {H : Hp} : ∀ {vs : List V} {ps : List (Int × Int)}, M.TupL H vs (ps.map pairV) → vs.map (keyAt H) = ps ∧ ∀ v ∈ vs, ∃ t, v = V.ref t ∧ H t = some (.tup [.int (keyAt H v).1, .int (keyAt H v).2])
  | [], [], _ => ⟨rfl, fun v h => by cases h⟩
  | v :: vs, p :: ps, .cons h r => by
    obtain ⟨a, rfl, h⟩ := h
    obtain ⟨e1, e2⟩ := key_prd (ps := ps) r
    have k := keyAt_of (i := p.1) (j := p.2) h
    refine ⟨by rw [List.map_cons, e1, k], fun w hw => ?_⟩
    rcases List.mem_cons.mp hw with rfl | hw
    · exact ⟨a, rfl, by rw [k]; exact h⟩
    · exact e2 w hw
theorem srt_fst {k : V → Int × Int} {ys : List V} (h : SrtO.Srtd (ltP k) ys) : (ys.map fun v => (k v).1).Pairwise (· ≤ ·) := by
  rw [List.pairwise_map]
  refine List.Pairwise.imp (fun {a b} q => ?_) h
  have q : SrtO.lexB (k b) (k a) = false := q
  refine Int.not_lt.mp fun c => ?_
  rw [SrtO.lexB_iff.mpr (.inl c)] at q
  cases q
/-- values with their places -/
def idx (ns : List Int) : List (Int × Int) := (List.range ns.length).map fun i : Nat => ((ns[i]?).getD 0, (i : Int))
theorem idx_len (ns : List Int) : (idx ns).length = ns.length := by unfold idx; rw [List.length_map, List.length_range]
theorem idx_fst (ns : List Int) : (idx ns).map (·.1) = ns := by
  unfold idx
  rw [List.map_map]
  refine List.ext_getElem? fun i => ?_
  rw [List.getElem?_map]
  by_cases h : i < ns.length
  · rw [List.getElem?_range h]
    show some ((ns[i]?).getD 0) = ns[i]?
    rw [List.getElem?_eq_getElem h]; rfl
  · rw [List.getElem?_eq_none (by rw [List.length_range]; omega), List.getElem?_eq_none (by omega)]; rfl
/-- a row of values in ascending order, and their places -/
structure RowOk (ns row pl : List Int) : Prop where
  up : row.Pairwise (· ≤ ·)
  len : row.length = ns.length
  pln : pl.length = ns.length
  perm : (row.zip pl).Perm (idx ns)
theorem zip_maps {α : Type} (f g : α → Int) : ∀ xs : List α, (xs.map f).zip (xs.map g) = xs.map fun x => (f x, g x)
  | [] => rfl
  | x :: r => by rw [List.map_cons, List.map_cons, List.zip_cons_cons, zip_maps f g r, List.map_cons]
theorem zip_fst : ∀ {xs ys : List Int}, xs.length = ys.length → (xs.zip ys).map (·.1) = xs
  | [], [], _ => rfl
  | x :: xs, y :: ys, h => by
    rw [List.zip_cons_cons, List.map_cons, zip_fst (by simpa using h)]
theorem RowOk.rp {ns row pl : List Int} (h : RowOk ns row pl) : row.Perm ns := by
  have := h.perm.map (·.1)
  rw [zip_fst (by rw [h.len, h.pln]), idx_fst] at this
  exact this
theorem RowOk.of {ns : List Int} {k : V → Int × Int} {xs ys : List V} (hx : xs.map k = idx ns) (hs : SrtO.Srtd (ltP k) ys) (hp : ys.Perm xs) : RowOk ns (ys.map fun v => (k v).1) (ys.map fun v => (k v).2) := by
  have l := hp.length_eq
  have l2 : xs.length = ns.length := by rw [← idx_len ns, ← hx, List.length_map]
  refine ⟨srt_fst hs, by rw [List.length_map]; omega, by rw [List.length_map]; omega, ?_⟩
  rw [zip_maps]
  have := hp.map k
  rw [hx] at this
  exact this
/-! ### a ladder -/
def rowF (row : List Int) (i : Nat) : Int := (row[i]?).getD 0
theorem rowF_at {row : List Int} {i : Nat} (h : i < row.length) : row[i]? = some (rowF row i) := by
  unfold rowF
  rw [List.getElem?_eq_getElem h]; rfl
theorem rowF_mon {row : List Int} (h : row.Pairwise (· ≤ ·)) : Mon (rowF row) row.length := fun i j hij hj => by
  rcases Nat.eq_or_lt_of_le hij with e | e
  · rw [e]; exact Int.le_refl _
  · have := (List.pairwise_iff_getElem.mp h) i j (by omega) hj e
    unfold rowF
    rw [List.getElem?_eq_getElem (by omega), List.getElem?_eq_getElem hj]
    exact this
def sumsL (row : List Int) (n : Nat) : List Int := (List.range (n + 1)).map (sm (rowF row))
theorem sumsL_at {row : List Int} {n i : Nat} (h : i ≤ n) : (sumsL row n)[i]? = some (sm (rowF row) i) := by
  unfold sumsL
  rw [List.getElem?_map, List.getElem?_range (by omega)]; rfl
theorem sumsL_succ (row : List Int) (n : Nat) : sumsL row (n + 1) = sumsL row n ++ [sm (rowF row) n + rowF row n] := by
  unfold sumsL
  rw [List.range_succ (n := n + 1), List.map_append]; rfl
theorem sumsL_end (row : List Int) : ∀ n : Nat, ∃ ys, sumsL row n = ys ++ [sm (rowF row) n]
  | 0 => ⟨[], rfl⟩
  | n + 1 => ⟨sumsL row n, sumsL_succ row n⟩
def ladF (la lp ls : Addr) : List (Str × V) := [("ascending", .ref la), ("places", .ref lp), ("sums", .ref ls)]
structure LadX (CL : Addr) (H : Hp) (x dx la lp ls : Addr) (row pl : List Int) : Prop where
  hi : H x = some (.ins CL dx (ladF la lp ls))
  ha : H la = some (.lst (row.map V.int))
  hp : H lp = some (.lst (pl.map V.int))
  hs : H ls = some (.lst ((sumsL row row.length).map V.int))
theorem LadX.same {CL : Addr} {H H' : Hp} {x dx la lp ls : Addr} {row pl : List Int} (s : Same H H') (h : LadX CL H x dx la lp ls row pl) : LadX CL H' x dx la lp ls row pl := ⟨s _ _ h.hi, s _ _ h.ha, s _ _ h.hp, s _ _ h.hs⟩
theorem lad_a (la lp ls : Addr) : (ladF la lp ls).lookup ("ascending" : Str) = some (.ref la) := M.lk_fst
theorem lad_p (la lp ls : Addr) : (ladF la lp ls).lookup ("places" : Str) = some (.ref lp) := (M.lk_nxt (by decide +kernel)).trans M.lk_fst
theorem lad_s (la lp ls : Addr) : (ladF la lp ls).lookup ("sums" : Str) = some (.ref ls) := (M.lk_nxt (by decide +kernel)).trans ((M.lk_nxt (by decide +kernel)).trans M.lk_fst)
theorem lad_no {f : Str} (h1 : (f == ("ascending" : Str)) = false) (h2 : (f == ("places" : Str)) = false) (h3 : (f == ("sums" : Str)) = false) (la lp ls : Addr) : (ladF la lp ls).lookup f = none := (M.lk_nxt h1).trans ((M.lk_nxt h2).trans ((M.lk_nxt h3).trans rfl))
theorem LadX.fa {K : PySem.W.Frag} {CL : Addr} {H : Hp} {x dx la lp ls : Addr} {row pl : List Int} (h : LadX CL H x dx la lp ls row pl) (c : Cls K CL) (n : NoAttr K CL "ascending") {R : V → Prop} (q : R (.ref la)) :
    ∃ a C dx fs v, V.ref x = .ref a ∧ H a = some (.ins C dx fs) ∧ Cls K C ∧ NoAttr K C "ascending" ∧ fs.lookup ("ascending" : Str) = some v ∧ R v := ⟨x, CL, dx, _, _, rfl, h.hi, c, n, lad_a la lp ls, q⟩
theorem LadX.fp {K : PySem.W.Frag} {CL : Addr} {H : Hp} {x dx la lp ls : Addr} {row pl : List Int} (h : LadX CL H x dx la lp ls row pl) (c : Cls K CL) (n : NoAttr K CL "places") {R : V → Prop} (q : R (.ref lp)) :
    ∃ a C dx fs v, V.ref x = .ref a ∧ H a = some (.ins C dx fs) ∧ Cls K C ∧ NoAttr K C "places" ∧ fs.lookup ("places" : Str) = some v ∧ R v := ⟨x, CL, dx, _, _, rfl, h.hi, c, n, lad_p la lp ls, q⟩
theorem LadX.fs {K : PySem.W.Frag} {CL : Addr} {H : Hp} {x dx la lp ls : Addr} {row pl : List Int} (h : LadX CL H x dx la lp ls row pl) (c : Cls K CL) (n : NoAttr K CL "sums") {R : V → Prop} (q : R (.ref ls)) :
    ∃ a C dx fs v, V.ref x = .ref a ∧ H a = some (.ins C dx fs) ∧ Cls K C ∧ NoAttr K C "sums" ∧ fs.lookup ("sums" : Str) = some v ∧ R v := ⟨x, CL, dx, _, _, rfl, h.hi, c, n, lad_s la lp ls, q⟩
/-- a number, or None -/
def oV : Option Int → V
  | none => .non
  | some i => .int i
theorem tab_end (c : Nat → Nat → Int) (s : Nat) : ∀ n : Nat, ∃ ys, tab c s n = ys ++ [F c s n]
  | 0 => ⟨[], rfl⟩
  | n + 1 => ⟨tab c s n, by rw [F_succ]; rfl⟩
theorem map_end {α β : Type} (f : α → β) {xs ys : List α} {v : α} (e : xs = ys ++ [v]) : xs.map f = ys.map f ++ [f v] := by rw [e, List.map_append]; rfl
theorem tab_succ (c : Nat → Nat → Int) (s n : Nat) : tab c s (n + 1) = tab c s n ++ [F c s (n + 1)] := by rw [F_succ]; rfl
def hB (c : Nat → Nat → Int) (t : List (Option Int)) (e : Nat) (v : V) : Option V := match v with
  | .int z => some (.int ((put t z.toNat).getD 0 + c z.toNat e))
  | _ => none
def fB (t : List (Option Int)) (lo : Nat) (j : Nat) : Option V := if (put t (lo + j)).isSome = true then some (.int ((lo : Int) + (j : Int))) else none
theorem cand_two (c : Nat → Nat → Int) (t : List (Option Int)) (lo hi e : Nat) : ((List.range (hi - lo)).filterMap (fB t lo)).filterMap (hB c t e) = (cand c t lo hi e).map V.int := by
  unfold cand
  rw [List.range'_eq_map_range, List.filterMap_map, List.filterMap_filterMap, List.map_filterMap]
  congr 1
  funext j
  show (fB t lo j).bind (hB c t e) = (((put t (lo + j)).map (· + c (lo + j) e)).map V.int)
  unfold fB
  cases q : put t (lo + j) with
  | none => rfl
  | some u =>
    show hB c t e (.int ((lo : Int) + (j : Int))) = _
    show some (V.int ((put t ((lo : Int) + (j : Int)).toNat).getD 0 + c ((lo : Int) + (j : Int)).toNat e)) = _
    rw [show ((lo : Int) + (j : Int)).toNat = lo + j by omega, q]
    rfl
/-- the values in ascending order -/
structure Row (ns row : List Int) : Prop where
  perm : row.Perm ns
  up : row.Pairwise (· ≤ ·)
theorem Row.uniq {ns a b : List Int} (ha : Row ns a) (hb : Row ns b) : a = b := (ha.perm.trans hb.perm.symm).eq_of_pairwise (fun _ _ _ _ h1 h2 => Int.le_antisymm h1 h2) ha.up hb.up
theorem Row.ex (ns : List Int) : ∃ row : List Int, Row ns row := ⟨ns.mergeSort (fun a b => decide (a ≤ b)), List.mergeSort_perm _ _, by
  have := List.pairwise_mergeSort (le := fun a b : Int => decide (a ≤ b)) (fun a b c h1 h2 => by simp at *; omega) (fun a b => by simp; omega) ns
  exact this.imp fun h => by simpa using h⟩
theorem Row.self {row : List Int} (h : row.Pairwise (· ≤ ·)) : Row row row := ⟨List.Perm.refl _, h⟩
theorem RowOk.row {ns row pl : List Int} (h : RowOk ns row pl) : Row ns row := ⟨h.rp, h.up⟩
theorem Row.len {ns row : List Int} (h : Row ns row) : row.length = ns.length := h.perm.length_eq
/-- the least losses for the sizes 1, 2, .. -/
def dueL (row : List Int) : List Int := (List.range row.length).map fun i => (F (cs (rowF row)) (i + 1) row.length).getD 0
theorem due_at {row : List Int} {i : Nat} (h : i < row.length) : F (cs (rowF row)) (i + 1) row.length = some ((F (cs (rowF row)) (i + 1) row.length).getD 0) := by
  obtain ⟨v, e⟩ := F_one (c := cs (rowF row)) (s := i + 1) (by omega) (n := row.length) (.inr (by omega))
  rw [e]; rfl
theorem dec_oV (a : Int) (o : Option Int) : decide (V.int a = oV o) = decide (some a = o) := by
  cases o with
  | none => rfl
  | some b =>
    rw [Bool.eq_iff_iff, decide_eq_true_eq, decide_eq_true_eq]
    exact ⟨fun e => by injection e with e; rw [e], fun e => by injection e with e; rw [e]; rfl⟩
theorem scal_oV (a : Int) (o : Option Int) : scal (V.int a) (oV o) = true := by cases o <;> rfl
def W (c : Nat → Nat → Int) (s n : Nat) : Int := ((wtab c s n)[n]?).getD 0
theorem wtab_end (c : Nat → Nat → Int) (s : Nat) : ∀ n : Nat, ∃ ys, wtab c s n = ys ++ [W c s n]
  | 0 => ⟨[], rfl⟩
  | n + 1 => ⟨wtab c s n, by
    unfold W
    rw [show wtab c s (n + 1) = wtab c s n ++ [_] from rfl, List.getElem?_append_right (by rw [wtab_len]; omega), wtab_len, Nat.sub_self]
    rfl⟩
def hW (t : List Int) (v : V) : Option V := match v with
  | .int z => some (.int ((t[z.toNat]?).getD 0))
  | _ => none
theorem ways_two (t : List Int) (p : Nat → Bool) (n : Nat) : ((List.range n).filterMap (fun j => if p j = true then some (V.int (j : Int)) else none)).filterMap (hW t) = ((((List.range n).filter p).map fun b => (t[b]?).getD 0)).map V.int := by
  rw [List.map_map, List.filterMap_filterMap, ← List.filterMap_eq_map, List.filterMap_filter]
  congr 1
  funext j
  by_cases c : p j = true
  · rw [if_pos c, if_pos c]
    show hW t (.int (j : Int)) = _
    unfold hW
    dsimp only
    rw [Int.toNat_natCast]
    rfl
  · rw [if_neg c, if_neg c]; rfl
theorem wtab_succ (c : Nat → Nat → Int) (s n : Nat) : wtab c s (n + 1) = wtab c s n ++ [(((List.range (n + 2 - s)).filter fun b => wcond c s b (n + 1)).map fun b => ((wtab c s n)[b]?).getD 0).sum] := rfl
theorem sum_sm (f : Int → Int) : ∀ row : List Int, (row.map f).sum = sm (fun i => f (rowF row i)) row.length := by
  intro row
  have key : ∀ n, n ≤ row.length → ((row.take n).map f).sum = sm (fun i => f (rowF row i)) n := by
    intro n
    induction n with
    | zero => intro _; rfl
    | succ n ih =>
      intro h
      rw [List.take_succ, List.getElem?_eq_getElem (by omega), List.map_append, List.sum_append, ih (by omega)]
      show _ + _ = sm _ n + f (rowF row n)
      congr 1
      unfold rowF
      rw [List.getElem?_eq_getElem (by omega)]
      simp
  have := key row.length (Nat.le_refl _)
  rwa [List.take_of_length_le (Nat.le_refl _)] at this
theorem sum_cost (row : List Int) : (row.map fun z => ab (z - rowF row (row.length / 2))).sum = cs (rowF row) 0 row.length := by
  rw [sum_sm]
  unfold cs lossAt sg
  rw [Nat.zero_add]
  show _ = _ - 0
  omega
/-- a part of a row -/
theorem rowF_part (row : List Int) {b e i : Nat} (h : i < e - b) : rowF ((row.drop b).take (e - b)) i = rowF row (b + i) := by
  unfold rowF
  rw [List.getElem?_take, if_pos h, List.getElem?_drop]
theorem cs_part {row : List Int} {b e : Nat} (hb : b < e) (he : e ≤ row.length) : cs (rowF ((row.drop b).take (e - b))) 0 (e - b) = cs (rowF row) b e := by
  unfold cs
  rw [show (0 + (e - b)) / 2 = (e - b) / 2 by omega, rowF_part row (by omega), show b + (e - b) / 2 = (b + e) / 2 by omega]
  unfold lossAt
  generalize rowF row ((b + e) / 2) = y
  have key : ∀ n, n ≤ e - b → sg (fun i => ab (rowF ((row.drop b).take (e - b)) i - y)) 0 n = sg (fun i => ab (rowF row i - y)) b (b + n) := by
    intro n
    induction n with
    | zero => intro _; rw [sg_self, Nat.add_zero, sg_self]
    | succ n ih =>
      intro h
      rw [sg_succ, ih (by omega), ← Nat.add_assoc, sg_succ, rowF_part row (by omega)]
  have := key (e - b) (Nat.le_refl _)
  rw [this, show b + (e - b) = e by omega]
theorem part_row {row : List Int} (up : row.Pairwise (· ≤ ·)) (b n : Nat) : Row ((row.drop b).take n) ((row.drop b).take n) := Row.self ((up.drop).take)
end LM
namespace ST
open PySem PyProof.Rows PySem.Spec L2 SrtO
/-! ### sorted of a tuple of ints -/
section
variable {prog : Program} {w : World} {A : Around} {E : Value → Shared → Prop} {s : Shared}
theorem coll_tup {l : Addr} {us : List Value} {Q : List Value → Shared → Prop} (hl : s.heap.IsTuple l us.toArray) (hsz : us.length ≤ sizeLine)
    (h : Q us { s with heap := (s.heap.push (seqObj "list" #[] 0)).update s.heap.objs.size (Obj.mapSeq (· ++ us.toArray)) }) : wpAny (model prog w) A (collect (.ref l)) Q E s := by
  obtain ⟨o, ho, hc, n, hd⟩ := id hl
  unfold collect
  refine wpAny_bind (wpAny_runValue (codeAny_builtin entry_proto_collect' ?_))
  show wpAny _ _ (do again (.builtin "list.__iadd__" ⟨[← newList [], .ref l], []⟩)) _ _ s
  refine wpAny_bind (wpAny_newList (wpAny_pure (And.intro (Code.quiet_builtin _ (by decide +kernel)) (codeAny_builtin entry_list_iadd' ?_))))
  show wpAny _ _ (Builtin.List.listExtendWith (.ref s.heap.objs.size) (.ref l) (.ref s.heap.objs.size)) _ _ { s with heap := s.heap.push (seqObj "list" #[] 0) }
  unfold Builtin.List.listExtendWith
  have old : (s.heap.push (seqObj "list" #[] 0)).get? l = some o := Heap.get?_push_of_some _ ho
  refine wpAny_bind (wpAny_typeOf (T := "tuple") ⟨o, old, hc⟩ ?_)
  have tt : (Value.type "tuple" == Value.type "tuple") = true := by rfl
  rw [if_pos (by rw [tt]; simp)]
  refine wpAny_bind (listItems_at old hd ?_)
  have new : ((s.heap.push (seqObj "list" #[] 0)).get? s.heap.objs.size) = some (seqObj "list" #[] 0) := Heap.get?_push_size _ rfl
  refine wpAny_bind (listItems_at (n := 0) (xs := #[]) new rfl ?_)
  rw [if_neg (by simp)]
  refine wpAny_bind (listUpdate_at (n := 0) (xs := #[]) new rfl ?_ (Nat.zero_le _) (by simp only [Array.size_append, List.size_toArray, List.length_nil]; show 0 + _ ≤ _; omega))
  refine wpAny_pure ?_
  show wpAny (model prog w) A (do
      let b ← load s.heap.objs.size
      match b.data with
      | .seq xs _ => pure xs.toList
      | _ => unsupported "internal:collect") Q E { s with heap := (s.heap.push (seqObj "list" #[] 0)).update s.heap.objs.size (Obj.mapSeq (· ++ us.toArray)) }
  refine wpAny_bind (wpAny_load (get?_update_seq new _) ?_)
  show wpAny _ _ (pure ((#[] : Array Value) ++ us.toArray).toList) Q E _
  have e : ((#[] : Array Value) ++ us.toArray).toList = us := by simp
  rw [e]
  exact wpAny_pure h
theorem sorted_tup {l : Addr} {us : List Value} {ltv : Value → Value → Bool} {Q : Value → Shared → Prop} (O : Swo ltv) (hl : s.heap.IsTuple l us.toArray) (hz : us.length ≤ sizeLine)
    (hS : 2 ≤ us.length → ∀ (h₁ : Heap) (a : Addr), h₁.get? a = some (seqObj "list" us.toArray 0) → (∀ b o, s.heap.get? b = some o → b ≠ a ∧ h₁.get? b = some o) → SortableO prog w A.in1.in1 { s with heap := h₁ } a us ltv)
    (h : ∀ out : List Value, Srtd ltv out → Stb ltv out us → Q (.ref (s.heap.objs.size + 1)) { s with heap := sortedAll s.heap us out.toArray }) :
    wpAny (model prog w) A (call (.builtin "sorted") [.ref l]) Q E s := by
  refine Calls.call_function_entry kind_sorted plain_sorted entry_sorted (args_sorted1 _) ?_
  unfold Builtin.«sorted»
  refine wpAny_bind (m := checkCount "sorted" 1 1 _) (wpAny_pure ?_)
  refine wpAny_bind (coll_tup hl hz ?_)
  refine wpAny_bind (wpAny_newList ?_ hz)
  have sz : ((s.heap.push (seqObj "list" #[] 0)).update s.heap.objs.size (Obj.mapSeq (· ++ us.toArray))).objs.size = s.heap.objs.size + 1 := (Heap.size_update ..).trans (size_push' ..)
  have at1 : (((s.heap.push (seqObj "list" #[] 0)).update s.heap.objs.size (Obj.mapSeq (· ++ us.toArray))).push (seqObj "list" us.toArray 0)).get? (s.heap.objs.size + 1) = some (seqObj "list" us.toArray 0) := by
    have z := Heap.get?_push_size ((s.heap.push (seqObj "list" #[] 0)).update s.heap.objs.size (Obj.mapSeq (· ++ us.toArray))) (o := seqObj "list" us.toArray 0) rfl
    rwa [sz] at z
  have stays : ∀ b o, s.heap.get? b = some o → b ≠ s.heap.objs.size + 1 ∧ (((s.heap.push (seqObj "list" #[] 0)).update s.heap.objs.size (Obj.mapSeq (· ++ us.toArray))).push (seqObj "list" us.toArray 0)).get? b = some o := fun b o q => by
    have lt : b < s.heap.objs.size := Heap.lt_size q
    refine And.intro (Nat.ne_of_lt (Nat.lt_succ_of_lt lt)) (Heap.get?_push_of_some _ ?_)
    rw [Heap.get?_update_ne _ _ _ _ (Nat.ne_of_lt lt)]
    exact Heap.get?_push_of_some _ q
  show wpAny _ _ _ _ _ { s with heap := ((s.heap.push (seqObj "list" #[] 0)).update s.heap.objs.size (Obj.mapSeq (· ++ us.toArray))).push (seqObj "list" us.toArray 0) }
  rw [sz]
  refine wpAny_bind (wpAny_holding (wpAny_call_entry slot_list_sort ⟨_, at1, rfl⟩ entry_list_sort (list_sort_ord O at1 hz (fun h2 => hS h2 _ _ at1 stays) fun out o1 o2 => ⟨_, rfl, ?_⟩) (args_list_sort _)))
  exact wpAny_pure ⟨_, rfl, h out o1 o2⟩
end
/-- sorted(xs), xs a list or a tuple of ints -/
def rSortLT (K : PySem.W.Frag) : List V → Hp → VK → Prop := fun vs H Q => ∃ (a : Addr) (ns : List Int), vs = [V.ref a] ∧ (SqL K H a (ns.map V.int) ∨ SqT K H a (ns.map V.int)) ∧
  ∀ (ns' : List Int) (p : Addr), ns'.Perm ns → ns'.Pairwise (· ≤ ·) → H p = none → Q (.ref p) (upd H p (.lst (ns'.map V.int)))
theorem cr_sortLT {X : Cx} {K : PySem.W.Frag} (hK : X.K = K) : CallR X (.builtin "sorted") (rSortLT K) := by
  subst hK
  intro pins s σ H vs us Q I r h
  obtain ⟨a, ns, rfl, hs | hs, q⟩ := h
  · exact cr_sortedI pins s σ H _ us Q I r ⟨a, ns, rfl, hs, q⟩
  · obtain ⟨its, rv, pt, hz⟩ := I.tuple hs
    obtain ⟨u, rfl, ru⟩ := r.one
    cases (show u = Value.ref a from ru)
    have hi := rv.ints
    refine sorted_tup SrtO.swo_int (show s.heap.IsTuple a its.toArray from pt) (by rw [← rv.length]; exact hz) (fun h2 h₁ a' _ _ => SrtO.ints_sortable hi h2) fun out o1 o2 => ?_
    obtain ⟨k1, k2, k3⟩ := SrtO.ints_out hi o1 o2
    obtain ⟨ep, at1⟩ := PyProof.Rows.sortedAll_at s.heap its out.toArray
    have ln : ((out.map SrtO.iv).map V.int).length ≤ sizeLine := by
      rw [List.length_map, k2.length_eq]
      rwa [List.length_map] at hz
    refine ⟨.ref _, upd H (s.heap.objs.size + 1) (.lst ((out.map SrtO.iv).map V.int)), I.laid (t' := s.toks) (fun _ _ => PyProof.Rows.sortedAll_old) (Nat.le_succ _) ⟨ln, out, ep, vals_of_ints k1, at1⟩, rfl, q _ _ k2 k3 (I.hok.fresh (Nat.le_succ _))⟩
theorem g_sortLT {K : PySem.W.Frag} {H : Hp} {Q : VK} {p : Addr} {ns : List Int} (h : SqL K H p (ns.map V.int) ∨ SqT K H p (ns.map V.int)) (q : ∀ (ns' : List Int) (l : Addr), ns'.Perm ns → ns'.Pairwise (· ≤ ·) → H l = none → Q (.ref l) (upd H l (.lst (ns'.map V.int)))) : rSortLT K [.ref p] H Q := ⟨p, ns, rfl, h, q⟩
end ST
namespace ZT
open PySem PySem.Spec PyProof.Rows L2 ZV
/-! ### zip(x, y), each a list (t = false) or a tuple (t = true) -/
def Sq (K : PySem.W.Frag) (t : Bool) (H : Hp) (a : Addr) (xs : List V) : Prop := if t = true then SqT K H a xs else SqL K H a xs
def ItX (t : Bool) (h : Heap) (i a : Addr) (n : Nat) : Prop := if t = true then h.IsTupleIter i a n else h.IsListIter i a n
def IsX (t : Bool) (h : Heap) (a : Addr) (its : Array Value) : Prop := if t = true then h.IsTuple a its else h.IsList a its
theorem itx_obj {t : Bool} {h : Heap} {i a : Addr} {n : Nat} (q : ItX t h i a n) : ∃ o, h.get? i = some o ∧ ∀ v, o.data ≠ .cell v := by
  unfold ItX at q
  cases t with
  | true => rw [if_pos rfl] at q; obtain ⟨o, e, _, d⟩ := q; exact ⟨o, e, fun v z => by rw [d] at z; cases z⟩
  | false => rw [if_neg Bool.false_ne_true] at q; obtain ⟨o, e, _, d⟩ := q; exact ⟨o, e, fun v z => by rw [d] at z; cases z⟩
theorem itx_at {t : Bool} {h h' : Heap} {i a : Addr} {n : Nat} (q : ItX t h i a n) (k : ∀ o, h.get? i = some o → h'.get? i = some o) : ItX t h' i a n := by
  unfold ItX at *
  cases t with
  | true => rw [if_pos rfl] at *; exact q.at k
  | false => rw [if_neg Bool.false_ne_true] at *; exact q.at k
theorem sq_inv {X : Cx} {pins : List (Addr × Obj)} {σ : L2.St} {H : Hp} {s : Shared} {t : Bool} {a : Addr} {xs : List V} (I : Inv X pins σ H s) (q : Sq X.K t H a xs) : ∃ its : List Value, Vals xs its ∧ IsX t s.heap a its.toArray ∧ a < s.heap.objs.size := by
  cases t with
  | true =>
    obtain ⟨its, rv, p, _⟩ := I.tuple (show SqT X.K H a xs from q)
    obtain ⟨o, e, _⟩ := (show s.heap.IsTuple a its.toArray from p)
    exact ⟨its, rv, p, Heap.lt_size e⟩
  | false =>
    obtain ⟨its, rv, p, _⟩ := I.list (show SqL X.K H a xs from q)
    exact ⟨its, rv, p.isList, p.lt⟩
theorem sq_inj {X : Cx} {pins : List (Addr × Obj)} {σ : L2.St} {H : Hp} {s : Shared} {t : Bool} {a : Addr} {xs ys : List V} (I : Inv X pins σ H s) (q : Sq X.K t H a xs) (q2 : Sq X.K t H a ys) : xs = ys := by
  unfold Sq at q q2
  cases t with
  | true => rw [if_pos rfl] at q q2; exact I.tuple_inj q q2
  | false => rw [if_neg Bool.false_ne_true] at q q2; exact I.list_inj q q2
theorem drawsX {prog : Program} {w : World} {A : Around} (hh : A.handled = none) (t : Bool) (it a : Addr) (hne : a ≠ it) (items : Array Value) :
    Draws prog w A it [it, a] items.size (fun i v => items[i]? = some v) (fun i h => ItX t h it a i ∧ IsX t h a items) := by
  unfold ItX IsX
  cases t with
  | true => exact Draws.tuple hh it a hne items
  | false => exact Draws.list hh it a hne items
def obX (t : Bool) (a : Addr) : Obj := if t = true then { cls := .type "tuple_iterator", data := .fields #[.ref a, .int 0 0] } else { cls := .type "list_iterator", data := .fields #[.ref a, .int 0 0] }
theorem beginsX (t : Bool) (a : Addr) (its : Array Value) : Begins (.ref a) (obX t a) (fun h => IsX t h a its) := by
  unfold obX IsX
  cases t with
  | true => exact begins_tuple a its
  | false => exact begins_list a its
theorem itx_new {t : Bool} {h : Heap} {i a : Addr} (e : h.get? i = some (obX t a)) : ItX t h i a 0 := by
  unfold obX at e
  unfold ItX
  cases t with
  | true => exact ⟨_, e, rfl, rfl⟩
  | false => exact ⟨_, e, rfl, rfl⟩
def ItZ (K : PySem.W.Frag) (t1 t2 : Bool) (a b : Addr) : It :=
  ⟨fun i H => ∃ (xs ys : List V), Sq K t1 H a xs ∧ Sq K t2 H b ys ∧ i < xs.length ∧ i < ys.length,
    fun i H v H' => ∃ T x y, v = .ref T ∧ H T = none ∧ H' = upd H T (.tup [x, y]) ∧ (∀ xs, Sq K t1 H a xs → xs[i]? = some x) ∧ ∀ ys, Sq K t2 H b ys → ys[i]? = some y,
    fun i H => ∃ xs ys : List V, Sq K t1 H a xs ∧ Sq K t2 H b ys ∧ i ≤ xs.length ∧ i ≤ ys.length ∧ (i = xs.length ∨ i = ys.length)⟩
theorem turn_zipX {P : Program} {w : World} {K : PySem.W.Frag} {elts : List Expr} {kk : Nat} {tpos : Pos} {t1 t2 : Bool} {a b z TI TO i1 i2 : Addr} (S : ZipSep2 z TI TO i1 i2 [i1, a] [i2, b]) (n1 : a ≠ i1) (n2 : b ≠ i2) :
    Turn P w K (.Tuple elts kk tpos) (ItZ K t1 t2 a b) [z, TI, TO, i1, i2] z (fun i h => IsZip h z TI TO .none ∧ IsTupOf2 h TI (.ref i1) (.ref i2) ∧ (∃ x y, IsTupOf2 h TO x y) ∧ ItX t1 h i1 a i ∧ ItX t2 h i2 b i) where
  mem := by simp
  obj := fun i h st c hc => by
    obtain ⟨hz, hTI, ⟨x, y, hTO⟩, h1, h2⟩ := st
    have e' : c = z ∨ c = TI ∨ c = TO ∨ c = i1 ∨ c = i2 := by simpa using hc
    rcases e' with q | q | q | q | q
    · rw [q]; exact ⟨_, hz, fun v q => nomatch q⟩
    · rw [q]; exact ⟨_, hTI, fun v q => nomatch q⟩
    · rw [q]; exact ⟨_, hTO, fun v q => nomatch q⟩
    · rw [q]; exact itx_obj h1
    · rw [q]; exact itx_obj h2
  keep := fun i h h' st k => by
    obtain ⟨hz, hTI, ⟨x, y, hTO⟩, h1, h2⟩ := st
    exact ⟨k z (by simp) _ hz, k TI (by simp) _ hTI, ⟨x, y, k TO (by simp) _ hTO⟩, itx_at h1 fun o q => k i1 (by simp) o q, itx_at h2 fun o q => k i2 (by simp) o q⟩
  item := by
    intro X hP hw hK hc i pins s σ H E I hf st hg
    subst hP hw hK
    obtain ⟨hz, hTI, ⟨x0, y0, hTO⟩, h1, h2⟩ := st
    obtain ⟨xs, ys, hqx, hqy, hi, hiy⟩ := hg
    obtain ⟨its1, rv1, p1, _⟩ := sq_inv I hqx
    obtain ⟨its2, rv2, p2, _⟩ := sq_inv I hqy
    have hl1 := rv1.length
    have hl2 := rv2.length
    have hh : X.A.in1.handled = none := I.ok.hd hc
    have hx : xs[i]? = some xs[i] := List.getElem?_eq_getElem hi
    have hy : ys[i]? = some ys[i] := List.getElem?_eq_getElem hiy
    obtain ⟨u1, hu1, ru1⟩ := rv1.get hx
    obtain ⟨u2, hu2, ru2⟩ := rv2.get hy
    have hzl : z < s.heap.objs.size := Heap.lt_size hz
    refine wpAny_pyNext_zipD2_item (A := X.A) S (drawsX (A := X.A.in1) hh t1 i1 a n1 its1.toArray) (drawsX (A := X.A.in1) hh t2 i2 b n2 its2.toArray) hz hTI hTO ⟨h1, p1⟩ ⟨h2, p2⟩ (by simp; omega) (by simp; omega) fun v v2 h' tk ev ev2 z' TO' st1' st2' hT hsz' hk => ?_
    obtain rfl : v = u1 := by
      have e : its1.toArray[i]? = some u1 := by simpa using hu1
      rw [e] at ev; cases ev; rfl
    obtain rfl : v2 = u2 := by
      have e : its2.toArray[i]? = some u2 := by simpa using hu2
      rw [e] at ev2; cases ev2; rfl
    refine ⟨_, rfl, wpAny_letOwnedTupleGo_zip (s := { s with heap := h', toks := tk }) z' fun h'' z'' sb => ?_⟩
    have hT2 : h''.get? s.heap.objs.size = some { cls := .type "tuple", data := .seq #[v, v2] } := (sb.2 _ (Nat.ne_of_gt hzl)).trans hT
    have new : ObjOk X.prog X.w (upd H s.heap.objs.size (.tup [xs[i], ys[i]])) h'' s.heap.objs.size (.tup [xs[i], ys[i]]) :=
      ⟨by show 2 ≤ sizeLine; decide, [v, v2], .cons ru1 (.cons ru2 .nil), ⟨_, hT2, rfl, _, rfl⟩⟩
    have I1 : Inv X pins σ (upd H s.heap.objs.size (.tup [xs[i], ys[i]])) { s with heap := h'', toks := tk } :=
      I.turnedNew (t' := tk) (ch := [z, TI, TO, i1, i2]) (fun c o hb q => (sb.2 c (fun q' => hb (by simp [q']))).trans (hk c o (fun q' => hb (by simp [q'])) (fun q' => hb (by simp [q'])) (fun q' => hb (by simp [q'])) (fun q' => hb (by simp [q'])) q)) hf (Nat.le_refl _) new
    refine ⟨.ref s.heap.objs.size, _, I1, rfl, ⟨_, _, _, rfl, I.hok.fresh (Nat.le_refl _), rfl, fun l hl => by rw [sq_inj I hl hqx]; exact hx, fun l hl => by rw [sq_inj I hl hqy]; exact hy⟩, ⟨z'', (sb.2 _ S.TIz).trans (hk _ _ S.TIz S.TITO S.TIi1 S.TIi2 hTI), ⟨v, v2, (sb.2 _ S.TOz).trans TO'⟩, itx_at st1'.1 fun o q => (sb.2 i1 S.zi1.symm).trans q, itx_at st2'.1 fun o q => (sb.2 i2 S.zi2.symm).trans q⟩, fun c hcm => ?_⟩
    have hlt : c < s.heap.objs.size := by
      have e' : c = z ∨ c = TI ∨ c = TO ∨ c = i1 ∨ c = i2 := by simpa using hcm
      rcases e' with q | q | q | q | q
      · rw [q]; exact hzl
      · rw [q]; exact Heap.lt_size hTI
      · rw [q]; exact Heap.lt_size hTO
      · rw [q]; obtain ⟨_, e1, _⟩ := itx_obj h1; exact Heap.lt_size e1
      · rw [q]; obtain ⟨_, e2, _⟩ := itx_obj h2; exact Heap.lt_size e2
    rw [upd_ne (Nat.ne_of_lt hlt)]
    exact (hf c hcm).1
  done := by
    intro X hP hw hK hc i pins s σ H E I hf st hg
    subst hP hw hK
    obtain ⟨hz, hTI, ⟨x0, y0, hTO⟩, h1, h2⟩ := st
    obtain ⟨xs, ys, hqx, hqy, hi, hiy, hend⟩ := hg
    obtain ⟨its1, rv1, p1, _⟩ := sq_inv I hqx
    obtain ⟨its2, rv2, p2, _⟩ := sq_inv I hqy
    have hl1 := rv1.length
    have hl2 := rv2.length
    have hh : X.A.in1.handled = none := I.ok.hd hc
    have z1 : its1.toArray.size = its1.length := by simp
    have z2 : its2.toArray.size = its2.length := by simp
    exact wpAny_pyNext_zipD2_end (A := X.A) S (drawsX (A := X.A.in1) hh t1 i1 a n1 its1.toArray) (drawsX (A := X.A.in1) hh t2 i2 b n2 its2.toArray) hz hTI hTO ⟨h1, p1⟩ ⟨h2, p2⟩ (by omega) (by omega) (by omega) fun h' tk hk => ⟨rfl, I.turnedL (t' := tk) (ch := [z, TI, TO, i1, i2]) (fun c o hb q =>
      hk c o (fun q' => hb (by simp [q'])) (fun q' => hb (by simp [q'])) (fun q' => hb (by simp [q'])) (fun q' => hb (by simp [q'])) q) hf⟩
  self := fun A i s Q E st h => wpAny_pyIter_zip st.1 h
def iZipX (K : PySem.W.Frag) (ta : TA) : TI := fun σ H R => ta σ H fun vs H1 => ∃ a b t1 t2 xs ys, vs = [.ref a, .ref b] ∧ Sq K t1 H1 a xs ∧ Sq K t2 H1 b ys ∧ R (ItZ K t1 t2 a b) H1
theorem pi_zipX {X : Cx} {K : PySem.W.Frag} {e1 e2 : Expr} {ta : TA} {p pos tpos : Pos} {elts : List Expr} {kk : Nat} (hK : X.K = K) (hg : Gl X "zip") (hm : X.mg "zip" = none) (ha : PA X [e1, e2] ta)
    (hs : starEach [e1, e2] X.env = (false, eval e1 X.env) :: starEach [e2] X.env := by rfl) (hpl : (backTo pos (starEach [e2] X.env)).any (·.1) = false := by rfl) :
    PI X (.Tuple elts kk tpos) (.Call (.Name "zip" p) [e1, e2] [] pos) (iZipX K ta) := by
  subst hK
  refine ⟨fun pins s σ H R I h => ?_⟩
  refine Call_ (ld_blt I hg hm PyProof.Rows.boot_zip (PyProof.Rows.callWith_type1 (thn (ha.run pos pins s σ H _ I h) fun us s2 hh => ?_) hs hpl))
  obtain ⟨vs, H2, I2, r2, a, b, t1, t2, xs, ys, ev, hqx, hqy, qR⟩ := hh
  subst ev
  obtain ⟨u1, u2, rfl, ru1, ru2⟩ := vals2 r2
  cases (show u1 = Value.ref a from ru1)
  cases (show u2 = Value.ref b from ru2)
  obtain ⟨its1, rv1, p1, la⟩ := sq_inv I2 hqx
  obtain ⟨its2, rv2, p2, lb⟩ := sq_inv I2 hqy
  refine zip_begins2 (beginsX t1 a its1.toArray) (beginsX t2 b its2.toArray) p1 p2 fun h' hz hTI hTO g1 g2 hsz' hk => wpAny_pyIter_zip hz ?_
  refine ⟨s2.heap.objs.size + 4, [s2.heap.objs.size + 4, s2.heap.objs.size + 2, s2.heap.objs.size + 3, s2.heap.objs.size, s2.heap.objs.size + 1], _, _, H2, rfl, I2.kept (t' := s2.toks) hk, turn_zipX (sep5 la lb) (Nat.ne_of_lt la) (Nat.ne_of_lt (Nat.lt_succ_of_lt lb)), ⟨hz, hTI, ⟨_, _, hTO⟩, itx_new g1, itx_new g2⟩, fun c hcm => ?_, qR⟩
  have e' : c = s2.heap.objs.size + 4 ∨ c = s2.heap.objs.size + 2 ∨ c = s2.heap.objs.size + 3 ∨ c = s2.heap.objs.size ∨ c = s2.heap.objs.size + 1 := by simpa using hcm
  have hle : s2.heap.objs.size ≤ c := by
    rcases e' with z | z | z | z | z
    · rw [z]; exact Nat.le_add_right _ _
    · rw [z]; exact Nat.le_add_right _ _
    · rw [z]; exact Nat.le_add_right _ _
    · rw [z]; exact Nat.le_refl _
    · rw [z]; exact Nat.le_add_right _ _
  exact I2.fpOk hle (I2.hok.fresh hle)
theorem walk_zipX {K : PySem.W.Frag} {t1 t2 : Bool} {a b : Addr} {xs ys : List V} : Walk (ItZ K t1 t2 a b) (min xs.length ys.length) (fun H => Sq K t1 H a xs ∧ Sq K t2 H b ys) (YPair (fun i => xs[i]?) (fun i => ys[i]?)) :=
  ⟨fun i H hi q => ⟨xs, ys, q.1, q.2, by omega, by omega⟩, fun H q => ⟨xs, ys, q.1, q.2, by omega, by omega, by omega⟩, fun i H x H' hi q ⟨T, x1, y1, h1, h2, h3, h4, h5⟩ => ⟨T, x1, y1, h1, h2, h3, h4 xs q.1, h5 ys q.2⟩⟩
theorem sq_l {K : PySem.W.Frag} {H : Hp} {a : Addr} {xs : List V} (h : SqL K H a xs) : Sq K false H a xs := h
theorem sq_t {K : PySem.W.Frag} {H : Hp} {a : Addr} {xs : List V} (h : SqT K H a xs) : Sq K true H a xs := h
theorem g_iZipX {K : PySem.W.Frag} {σ : L2.St} {H : Hp} {ta : TA} {R : It → Hp → Prop} (q : ta σ H fun vs H1 => ∃ a b t1 t2 xs ys, vs = [.ref a, .ref b] ∧ Sq K t1 H1 a xs ∧ Sq K t2 H1 b ys ∧ R (ItZ K t1 t2 a b) H1) : iZipX K ta σ H R := q
/-- a comprehension over both -/
theorem lcI_zipX {K : PySem.W.Frag} {σ : L2.St} {H : Hp} {Q : VK} {g : TG} {tt : TT} {te : TE} {vs : List Nat} {t1 t2 : Bool} {a b : Addr} {xs ys : List V} (h1 : ∀ H', Same H H' → Sq K t1 H' a xs) (h2 : ∀ H', Same H H' → Sq K t2 H' b ys) (hn : xs.length ≤ 1000000) (f : Nat → Option V)
    (turn : ∀ i x y T H' (A : VK) (B : Hp → Prop), xs[i]? = some x → ys[i]? = some y → Same H H' → H' T = some (.tup [x, y]) → (∀ v H4, f i = some v → Same H' H4 → A v H4) → (f i = none → ∀ H3, Same H' H3 → B H3) →
      g (.ref T) (wipe σ vs) H' fun σ2 H2 => wipe σ2 vs = wipe σ vs ∧ tt σ2 H2 fun b H3 => if b = true then te σ2 H3 A else B H3)
    (k : ∀ E H', H E = none → Same H H' → H' E = some (.lst ((List.range (min xs.length ys.length)).filterMap f)) → Q (.ref E) H') : U.lcI σ vs g tt te Q (ItZ K t1 t2 a b) H := by
  refine U.lcI_same walk_zipX (by omega) f (fun H' s => ⟨h1 H' s, h2 H' s⟩) (fun i H' x H'' y => ?_) (fun i x H' H'' A B hi s y kA kB => ?_) k
  · obtain ⟨T, x1, y1, _, nT, rfl, _⟩ := y
    exact U.same_new nT
  · obtain ⟨T, x1, y1, rfl, nT, rfl, e1, e2⟩ := y
    exact turn i x1 y1 T _ A B e1 e2 (s.trans (U.same_new nT)) upd_same kA kB
end ZT
namespace LM
open PySem PySem.Spec PyProof.Rows L2 U M
/-! ### what is shown of whole numbers, and of tuples of them -/
theorem sh_len {i : Int} (h0 : -10000000000 ≤ i) (h1 : i ≤ 10000000000) : (PyData.shown (.int i)).length ≤ 13 := by
  have e := int_text_length_le10 (a := i) (k := 11) (by decide) (by omega)
  show (Str.ofString (toString i)).length ≤ 13
  rw [PySem.ofString_length]
  omega
theorem sh_log {i : Int} (h0 : -10000000000 ≤ i) (h1 : i ≤ 10000000000) : i.natAbs.log2 < 34 := by
  by_cases z : i.natAbs = 0
  · rw [z]; decide
  · exact (Nat.log2_lt z).2 (show i.natAbs < 2 ^ 34 by omega)
theorem rep_I {K : PySem.W.Frag} {H : Hp} {i : Int} {Q : VK} (h0 : -10000000000 ≤ i) (h1 : i ≤ 10000000000) (q : Q (.str (PyData.int i).shown) H) : QD.rRep K [.int i] H Q :=
  ⟨_, _, rfl, .dp (.int i), decide_eq_true (Nat.lt_trans (sh_log h0 h1) (by decide)), Nat.zero_le _, Nat.le_trans (sh_len h0 h1) (by decide), q⟩
theorem rep_B {K : PySem.W.Frag} {H : Hp} {b : Bool} {Q : VK} (q : Q (.str (PyData.bool b).shown) H) : QD.rRep K [.bl b] H Q := ⟨_, _, rfl, .dp (.bl b), rfl, Nat.zero_le _, by cases b <;> decide +kernel, q⟩
theorem ints_dp0 {K : PySem.W.Frag} {H : Hp} : ∀ ns : List Int, DpAll K H (ns.map V.int) (ns.map PyData.int)
  | [] => .nil
  | n :: r => .cons (.int n) (ints_dp0 r)
def inB (ns : List Int) : Prop := ∀ n ∈ ns, -1000000 ≤ n ∧ n ≤ 1000000
theorem ints_sh (ns : List Int) : SeqAt.shaped (.list (ns.map PyData.int)) = true := by
  unfold SeqAt.shaped
  rw [Bool.and_eq_true]
  refine ⟨lay_all fun d hd => ?_, decide_eq_true ?_⟩
  · obtain ⟨p, hp, rfl⟩ := List.mem_map.mp hd
    rfl
  · have := MD.depth_ints ns
    simp only [PyData.depth]
    omega
theorem tupI_lay : ∀ ns : List Int, PyData.canLayAll0 (ns.map PyData.int) = true
  | [] => rfl
  | a :: r => by
    show (true && PyData.canLayAll0 (r.map PyData.int)) = true
    rw [tupI_lay r]; rfl
theorem tupI_short : ∀ {ns : List Int}, (∀ n ∈ ns, -10000000000 ≤ n ∧ n ≤ 10000000000) → PyData.intsShortAll 13 (ns.map PyData.int) = true
  | [], _ => rfl
  | a :: r, h => by
    obtain ⟨h0, h1⟩ := h a List.mem_cons_self
    show (decide ((PyData.shown (.int a)).length ≤ 13) && PyData.intsShortAll 13 (r.map PyData.int)) = true
    rw [decide_eq_true (sh_len h0 h1), tupI_short fun n hn => h n (List.mem_cons_of_mem _ hn)]; rfl
theorem tupI_show : ∀ {ns : List Int}, (∀ n ∈ ns, -10000000000 ≤ n ∧ n ≤ 10000000000) → PyData.showableAll (ns.map PyData.int) = true
  | [], _ => rfl
  | a :: r, h => by
    obtain ⟨h0, h1⟩ := h a List.mem_cons_self
    show (decide (a.natAbs.log2 < 1920) && PyData.showableAll (r.map PyData.int)) = true
    rw [decide_eq_true (Nat.lt_trans (sh_log h0 h1) (by decide)), tupI_show fun n hn => h n (List.mem_cons_of_mem _ hn)]; rfl
theorem tupI_weight : ∀ {ns : List Int}, (∀ n ∈ ns, -10000000000 ≤ n ∧ n ≤ 10000000000) → PyData.weightAll (ns.map PyData.int) ≤ 36 * ns.length
  | [], _ => Nat.le_refl _
  | a :: r, h => by
    obtain ⟨h0, h1⟩ := h a List.mem_cons_self
    have ih := tupI_weight (ns := r) fun n hn => h n (List.mem_cons_of_mem _ hn)
    have l := sh_log h0 h1
    show (if a == 0 then 0 else a.natAbs.log2 + 1) + 1 + PyData.weightAll (r.map PyData.int) ≤ _
    rw [List.length_cons]
    split <;> omega
theorem tupI_depth (ns : List Int) : PyData.depth (PyData.tuple (ns.map PyData.int)) ≤ 2 := by
  have := MD.depth_ints ns
  simp only [PyData.depth]
  omega
theorem rep_tupI {K : PySem.W.Frag} {H : Hp} {a : Addr} {ns : List Int} {Q : VK} (h : ∀ n ∈ ns, -10000000000 ≤ n ∧ n ≤ 10000000000) (hl : ns.length ≤ 1000) (ha : SqT K H a (ns.map V.int)) (q : Q (.str (PyData.tuple (ns.map PyData.int)).shown) H) : QD.rRep K [.ref a] H Q := by
  have w : PyData.weight (PyData.tuple (ns.map PyData.int)) ≤ 36 * ns.length := tupI_weight h
  have lay : PyData.layable0 (PyData.tuple (ns.map PyData.int)) = true := by
    show (PyData.canLay0 (PyData.tuple (ns.map PyData.int)) && decide _ && decide _) = true
    rw [show PyData.canLay0 (PyData.tuple (ns.map PyData.int)) = true from tupI_lay ns, decide_eq_true (Nat.le_trans (tupI_depth ns) (by decide)), decide_eq_true (show PyData.weight (PyData.tuple (ns.map PyData.int)) ≤ 2 ^ 20 by omega)]
    rfl
  exact ⟨_, _, rfl, .dp (.tup ha (ints_dp0 ns)), tupI_show h, Nat.le_trans (tupI_depth ns) (by decide), Nat.le_trans (shown_le13 lay (tupI_short h)) (by decide), q⟩
theorem ite_no {b : Bool} {A B : Prop} (h : b = false) (q : B) : if b = true then A else B := by rw [h, if_neg Bool.false_ne_true]; exact q
theorem ne_refl (x : V) : (if (true : Bool) = true then !decide (x = x) else decide (x = x)) = false := by rw [if_pos rfl, decide_eq_true rfl]; rfl
/-! ### how great losses are -/
theorem sg_bd {f : Nat → Int} {B : Int} : ∀ {e : Nat}, (∀ i, i < e → f i ≤ B) → sg f 0 e ≤ B * (e : Int)
  | 0, _ => by rw [sg_self]; simp
  | e + 1, h => by
    have ih := sg_bd (f := f) (B := B) (e := e) fun i hi => h i (by omega)
    have := h e (by omega)
    rw [sg_succ, show ((e + 1 : Nat) : Int) = (e : Int) + 1 by omega, Int.mul_add, Int.mul_one]
    omega
theorem row_bd {row : List Int} (h : ∀ n ∈ row, -1000000 ≤ n ∧ n ≤ 1000000) (i : Nat) : -1000000 ≤ rowF row i ∧ rowF row i ≤ 1000000 := by
  unfold rowF
  by_cases q : i < row.length
  · rw [List.getElem?_eq_getElem q]
    exact h _ (List.getElem_mem q)
  · rw [List.getElem?_eq_none (by omega)]
    decide
theorem cs_bd {row : List Int} (h : ∀ n ∈ row, -1000000 ≤ n ∧ n ≤ 1000000) (e : Nat) : cs (rowF row) 0 e ≤ 2000000 * (e : Int) := by
  unfold cs lossAt
  refine sg_bd fun i _ => ?_
  have h1 := row_bd h i
  have h2 := row_bd h ((0 + e) / 2)
  unfold ab
  split <;> omega
theorem F_bd2 {c : Nat → Nat → Int} {s : Nat} (hs : 1 ≤ s) {e : Nat} {v B : Int} (hb : c 0 e ≤ B) (hB : 0 ≤ B) (h : F c s e = some v) : v ≤ B := by
  by_cases h0 : e = 0
  · subst h0
    cases h
    exact hB
  · obtain ⟨b, u, h1, _⟩ := F_mem hs (by omega) h
    obtain ⟨w, h3, h4⟩ := F_le (c := c) hs (b := 0) (e := e) (by omega) (F_zero c s)
    rw [h] at h3
    cases h3
    omega
theorem F_bds {row : List Int} (h : ∀ n ∈ row, -1000000 ≤ n ∧ n ≤ 1000000) {s : Nat} (hs : 1 ≤ s) {e : Nat} (he : e ≤ 1000) {v : Int} (hv : F (cs (rowF row)) s e = some v) : 0 ≤ v ∧ v ≤ 2000000000 := by
  refine ⟨F_pos hs (fun b e h => cs_nonneg _ h) e hv, ?_⟩
  have := cs_bd h e
  exact F_bd2 hs (by omega) (by decide) hv
theorem due_bd {row : List Int} (h : ∀ n ∈ row, -1000000 ≤ n ∧ n ≤ 1000000) (hl : row.length ≤ 1000) : ∀ d ∈ dueL row, 0 ≤ d ∧ d ≤ 2000000000 := fun d hd => by
  obtain ⟨i, hi, rfl⟩ := List.mem_map.mp hd
  rw [List.mem_range] at hi
  exact F_bds h (s := i + 1) (by omega) hl (due_at hi)
theorem due_up (row : List Int) : (dueL row).Pairwise (· ≤ ·) := by
  rw [List.pairwise_iff_getElem]
  intro i j hi hj hij
  have l : (dueL row).length = row.length := by unfold dueL; rw [List.length_map, List.length_range]
  have key : ∀ k m, i + 1 ≤ k → k ≤ m → m ≤ row.length → ∀ v, F (cs (rowF row)) m row.length = some v → ∃ w, F (cs (rowF row)) k row.length = some w ∧ w ≤ v := by
    intro k m h1 h2 h3
    induction m with
    | zero => omega
    | succ m ih =>
      intro v hv
      by_cases e : k = m + 1
      · subst e; exact ⟨v, hv, Int.le_refl _⟩
      · obtain ⟨w, hw, hle⟩ := F_mono (by omega) row.length hv
        obtain ⟨x, hx, hxe⟩ := ih (by omega) (by omega) w hw
        exact ⟨x, hx, by omega⟩
  obtain ⟨w, hw, hle⟩ := key (i + 1) (j + 1) (by omega) (by omega) (by omega) _ (due_at (row := row) (i := j) (by omega))
  have at_ : ∀ {k : Nat}, k < row.length → (dueL row)[k]? = some ((F (cs (rowF row)) (k + 1) row.length).getD 0) := fun h => by
    unfold dueL
    rw [List.getElem?_map, List.getElem?_range h]; rfl
  have e1 : (dueL row)[i] = (F (cs (rowF row)) (i + 1) row.length).getD 0 := by
    have := at_ (k := i) (by omega)
    rw [List.getElem?_eq_getElem hi] at this
    exact Option.some.inj this
  have e2 : (dueL row)[j] = (F (cs (rowF row)) (j + 1) row.length).getD 0 := by
    have := at_ (k := j) (by omega)
    rw [List.getElem?_eq_getElem hj] at this
    exact Option.some.inj this
  rw [e1, e2, hw]
  exact hle
theorem W_bd {row : List Int} {s n : Nat} (hs : 1 ≤ s) (hn : n ≤ 20) : 0 ≤ W (cs (rowF row)) s n ∧ W (cs (rowF row)) s n ≤ 10000000 := by
  obtain ⟨v, h1, h2, h3⟩ := wtab_bd (cs (rowF row)) hs n n (Nat.le_refl _)
  unfold W
  rw [h1]
  refine ⟨h2, Int.le_trans h3 ?_⟩
  have : (2 : Int) ^ n ≤ 2 ^ 20 := by
    have := Nat.pow_le_pow_right (n := 2) (by decide) hn
    exact_mod_cast this
  exact Int.le_trans this (by decide)
end LM
namespace U
open PySem PySem.Spec PyProof.Rows L2
/-! ### slices and sums of tuples, whole or empty ones too -/
def uSlA (K : PySem.W.Frag) : V → Option Int → Option Int → Hp → VK → Prop := fun x lo hi H Q => match x with
  | .ref a => (∃ xs, SqL K H a xs ∧ ∀ p, H p = none → Q (.ref p) (upd H p (.lst (cutV xs lo hi)))) ∨ rSlA K (.ref a) lo hi H Q
  | .str z => z.length ≤ sizeLine ∧ Q (.str (cutS z lo hi)) H
  | _ => False
theorem sl_uA {X : Cx} {K : PySem.W.Frag} (hK : X.K = K) : SlR X (uSlA K) := by
  subst hK
  intro pins s σ H x v vl vu lo hi sl Q I rx hs pl pu h
  cases x <;> first | exact False.elim h | skip
  case ref a =>
    rcases h with ⟨xs, h1, h2⟩ | h
    · exact sl_list pins s σ H _ v vl vu lo hi sl Q I rx hs pl pu ⟨a, xs, rfl, h1, h2⟩
    · exact sl_tupA pins s σ H _ v vl vu lo hi sl Q I rx hs pl pu h
  case str z => exact sl_str pins s σ H _ v vl vu lo hi sl Q I rx hs pl pu ⟨z, rfl, h.1, h.2⟩
theorem sIx_ge {n : Nat} (d : Nat) (o : Option Int) (h : d ≤ n) : HT.sIx n d o ≤ n := HT.sIx_le n d h o
theorem g_slT {K : PySem.W.Frag} {H : Hp} {Q : VK} {a : Addr} {xs : List V} {lo hi : Option Int} (h : ∀ H', Same H H' → SqT K H' a xs)
    (q : ∀ (p : Addr) (H' : Hp), Same H H' → (∀ H'', Same H' H'' → SqT K H'' p (cutV xs lo hi)) → Q (.ref p) H') : uSlA K (.ref a) lo hi H Q := by
  refine Or.inr ⟨a, xs, rfl, h H (Same.refl H), fun w => ?_, fun _ p np => ?_⟩
  · refine q a H (Same.refl H) fun H'' s => ?_
    have e : cutV xs lo hi = xs := by
      unfold cutV
      rw [w.1, w.2, List.drop_zero, List.take_of_length_le (by omega)]
    rw [e]
    exact h H'' s
  · exact q p _ (same_new np) fun H'' s => SqT.of (s _ _ upd_same)
theorem g_slLA {K : PySem.W.Frag} {H : Hp} {Q : VK} {a : Addr} {xs : List V} {lo hi : Option Int} (h : SqL K H a xs) (q : ∀ p, H p = none → Q (.ref p) (upd H p (.lst (cutV xs lo hi)))) : uSlA K (.ref a) lo hi H Q := Or.inl ⟨xs, h, q⟩
theorem cut_one {xs : List V} : cutV xs (some 1) none = xs.drop 1 := by
  cases xs with
  | nil => rfl
  | cons z r => exact cut_from (b := 1) (by rw [List.length_cons]; omega)
/-- x + y, tuples of any length -/
def uAddA (K : PySem.W.Frag) : R2 := fun x y H Q => uAdd K x y H Q ∨ rCatA K x y H Q
theorem op_uAddA {X : Cx} {K : PySem.W.Frag} (hK : X.K = K) : OpR X (binaryOp .Add) (uAddA K) := by
  subst hK
  exact OpR.or op_uAdd0 op_catA
theorem g_catT {K : PySem.W.Frag} {H : Hp} {Q : VK} {a b : Addr} {xs ys : List V} (ha : ∀ H', Same H H' → SqT K H' a xs) (hb : ∀ H', Same H H' → SqT K H' b ys) (hl : xs.length + ys.length ≤ 1000000)
    (q : ∀ (p : Addr) (H' : Hp), Same H H' → (∀ H'', Same H' H'' → SqT K H'' p (xs ++ ys)) → Q (.ref p) H') : uAddA K (.ref a) (.ref b) H Q := by
  refine Or.inr ⟨a, b, xs, ys, rfl, rfl, ha H (Same.refl H), hb H (Same.refl H), Nat.le_trans hl (by decide), fun e => ?_, fun _ e => ?_, fun _ _ p np => ?_⟩
  · exact q b H (Same.refl H) fun H'' s => by rw [e, List.nil_append]; exact hb H'' s
  · exact q a H (Same.refl H) fun H'' s => by rw [e, List.append_nil]; exact ha H'' s
  · exact q p _ (same_new np) fun H'' s => SqT.of (s _ _ upd_same)
theorem g_catH {K : PySem.W.Frag} {H : Hp} {Q : VK} {a b : Addr} {xs ys : List V} (ha : H a = some (.tup xs)) (hb : H b = some (.tup ys)) (hl : xs.length + ys.length ≤ 1000000)
    (q : ∀ (p : Addr) (H' : Hp), Same H H' → H' p = some (.tup (xs ++ ys)) → Q (.ref p) H') : uAddA K (.ref a) (.ref b) H Q := by
  refine Or.inr ⟨a, b, xs, ys, rfl, rfl, SqT.of ha, SqT.of hb, Nat.le_trans hl (by decide), fun e => ?_, fun _ e => ?_, fun _ _ p np => ?_⟩
  · exact q b H (Same.refl H) (by rw [e, List.nil_append]; exact hb)
  · exact q a H (Same.refl H) (by rw [e, List.append_nil]; exact ha)
  · exact q p _ (same_new np) upd_same
end U
namespace LM
open PySem L2 U M
/-! ### lots: ascending tuples of places -/
theorem plain_tup {K : PySem.W.Frag} {H : Hp} {v : V} (h : plainV v = true) : ∃ (t : String), TyX K H v (.type t) ∧ kitB t "tuple" = some false := by
  cases v with
  | non => exact ⟨"NoneType", U.ty_non, by decide +kernel⟩
  | bl b => exact ⟨"bool", U.ty_bl, by decide +kernel⟩
  | int z => exact ⟨"int", U.ty_int, by decide +kernel⟩
  | str s => exact ⟨"str", U.ty_str, by decide +kernel⟩
  | _ => cases h
def iOf : V → Int
  | .int z => z
  | _ => 0
/-- an int below m, from 0 on -/
def numB (m : Int) (v : V) : Bool := match v with
  | .int z => decide (0 ≤ z) && decide (z < m)
  | _ => false
/-- each less than the next one -/
def adj : List Int → Bool
  | a :: b :: r => decide (a < b) && adj (b :: r)
  | _ => true
theorem adj_pw : ∀ {ns : List Int}, adj ns = true ↔ ns.Pairwise (· < ·)
  | [] => ⟨fun _ => .nil, fun _ => rfl⟩
  | [a] => ⟨fun _ => List.pairwise_singleton _ _, fun _ => rfl⟩
  | a :: b :: r => by
    have ih := adj_pw (ns := b :: r)
    show (decide (a < b) && adj (b :: r)) = true ↔ _
    rw [Bool.and_eq_true, decide_eq_true_eq, ih, List.pairwise_cons (a := a)]
    constructor
    · rintro ⟨h1, h2⟩
      refine ⟨fun x hx => ?_, h2⟩
      rcases List.mem_cons.mp hx with rfl | hx
      · exact h1
      · have := (List.pairwise_cons.mp h2).1 x hx; omega
    · rintro ⟨h1, h2⟩
      exact ⟨h1 b List.mem_cons_self, h2⟩
theorem adj_all (ns : List Int) : ((List.range (min ns.length (ns.length - 1))).filterMap fun i => (ns[i]?).bind fun a => (ns[i + 1]?).bind fun b => some (decide (a < b))).all id = adj ns := by
  induction ns with
  | nil => rfl
  | cons a r ih =>
    cases r with
    | nil => rfl
    | cons b r =>
      have e : min (a :: b :: r).length ((a :: b :: r).length - 1) = (min (b :: r).length ((b :: r).length - 1)) + 1 := by
        simp only [List.length_cons]; omega
      rw [e, List.range_succ_eq_map, List.filterMap_cons, List.filterMap_map]
      show (decide (a < b) && _) = (decide (a < b) && adj (b :: r))
      rw [← ih]
      rfl
def lotB (m : Int) (xs : List V) : Bool := xs.all (numB m) && adj (xs.map iOf)
theorem numB_out {m : Int} {v : V} (h : numB m v = true) : ∃ z, v = .int z ∧ 0 ≤ z ∧ z < m := by
  cases v with
  | int z =>
    have h : (decide (0 ≤ z) && decide (z < m)) = true := h
    rw [Bool.and_eq_true, decide_eq_true_eq, decide_eq_true_eq] at h
    exact ⟨z, rfl, h⟩
  | _ => cases h
theorem nums_map {m : Int} : ∀ {xs : List V}, xs.all (numB m) = true → xs = (xs.map iOf).map V.int ∧ ∀ n ∈ xs.map iOf, 0 ≤ n ∧ n < m
  | [], _ => ⟨rfl, fun n h => by cases h⟩
  | v :: r, h => by
    rw [List.all_cons, Bool.and_eq_true] at h
    obtain ⟨z, rfl, z0, z1⟩ := numB_out h.1
    obtain ⟨e, q⟩ := nums_map h.2
    refine ⟨?_, fun n hn => ?_⟩
    · rw [List.map_cons, List.map_cons, ← e]; rfl
    · rcases List.mem_cons.mp hn with rfl | hn
      · exact ⟨z0, z1⟩
      · exact q n hn
end LM
namespace LM
open PySem L2 U M
/-! ### all that is shown at its best -/
/-- the loss of these values if y is shown -/
def lossY (ms : List Int) (y : Int) : Int := (ms.map fun z => ab (z - y)).sum
theorem lossY_at (ms : List Int) (y : Int) : lossY ms y = lossAt (rowF ms) y 0 ms.length := by
  unfold lossY lossAt sg
  rw [sum_sm (fun z => ab (z - y))]
  show _ = _ - 0
  omega
/-- how much more a value loses that is not in the middle -/
theorem far_lo {a : Nat → Int} {n : Nat} (M : Mon a n) (h : 0 < n) {y : Int} (hy : y < a ((n - 1) / 2)) : cs a 0 n < lossAt a y 0 n := by
  have hle := cs_le M h (Nat.le_refl n) y
  have hm : (0 + n) / 2 = n / 2 := by omega
  rcases (show n % 2 = 1 ∨ n % 2 = 0 by omega) with odd | even
  · -- n odd: one middle
    have e : (n - 1) / 2 = n / 2 := by omega
    rw [e] at hy
    unfold cs at *
    rw [hm] at *
    generalize hmm : n / 2 = m at *
    have h2 : m < n := by omega
    rw [← lossAt_add a (a m) 0 m n, loss_up M (by omega) (Nat.le_refl n), loss_dn M (Nat.zero_le m) h2, ← lossAt_add a y 0 m n]
    have u1 : sg a m n - y * ((n : Int) - (m : Int)) ≤ lossAt a y m n := by
      rw [← sg_subc a y (by omega)]
      exact sg_le (by omega) fun i _ _ => (ab_ge _).1
    have u2 : y * ((m : Int) - ((0 : Nat) : Int)) - sg a 0 m ≤ lossAt a y 0 m := by
      rw [← sg_rsubc a y (Nat.zero_le m)]
      exact sg_le (Nat.zero_le m) fun i _ _ => by have := (ab_ge (a i - y)).2.1; omega
    have e1 : (m : Int) - ((0 : Nat) : Int) = (m : Int) := by omega
    have e2 : (n : Int) - (m : Int) = (m : Int) + 1 := by omega
    rw [e2, Int.mul_add, Int.mul_one] at u1 ⊢
    rw [e1] at u2 ⊢
    omega
  · have hn1 : (n - 1) / 2 + 1 = n / 2 := by omega
    unfold cs at *
    rw [hm] at *
    generalize hmm : n / 2 = m at *
    obtain ⟨l, rfl⟩ : ∃ l, m = l + 1 := ⟨m - 1, by omega⟩
    have el : (n - 1) / 2 = l := by omega
    rw [el] at hy
    have h2 : l + 1 < n := by omega
    rw [← lossAt_add a (a (l + 1)) 0 (l + 1) n, loss_up M (by omega) (Nat.le_refl n), loss_dn M (Nat.zero_le _) h2, ← lossAt_add a y 0 (l + 1) n]
    have u1 : sg a (l + 1) n - y * ((n : Int) - ((l + 1 : Nat) : Int)) ≤ lossAt a y (l + 1) n := by
      rw [← sg_subc a y (by omega)]
      exact sg_le (by omega) fun i _ _ => (ab_ge _).1
    have u2 : y * ((l : Int) - ((0 : Nat) : Int)) - sg a 0 l ≤ lossAt a y 0 l := by
      rw [← sg_rsubc a y (Nat.zero_le l)]
      exact sg_le (Nat.zero_le l) fun i _ _ => by have := (ab_ge (a i - y)).2.1; omega
    have u3 : lossAt a y 0 (l + 1) = lossAt a y 0 l + ab (a l - y) := by
      rw [← lossAt_add a y 0 l (l + 1)]
      congr 1
      unfold lossAt
      rw [sg_one]
    have u4 := (ab_ge (a l - y)).1
    have u5 : sg a 0 (l + 1) = sg a 0 l + a l := sg_succ a 0 l
    have e1 : (l : Int) - ((0 : Nat) : Int) = (l : Int) := by omega
    have e2 : (n : Int) - ((l + 1 : Nat) : Int) = (l : Int) + 1 := by omega
    have e3 : ((l + 1 : Nat) : Int) - ((0 : Nat) : Int) = (l : Int) + 1 := by omega
    rw [e1] at u2
    rw [e2, Int.mul_add, Int.mul_one] at u1
    rw [e2, e3, Int.mul_add, Int.mul_one, u3, u5]
    omega
theorem far_hi {a : Nat → Int} {n : Nat} (M : Mon a n) (h : 0 < n) {y : Int} (hy : a (n / 2) < y) : cs a 0 n < lossAt a y 0 n := by
  have hm : (0 + n) / 2 = n / 2 := by omega
  unfold cs
  rw [hm]
  generalize hmm : n / 2 = m at *
  have h2 : m < n := by omega
  rw [← lossAt_add a (a m) 0 m n, loss_up M (by omega) (Nat.le_refl n), loss_dn M (Nat.zero_le m) h2, ← lossAt_add a y 0 m n]
  have u2 : y * ((m : Int) - ((0 : Nat) : Int)) - sg a 0 m ≤ lossAt a y 0 m := by
    rw [← sg_rsubc a y (Nat.zero_le m)]
    exact sg_le (Nat.zero_le m) fun i _ _ => by have := (ab_ge (a i - y)).2.1; omega
  have z1 : lossAt a y m n = ab (a m - y) + lossAt a y (m + 1) n := by
    rw [← lossAt_add a y m (m + 1) n]
    congr 1
    unfold lossAt
    rw [sg_one]
  have z2 : sg a m n = a m + sg a (m + 1) n := by rw [← sg_add a m (m + 1) n, sg_one]
  have z3 : sg a (m + 1) n - y * ((n : Int) - ((m + 1 : Nat) : Int)) ≤ lossAt a y (m + 1) n := by
    rw [← sg_subc a y (by omega)]
    exact sg_le (by omega) fun i _ _ => (ab_ge _).1
  have z4 := (ab_ge (a m - y)).2.1
  obtain ⟨q, hq⟩ : ∃ q : Nat, n = m + 1 + q := ⟨n - m - 1, by omega⟩
  have e1 : (m : Int) - ((0 : Nat) : Int) = (m : Int) := by omega
  have e2 : (n : Int) - ((m + 1 : Nat) : Int) = (q : Int) := by omega
  have e3 : (n : Int) - (m : Int) = (q : Int) + 1 := by omega
  rw [e1] at u2 ⊢
  rw [e2] at z3
  rw [e3, Int.mul_add, Int.mul_one]
  rcases (show m = q ∨ m = q + 1 by omega) with e | e
  · have e4 : (m : Int) = (q : Int) := by omega
    rw [e4] at u2 ⊢
    omega
  · have e4 : (m : Int) = (q : Int) + 1 := by omega
    rw [e4, Int.mul_add, Int.mul_one] at u2
    rw [e4, Int.mul_add, Int.mul_one]
    omega
theorem low_mid {a : Nat → Int} {n : Nat} (M : Mon a n) (h : 0 < n) : lossAt a (a ((n - 1) / 2)) 0 n = cs a 0 n := by
  rcases (show n % 2 = 1 ∨ n % 2 = 0 by omega) with odd | even
  · unfold cs
    rw [show (0 + n) / 2 = (n - 1) / 2 by omega]
  · unfold cs
    rw [show (0 + n) / 2 = n / 2 by omega]
    generalize hmm : n / 2 = m at *
    obtain ⟨l, rfl⟩ : ∃ l, m = l + 1 := ⟨m - 1, by omega⟩
    have el : (n - 1) / 2 = l := by omega
    rw [el]
    have h2 : l + 1 < n := by omega
    rw [← lossAt_add a (a (l + 1)) 0 (l + 1) n, loss_up M (by omega) (Nat.le_refl n), loss_dn M (Nat.zero_le _) h2, ← lossAt_add a (a l) 0 l n, loss_up M (by omega) (Nat.le_refl n), loss_dn M (Nat.zero_le _) (by omega)]
    have u5 : sg a 0 (l + 1) = sg a 0 l + a l := sg_succ a 0 l
    have u6 : sg a l n = a l + sg a (l + 1) n := by rw [← sg_add a l (l + 1) n, sg_one]
    have e1 : (l : Int) - ((0 : Nat) : Int) = (l : Int) := by omega
    have e2 : (n : Int) - ((l + 1 : Nat) : Int) = (l : Int) + 1 := by omega
    have e3 : ((l + 1 : Nat) : Int) - ((0 : Nat) : Int) = (l : Int) + 1 := by omega
    have e4 : (n : Int) - (l : Int) = (l : Int) + 2 := by omega
    rw [e1, e2, e3, e4, u5, u6, Int.mul_add, Int.mul_add, Int.mul_one]
    omega
/-- places of a dict that tells a function -/
theorem merge_fn (L : Int → Int) (k : Int) : ∀ (ys : List Int) (acc : List (Key × V)), valV (mergeK acc (ys.map fun y => (Sum.inl y, V.int (L y)))) (Sum.inl k) = if k ∈ ys then some (V.int (L k)) else valV acc (Sum.inl k)
  | [], acc => by simp [mergeK]
  | y :: r, acc => by
    have ih := merge_fn L k r (putK acc (Sum.inl y) (V.int (L y)))
    show valV (mergeK (putK acc (Sum.inl y) (V.int (L y))) (r.map fun y => (Sum.inl y, V.int (L y)))) (Sum.inl k) = _
    rw [ih, valV_put]
    by_cases c : k ∈ r
    · rw [if_pos c, if_pos (List.mem_cons_of_mem _ c)]
    · rw [if_neg c]
      by_cases e : k = y
      · subst e
        rw [if_pos rfl, if_pos List.mem_cons_self]
      · rw [if_neg (fun z => e (Sum.inl.inj z)), if_neg (fun z => by rcases List.mem_cons.mp z with z | z <;> contradiction)]
end LM
local macro_rules | `(tactic| walk_at "u1") => `(tactic| first
  | (with_reducible refine U.g_seq ?_) | (with_reducible refine U.g_asg ?_) | (with_reducible refine U.g_name ?_) | (with_reducible refine U.g_op ?_) | ((with_reducible refine' U.g_var ?k1 ?k2); (case k1 => exact rfl)) | (with_reducible refine U.g_c ?_)
  | (with_reducible refine U.g_cons ?_) | (with_reducible refine U.g_nil ?_) | (with_reducible refine U.g_cb ?_) | (with_reducible refine U.g_call ?_) | (with_reducible refine U.g_ret ?_) | (with_reducible refine U.g_drop ?_)
  | (with_reducible refine U.g_ifS ?_) | (with_reducible refine U.g_if ?_) | (with_reducible refine U.g_test ?_) | (with_reducible refine U.g_B ?_) | (with_reducible refine U.g_un ?_) | (with_reducible refine U.g_next ?_)
  | (with_reducible refine U.g_bl ?_) | (with_reducible refine U.g_blP ?_) | (with_reducible refine U.g_addI ?_) | (with_reducible refine U.g_subI ?_) | (with_reducible refine U.g_cmpI ?_) | (with_reducible refine U.g_intI ?_) | (with_reducible refine U.g_intB ?_)
  | (with_reducible refine U.g_absI ?_) | (with_reducible refine U.g_negI ?_) | (with_reducible refine U.g_mmI ?_) | (with_reducible refine U.g_and ?_) | (with_reducible refine U.g_or ?_) | (with_reducible refine U.g_not ?_) | (with_reducible refine U.g_andV ?_) | (with_reducible refine U.g_orV ?_) | (with_reducible refine U.g_notV ?_)
  | (with_reducible refine U.g_lst ?_) | (with_reducible refine U.g_tup ?_) | (with_reducible refine U.g_sub ?_) | (with_reducible refine U.g_lrg ?_) | (with_reducible refine U.g_rg1 ?_) | (with_reducible refine U.g_intE ?_) | (with_reducible refine U.g_sl ?_) | (with_reducible refine U.g_noP ?_) | (with_reducible refine U.g_part ?_) | (with_reducible refine U.g_lc ?_) | (with_reducible refine U.g_for ?_) | (with_reducible refine U.g_iList ?_) | (with_reducible refine U.g_iTup ?_) | (with_reducible refine U.g_iRng1 ?_) | (with_reducible refine U.g_iStr ?_) | (with_reducible refine U.g_iEnum ?_) | (with_reducible refine U.g_iVals ?_)
  | (with_reducible refine U.g_dnotin ?_) | (with_reducible refine U.g_din ?_) | (with_reducible refine U.g_dget ?_) | (with_reducible refine U.g_dput ?_) | (with_reducible refine U.g_bm ?_) | (with_reducible refine U.g_bm0 ?_) | (with_reducible refine U.g_dnewK ?_)
  | (with_reducible refine U.g_gcons ?_) | (with_reducible refine U.g_gnil ?_) | (with_reducible refine U.g_par ?_) | (with_reducible refine U.e_two ?_)
  | ((with_reducible refine' U.g_gtup ?k1 ?k2 ?k3); (case k1 => exact L2.SqT.of (by walk_at "hp")); (case k2 => exact rfl))
  | ((with_reducible refine' U.ty_lst ?k1 ?k2); (case k1 => walk_at "hp"))
  | (with_reducible refine U.g_strS ?_) | ((with_reducible refine' U.g_strI ?k1 ?k2); (case k1 => first | decide | omega))
  | (with_reducible refine U.g_nT ?_) | (with_reducible refine U.g_nF ?_) | (with_reducible refine U.g_chain ?_) | (with_reducible refine U.g_m1 ?_) | (with_reducible refine U.e_strE ?_) | (with_reducible refine U.g_disp ?_) | (with_reducible refine U.g_pcons ?_) | (with_reducible refine U.g_pnil ?_) | (with_reducible refine U.e_non ?_) | (with_reducible refine U.g_iRng2 ?_) | (with_reducible refine U.g_par3 ?_) | (with_reducible refine ZT.g_iZipX ?_) | (with_reducible refine U.e_three ?_) | (with_reducible refine ET.g_iEnumT ?_) | (with_reducible refine MD.g_ckw ?_) | (with_reducible refine M.g_fld ?_) | (with_reducible refine M.g_sfld ?_) | (with_reducible refine ZV.g_meth ?_) | (with_reducible refine KW.g_K0 ?_) | (with_reducible refine U.g_yes ?_) | (with_reducible refine U.g_cont ?_) | (with_reducible refine U.g_T ?_) | (with_reducible refine U.g_F ?_)
  | ((with_reducible refine' U.g_modI ?k1 ?k2); (case k1 => first | assumption | decide | omega))
  | ((with_reducible refine' U.g_divP ?k1 ?k2 ?k3); (case k1 => first | assumption | decide | omega); (case k2 => first | assumption | decide | omega))
  | (with_reducible refine U.g_mulB ?_) | (with_reducible refine U.g_powL (by decide +kernel) ?_) | (with_reducible refine U.g_modL (by decide +kernel) ?_)
  | ((with_reducible refine' U.g_mulL ?k1 ?k2); (case k1 => first | decide | omega))
  | ((with_reducible refine' U.g_mulR ?k1 ?k2); (case k1 => first | decide | omega))
  | ((with_reducible refine' U.g_ix ?k1 ?k2 ?k3); (case k1 => walk_at "sq"); (case k2 => exact rfl))
  | ((with_reducible refine' U.g_setL ?k1 ?k2 ?k3); (case k1 => walk_at "hp"); (case k2 => exact rfl))
  | ((with_reducible refine' U.g_eqS ?k1 ?k2); (case k1 => rfl)))
/-- what stands at an address, behind stores -/
local macro_rules | `(tactic| walk_at "hp") => `(tactic| first
  | assumption
  | ((with_reducible refine' U.get_same ?k1); (case k1 => exact rfl))
  | ((with_reducible refine' U.get_new ?k1 ?k2); (case k1 => assumption); (case k2 => walk_at "hp"))
  | ((with_reducible refine' U.get_ne ?k1 ?k2); (case k1 => first | assumption | (apply Ne.symm; assumption)); (case k2 => walk_at "hp")))
local macro_rules | `(tactic| walk_at "sq") => `(tactic| first
  | assumption | exact Or.inl (by assumption) | exact Or.inr (by assumption)
  | exact Or.inl (L2.SqL.of (by walk_at "hp")) | exact Or.inr (L2.SqT.of (by walk_at "hp")))
local macro_rules | `(tactic| walk_at "st") => `(tactic| dsimp only [L2.cxOf, L2.start, List.map, List.length, List.replicate, HAppend.hAppend, Append.append, List.append, Nat.reduceAdd, Nat.reduceSub])
local macro_rules | `(tactic| walk_at "ds") => `(tactic| try dsimp only [List.set, Int.reduceToNat])
local macro_rules | `(tactic| walk_at "go") => `(tactic| ((try dsimp only); (repeat walk_at "u1"); walk_at "ds"))
local macro_rules | `(tactic| walk_at "c2") => `(tactic| (refine U.g_2 (fun c => ?_) (fun c => ?_) <;> (try simp only [decide_eq_true_eq, decide_eq_false_iff_not, Bool.not_eq_true', Bool.not_eq_false'] at c)))
namespace Toy
open PySem L2 U
/-! ### the text by places -/
def top (i : Nat) : Stmt := PySem.Challenge.pw_alikecrowds_k25_stretches_losses_and_one.main.body.getD i (.Pass ⟨0, 0, 0, 0⟩)
abbrev s_CrowdError___init__ : Stmt := (inClass (top 2) 0)
abbrev s_is_integer : Stmt := (top 13)
abbrev s_is_number_below : Stmt := (top 14)
abbrev s_is_ascending : Stmt := (top 15)
abbrev s_is_lot_below : Stmt := (top 16)
abbrev s_is_tuple_of : Stmt := (top 17)
abbrev s_is_line_value : Stmt := (top 18)
abbrev s_Ladder___init__ : Stmt := (inClass (top 22) 0)
abbrev s_Ladder_loss : Stmt := (inClass (top 22) 1)
abbrev s_Ladder_middles : Stmt := (inClass (top 22) 2)
abbrev s_Ladder_first_losses : Stmt := (inClass (top 22) 3)
abbrev s_Ladder_crowd : Stmt := (inClass (top 22) 5)
abbrev s_ladder_of : Stmt := (top 23)
abbrev s_sized_ladder : Stmt := (top 24)
abbrev s_has_crowds : Stmt := (top 25)
abbrev s_check_stretch : Stmt := (top 26)
abbrev s_stretch_loss : Stmt := (top 27)
abbrev s_middles : Stmt := (top 28)
abbrev s_parts_places : Stmt := (top 29)
abbrev s_are_shown : Stmt := (top 30)
abbrev s_loss_shown : Stmt := (top 31)
abbrev s_line_loss : Stmt := (top 32)
abbrev s_crowded_ladder : Stmt := (top 33)
abbrev s_one_more : Stmt := (top 34)
abbrev s__law_pot : Stmt := (top 36)
abbrev s__law_take : Stmt := (top 37)
abbrev s__law_of : Stmt := (top 38)
abbrev s__law_some : Stmt := (top 39)
abbrev s__law_cells : Stmt := (top 40)
abbrev s__law_line_values : Stmt := (top 41)
abbrev s__law_crowd_cost : Stmt := (top 42)
abbrev s__law_cut_costs : Stmt := (top 43)
abbrev s__law_least : Stmt := (top 44)
abbrev s__law_middles_of : Stmt := (top 45)
abbrev s__law_crowds : Stmt := (top 46)
abbrev s__law_right : Stmt := (top 47)
abbrev s_law : Stmt := (top 48)
/-! ### what the top has written -/
structure Tx (K : PySem.W.Frag) (mg : Str → Option Value) where
  a_CrowdError___init__ : Addr
  fd_CrowdError___init__ : FuncData
  F_CrowdError___init__ : Fun K "__init__" "CrowdError.__init__" s_CrowdError___init__ a_CrowdError___init__ fd_CrowdError___init__
  a_is_integer : Addr
  fd_is_integer : FuncData
  F_is_integer : Fun K "is_integer" "is_integer" s_is_integer a_is_integer fd_is_integer
  m_is_integer : mg "is_integer" = some (.ref a_is_integer)
  a_is_number_below : Addr
  fd_is_number_below : FuncData
  F_is_number_below : Fun K "is_number_below" "is_number_below" s_is_number_below a_is_number_below fd_is_number_below
  m_is_number_below : mg "is_number_below" = some (.ref a_is_number_below)
  a_is_ascending : Addr
  fd_is_ascending : FuncData
  F_is_ascending : Fun K "is_ascending" "is_ascending" s_is_ascending a_is_ascending fd_is_ascending
  m_is_ascending : mg "is_ascending" = some (.ref a_is_ascending)
  a_is_lot_below : Addr
  fd_is_lot_below : FuncData
  F_is_lot_below : Fun K "is_lot_below" "is_lot_below" s_is_lot_below a_is_lot_below fd_is_lot_below
  m_is_lot_below : mg "is_lot_below" = some (.ref a_is_lot_below)
  a_is_tuple_of : Addr
  fd_is_tuple_of : FuncData
  F_is_tuple_of : Fun K "is_tuple_of" "is_tuple_of" s_is_tuple_of a_is_tuple_of fd_is_tuple_of
  m_is_tuple_of : mg "is_tuple_of" = some (.ref a_is_tuple_of)
  a_is_line_value : Addr
  fd_is_line_value : FuncData
  F_is_line_value : Fun K "is_line_value" "is_line_value" s_is_line_value a_is_line_value fd_is_line_value
  m_is_line_value : mg "is_line_value" = some (.ref a_is_line_value)
  a_Ladder___init__ : Addr
  fd_Ladder___init__ : FuncData
  F_Ladder___init__ : Fun K "__init__" "Ladder.__init__" s_Ladder___init__ a_Ladder___init__ fd_Ladder___init__
  a_Ladder_loss : Addr
  fd_Ladder_loss : FuncData
  F_Ladder_loss : Fun K "loss" "Ladder.loss" s_Ladder_loss a_Ladder_loss fd_Ladder_loss
  a_Ladder_middles : Addr
  fd_Ladder_middles : FuncData
  F_Ladder_middles : Fun K "middles" "Ladder.middles" s_Ladder_middles a_Ladder_middles fd_Ladder_middles
  a_Ladder_first_losses : Addr
  fd_Ladder_first_losses : FuncData
  F_Ladder_first_losses : Fun K "first_losses" "Ladder.first_losses" s_Ladder_first_losses a_Ladder_first_losses fd_Ladder_first_losses
  a_Ladder_crowd : Addr
  fd_Ladder_crowd : FuncData
  F_Ladder_crowd : Fun K "crowd" "Ladder.crowd" s_Ladder_crowd a_Ladder_crowd fd_Ladder_crowd
  a_ladder_of : Addr
  fd_ladder_of : FuncData
  F_ladder_of : Fun K "ladder_of" "ladder_of" s_ladder_of a_ladder_of fd_ladder_of
  m_ladder_of : mg "ladder_of" = some (.ref a_ladder_of)
  a_sized_ladder : Addr
  fd_sized_ladder : FuncData
  F_sized_ladder : Fun K "sized_ladder" "sized_ladder" s_sized_ladder a_sized_ladder fd_sized_ladder
  m_sized_ladder : mg "sized_ladder" = some (.ref a_sized_ladder)
  a_has_crowds : Addr
  fd_has_crowds : FuncData
  F_has_crowds : Fun K "has_crowds" "has_crowds" s_has_crowds a_has_crowds fd_has_crowds
  m_has_crowds : mg "has_crowds" = some (.ref a_has_crowds)
  a_check_stretch : Addr
  fd_check_stretch : FuncData
  F_check_stretch : Fun K "check_stretch" "check_stretch" s_check_stretch a_check_stretch fd_check_stretch
  m_check_stretch : mg "check_stretch" = some (.ref a_check_stretch)
  a_stretch_loss : Addr
  fd_stretch_loss : FuncData
  F_stretch_loss : Fun K "stretch_loss" "stretch_loss" s_stretch_loss a_stretch_loss fd_stretch_loss
  m_stretch_loss : mg "stretch_loss" = some (.ref a_stretch_loss)
  a_middles : Addr
  fd_middles : FuncData
  F_middles : Fun K "middles" "middles" s_middles a_middles fd_middles
  m_middles : mg "middles" = some (.ref a_middles)
  a_parts_places : Addr
  fd_parts_places : FuncData
  F_parts_places : Fun K "parts_places" "parts_places" s_parts_places a_parts_places fd_parts_places
  m_parts_places : mg "parts_places" = some (.ref a_parts_places)
  a_are_shown : Addr
  fd_are_shown : FuncData
  F_are_shown : Fun K "are_shown" "are_shown" s_are_shown a_are_shown fd_are_shown
  m_are_shown : mg "are_shown" = some (.ref a_are_shown)
  a_loss_shown : Addr
  fd_loss_shown : FuncData
  F_loss_shown : Fun K "loss_shown" "loss_shown" s_loss_shown a_loss_shown fd_loss_shown
  m_loss_shown : mg "loss_shown" = some (.ref a_loss_shown)
  a_line_loss : Addr
  fd_line_loss : FuncData
  F_line_loss : Fun K "line_loss" "line_loss" s_line_loss a_line_loss fd_line_loss
  m_line_loss : mg "line_loss" = some (.ref a_line_loss)
  a_crowded_ladder : Addr
  fd_crowded_ladder : FuncData
  F_crowded_ladder : Fun K "crowded_ladder" "crowded_ladder" s_crowded_ladder a_crowded_ladder fd_crowded_ladder
  m_crowded_ladder : mg "crowded_ladder" = some (.ref a_crowded_ladder)
  a_one_more : Addr
  fd_one_more : FuncData
  F_one_more : Fun K "one_more" "one_more" s_one_more a_one_more fd_one_more
  m_one_more : mg "one_more" = some (.ref a_one_more)
  a__law_pot : Addr
  fd__law_pot : FuncData
  F__law_pot : Fun K "_law_pot" "_law_pot" s__law_pot a__law_pot fd__law_pot
  m__law_pot : mg "_law_pot" = some (.ref a__law_pot)
  a__law_take : Addr
  fd__law_take : FuncData
  F__law_take : Fun K "_law_take" "_law_take" s__law_take a__law_take fd__law_take
  m__law_take : mg "_law_take" = some (.ref a__law_take)
  a__law_of : Addr
  fd__law_of : FuncData
  F__law_of : Fun K "_law_of" "_law_of" s__law_of a__law_of fd__law_of
  m__law_of : mg "_law_of" = some (.ref a__law_of)
  a__law_some : Addr
  fd__law_some : FuncData
  F__law_some : Fun K "_law_some" "_law_some" s__law_some a__law_some fd__law_some
  m__law_some : mg "_law_some" = some (.ref a__law_some)
  a__law_cells : Addr
  fd__law_cells : FuncData
  F__law_cells : Fun K "_law_cells" "_law_cells" s__law_cells a__law_cells fd__law_cells
  m__law_cells : mg "_law_cells" = some (.ref a__law_cells)
  a__law_line_values : Addr
  fd__law_line_values : FuncData
  F__law_line_values : Fun K "_law_line_values" "_law_line_values" s__law_line_values a__law_line_values fd__law_line_values
  m__law_line_values : mg "_law_line_values" = some (.ref a__law_line_values)
  a__law_crowd_cost : Addr
  fd__law_crowd_cost : FuncData
  F__law_crowd_cost : Fun K "_law_crowd_cost" "_law_crowd_cost" s__law_crowd_cost a__law_crowd_cost fd__law_crowd_cost
  m__law_crowd_cost : mg "_law_crowd_cost" = some (.ref a__law_crowd_cost)
  a__law_cut_costs : Addr
  fd__law_cut_costs : FuncData
  F__law_cut_costs : Fun K "_law_cut_costs" "_law_cut_costs" s__law_cut_costs a__law_cut_costs fd__law_cut_costs
  m__law_cut_costs : mg "_law_cut_costs" = some (.ref a__law_cut_costs)
  a__law_least : Addr
  fd__law_least : FuncData
  F__law_least : Fun K "_law_least" "_law_least" s__law_least a__law_least fd__law_least
  m__law_least : mg "_law_least" = some (.ref a__law_least)
  a__law_middles_of : Addr
  fd__law_middles_of : FuncData
  F__law_middles_of : Fun K "_law_middles_of" "_law_middles_of" s__law_middles_of a__law_middles_of fd__law_middles_of
  m__law_middles_of : mg "_law_middles_of" = some (.ref a__law_middles_of)
  a__law_crowds : Addr
  fd__law_crowds : FuncData
  F__law_crowds : Fun K "_law_crowds" "_law_crowds" s__law_crowds a__law_crowds fd__law_crowds
  m__law_crowds : mg "_law_crowds" = some (.ref a__law_crowds)
  a__law_right : Addr
  fd__law_right : FuncData
  F__law_right : Fun K "_law_right" "_law_right" s__law_right a__law_right fd__law_right
  m__law_right : mg "_law_right" = some (.ref a__law_right)
  a_law : Addr
  fd_law : FuncData
  F_law : Fun K "law" "law" s_law a_law fd_law
  m_law : mg "law" = some (.ref a_law)
  C_Ladder : Addr
  m_Ladder : mg "Ladder" = some (.ref C_Ladder)
  cl_Ladder : Cls K C_Ladder
  M_Ladder : Mk K C_Ladder a_Ladder___init__
  me_Ladder_loss : Meth K C_Ladder "loss" a_Ladder_loss
  me_Ladder_middles : Meth K C_Ladder "middles" a_Ladder_middles
  me_Ladder_first_losses : Meth K C_Ladder "first_losses" a_Ladder_first_losses
  me_Ladder_crowd : Meth K C_Ladder "crowd" a_Ladder_crowd
  na_Ladder_ascending : NoAttr K C_Ladder "ascending"
  na_Ladder_places : NoAttr K C_Ladder "places"
  na_Ladder_sums : NoAttr K C_Ladder "sums"
  m_FARTHEST : ∃ t, mg "FARTHEST" = some (.int 1000000 t)
  m_MOST_SIZE : ∃ t, mg "MOST_SIZE" = some (.int 200 t)
  m_MOST_VALUES : ∃ t, mg "MOST_VALUES" = some (.int 200 t)
  n_abs : mg "abs" = none
  n_all : mg "all" = none
  n_bool : mg "bool" = none
  n_dict : mg "dict" = none
  n_enumerate : mg "enumerate" = none
  n_int : mg "int" = none
  n_isinstance : mg "isinstance" = none
  n_len : mg "len" = none
  n_list : mg "list" = none
  n_max : mg "max" = none
  n_min : mg "min" = none
  n_range : mg "range" = none
  n_repr : mg "repr" = none
  n_sorted : mg "sorted" = none
  n_sum : mg "sum" = none
  n_tuple : mg "tuple" = none
  n_zip : mg "zip" = none
section
variable {K : PySem.W.Frag} {mg : Str → Option Value}
theorem b_CrowdError___init__ (T : Tx K mg) : Binds K T.fd_CrowdError___init__ ["self", "value"] [] := T.F_CrowdError___init__.binds fun _ _ _ _ _ _ us hl => match us, hl with | [_, _], _ => rfl
theorem b_is_integer (T : Tx K mg) : Binds K T.fd_is_integer ["value"] [] := T.F_is_integer.binds fun _ _ _ _ _ _ us hl => match us, hl with | [_], _ => rfl
theorem b_is_number_below (T : Tx K mg) : Binds K T.fd_is_number_below ["many", "value"] [] := T.F_is_number_below.binds fun _ _ _ _ _ _ us hl => match us, hl with | [_, _], _ => rfl
theorem b_is_ascending (T : Tx K mg) : Binds K T.fd_is_ascending ["parts"] [] := T.F_is_ascending.binds fun _ _ _ _ _ _ us hl => match us, hl with | [_], _ => rfl
theorem b_is_lot_below (T : Tx K mg) : Binds K T.fd_is_lot_below ["many", "value"] [] := T.F_is_lot_below.binds fun _ _ _ _ _ _ us hl => match us, hl with | [_, _], _ => rfl
theorem b_is_tuple_of (T : Tx K mg) : Binds K T.fd_is_tuple_of ["value", "many"] [] := T.F_is_tuple_of.binds fun _ _ _ _ _ _ us hl => match us, hl with | [_, _], _ => rfl
theorem b_is_line_value (T : Tx K mg) : Binds K T.fd_is_line_value ["value"] [] := T.F_is_line_value.binds fun _ _ _ _ _ _ us hl => match us, hl with | [_], _ => rfl
theorem b_Ladder___init__ (T : Tx K mg) : Binds K T.fd_Ladder___init__ ["self", "values"] [] := T.F_Ladder___init__.binds fun _ _ _ _ _ _ us hl => match us, hl with | [_, _], _ => rfl
theorem b_Ladder_loss (T : Tx K mg) : Binds K T.fd_Ladder_loss ["self", "begin", "end"] [] := T.F_Ladder_loss.binds fun _ _ _ _ _ _ us hl => match us, hl with | [_, _, _], _ => rfl
theorem b_Ladder_middles (T : Tx K mg) : Binds K T.fd_Ladder_middles ["self", "begin", "end"] [] := T.F_Ladder_middles.binds fun _ _ _ _ _ _ us hl => match us, hl with | [_, _, _], _ => rfl
theorem b_Ladder_first_losses (T : Tx K mg) : Binds K T.fd_Ladder_first_losses ["self", "size"] [] := T.F_Ladder_first_losses.binds fun _ _ _ _ _ _ us hl => match us, hl with | [_, _], _ => rfl
theorem b_Ladder_crowd (T : Tx K mg) : Binds K T.fd_Ladder_crowd ["self", "begin", "end"] [] := T.F_Ladder_crowd.binds fun _ _ _ _ _ _ us hl => match us, hl with | [_, _, _], _ => rfl
theorem b_ladder_of (T : Tx K mg) : Binds K T.fd_ladder_of ["values"] [] := T.F_ladder_of.binds fun _ _ _ _ _ _ us hl => match us, hl with | [_], _ => rfl
theorem b_sized_ladder (T : Tx K mg) : Binds K T.fd_sized_ladder ["values", "size"] [] := T.F_sized_ladder.binds fun _ _ _ _ _ _ us hl => match us, hl with | [_, _], _ => rfl
theorem b_has_crowds (T : Tx K mg) : Binds K T.fd_has_crowds ["values", "size"] [] := T.F_has_crowds.binds fun _ _ _ _ _ _ us hl => match us, hl with | [_, _], _ => rfl
theorem b_check_stretch (T : Tx K mg) : Binds K T.fd_check_stretch ["values", "begin", "end"] [] := T.F_check_stretch.binds fun _ _ _ _ _ _ us hl => match us, hl with | [_, _, _], _ => rfl
theorem b_stretch_loss (T : Tx K mg) : Binds K T.fd_stretch_loss ["values", "begin", "end"] [] := T.F_stretch_loss.binds fun _ _ _ _ _ _ us hl => match us, hl with | [_, _, _], _ => rfl
theorem b_middles (T : Tx K mg) : Binds K T.fd_middles ["values", "begin", "end"] [] := T.F_middles.binds fun _ _ _ _ _ _ us hl => match us, hl with | [_, _, _], _ => rfl
theorem b_parts_places (T : Tx K mg) : Binds K T.fd_parts_places ["values", "size", "crowds"] [] := T.F_parts_places.binds fun _ _ _ _ _ _ us hl => match us, hl with | [_, _, _], _ => rfl
theorem b_are_shown (T : Tx K mg) : Binds K T.fd_are_shown ["crowds", "shown"] [] := T.F_are_shown.binds fun _ _ _ _ _ _ us hl => match us, hl with | [_, _], _ => rfl
theorem b_loss_shown (T : Tx K mg) : Binds K T.fd_loss_shown ["values", "crowds", "shown"] [] := T.F_loss_shown.binds fun _ _ _ _ _ _ us hl => match us, hl with | [_, _, _], _ => rfl
theorem b_line_loss (T : Tx K mg) : Binds K T.fd_line_loss ["values", "size", "crowds", "shown"] [] := T.F_line_loss.binds fun _ _ _ _ _ _ us hl => match us, hl with | [_, _, _, _], _ => rfl
theorem b_crowded_ladder (T : Tx K mg) : Binds K T.fd_crowded_ladder ["values", "size"] [] := T.F_crowded_ladder.binds fun _ _ _ _ _ _ us hl => match us, hl with | [_, _], _ => rfl
theorem b_one_more (T : Tx K mg) : Binds K T.fd_one_more ["values", "size", "value"] [] := T.F_one_more.binds fun _ _ _ _ _ _ us hl => match us, hl with | [_, _, _], _ => rfl
theorem b__law_pot (T : Tx K mg) : Binds K T.fd__law_pot ["script", "place"] [] := T.F__law_pot.binds fun _ _ _ _ _ _ us hl => match us, hl with | [_, _], _ => rfl
theorem b__law_take (T : Tx K mg) : Binds K T.fd__law_take ["pot", "upto"] [] := T.F__law_take.binds fun _ _ _ _ _ _ us hl => match us, hl with | [_, _], _ => rfl
theorem b__law_of (T : Tx K mg) : Binds K T.fd__law_of ["pot", "some"] [] := T.F__law_of.binds fun _ _ _ _ _ _ us hl => match us, hl with | [_, _], _ => rfl
theorem b__law_some (T : Tx K mg) : Binds K T.fd__law_some ["pot", "pool", "amount"] [] := T.F__law_some.binds fun _ _ _ _ _ _ us hl => match us, hl with | [_, _, _], _ => rfl
theorem b__law_cells (T : Tx K mg) : Binds K T.fd__law_cells ["script", "most"] [] := T.F__law_cells.binds fun _ _ _ _ _ _ us hl => match us, hl with | [_, _], _ => rfl
theorem b__law_line_values (T : Tx K mg) : Binds K T.fd__law_line_values ["pot", "most"] [] := T.F__law_line_values.binds fun _ _ _ _ _ _ us hl => match us, hl with | [_, _], _ => rfl
theorem b__law_crowd_cost (T : Tx K mg) : Binds K T.fd__law_crowd_cost ["members"] [] := T.F__law_crowd_cost.binds fun _ _ _ _ _ _ us hl => match us, hl with | [_], _ => rfl
theorem b__law_cut_costs (T : Tx K mg) : Binds K T.fd__law_cut_costs ["values", "least"] [] := T.F__law_cut_costs.binds fun _ _ _ _ _ _ us hl => match us, hl with | [_, _], _ => rfl
theorem b__law_least (T : Tx K mg) : Binds K T.fd__law_least ["values", "least"] [] := T.F__law_least.binds fun _ _ _ _ _ _ us hl => match us, hl with | [_, _], _ => rfl
theorem b__law_middles_of (T : Tx K mg) : Binds K T.fd__law_middles_of ["members"] [] := T.F__law_middles_of.binds fun _ _ _ _ _ _ us hl => match us, hl with | [_], _ => rfl
theorem b__law_crowds (T : Tx K mg) : Binds K T.fd__law_crowds ["pot", "amount", "least"] [] := T.F__law_crowds.binds fun _ _ _ _ _ _ us hl => match us, hl with | [_, _, _], _ => rfl
theorem b__law_right (T : Tx K mg) : Binds K T.fd__law_right ["pot"] [] := T.F__law_right.binds fun _ _ _ _ _ _ us hl => match us, hl with | [_], _ => rfl
theorem b_law (T : Tx K mg) : Binds K T.fd_law ["script"] [] := T.F_law.binds fun _ _ _ _ _ _ us hl => match us, hl with | [_], _ => rfl
end
end Toy

namespace Toy
open PySem L2 U M
section
variable {P : Program} {w : World} {K : PySem.W.Frag} {mg : Str → Option Value} {base : Heap}
theorem sc_is_integer : FnScope ["value"] ["value"] (defScope s_is_integer) := ⟨rfl, rfl, rfl, by decide +kernel, rfl, by decide +kernel, by decide +kernel⟩
def sp_is_integer (K : PySem.W.Frag) : Sp := fun vs H Q _ => ∃ (x : V) (t : String) (b1 b2 : Bool), vs = [x] ∧ TyX K H x (.type t) ∧ kitB t "int" = some b1 ∧ kitB t "bool" = some b2 ∧ Q (.bl (b1 && !b2)) H
theorem ok_is_integer (T : Tx K mg) : FnOk P w K mg base CX0 1 T.a_is_integer T.fd_is_integer ["value"] (sp_is_integer K) := by
  refine T.F_is_integer.ok sc_is_integer (fun vs H Q E h => ?_) (fun cdv A outer s H vs Q E hr h => ?_)
  · obtain ⟨x, t, b1, b2, rfl, _⟩ := h
    rfl
  · obtain ⟨x, t, b1, b2, rfl, ht, k1, k2, kk⟩ := h
    have hu := hu_of hr
    have hu64 := hr.units
    refine ⟨_, (pss_one (ps_ret (pe_and (pe_callB (call_uIsi (K := K) rfl) (by rfl) T.n_isinstance (by decide +kernel) (pa_cons (pv 0) (pa_cons (u_ty (n := "int") (by rfl) T.n_int (by decide +kernel)) pa_nil))) (pe_one (pe_not (pe_callB (call_uIsi (K := K) rfl) (by rfl) T.n_isinstance (by decide +kernel) (pa_cons (pv 0) (pa_cons (u_ty (n := "bool") (by rfl) T.n_bool (by decide +kernel)) pa_nil)))))))), ?_⟩
    walk_at "st"
    walk_at "go"
    refine e_isi ht k1 ?_
    walk_at "go"
    cases b1 with
    | true =>
      walk_at "go"
      refine e_isi ht k2 ?_
      walk_at "go"
      exact kk
    | false =>
      walk_at "go"
      exact kk
end
end Toy

namespace Toy
open PySem L2 U M
section
variable {P : Program} {w : World} {K : PySem.W.Frag} {mg : Str → Option Value} {base : Heap}
theorem sc_is_line_value : FnScope ["value"] ["value"] (defScope s_is_line_value) := ⟨rfl, rfl, rfl, by decide +kernel, rfl, by decide +kernel, by decide +kernel⟩
def sp_is_line_value (K : PySem.W.Frag) : Sp := fun vs H Q _ => ∃ (x : V), vs = [x] ∧ ((∃ z : Int, x = .int z ∧ Q (.bl (decide (-1000000 ≤ z) && decide (z ≤ 1000000))) H) ∨ (∃ (t : String) (b1 b2 : Bool), TyX K H x (.type t) ∧ kitB t "int" = some b1 ∧ kitB t "bool" = some b2 ∧ (b1 && !b2) = false ∧ Q (.bl false) H))
theorem ok_is_line_value (T : Tx K mg) : FnOk P w K mg base CX0 2 T.a_is_line_value T.fd_is_line_value ["value"] (sp_is_line_value K) := by
  refine T.F_is_line_value.ok sc_is_line_value (fun vs H Q E h => ?_) (fun cdv A outer s H vs Q E hr h => ?_)
  · obtain ⟨x, rfl, _⟩ := h
    rfl
  · obtain ⟨x, rfl, kk⟩ := h
    have hu := hu_of hr
    have hu64 := hr.units
    refine ⟨_, (pss_one (ps_ret (pe_and (pe_call (ok_is_integer T) (hr.mono (by decide)) rfl T.m_is_integer T.F_is_integer.kp (b_is_integer T) .nil pass0 (pa_cons (pv 0) pa_nil)) (pe_one (pe_chain op_uLe op_uLe (pe_un op_uNeg (u_constI (by rfl) T.m_FARTHEST)) (pv 0) (u_constI (by rfl) T.m_FARTHEST)))))), ?_⟩
    walk_at "st"
    walk_at "go"
    rcases kk with ⟨z, rfl, kk⟩ | ⟨t, b1, b2, ht, k1, k2, kb, kk⟩
    · refine ⟨.int z, "int", true, false, rfl, ty_int, by decide +kernel, by decide +kernel, ?_⟩
      refine ⟨true, rfl, ?_⟩
      rw [if_pos rfl]
      walk_at "go"
      by_cases c : -1000000 ≤ z
      · rw [if_pos (decide_eq_true c)]
        walk_at "go"
        rw [decide_eq_true c, Bool.true_and] at kk
        exact kk
      · rw [if_neg (by simpa using c)]
        rw [decide_eq_false c, Bool.false_and] at kk
        exact kk
    · refine ⟨x, t, b1, b2, rfl, ht, k1, k2, ?_⟩
      rw [kb]
      walk_at "go"
      exact kk
end
end Toy

namespace Toy
open PySem L2 U
/-! ### the pot: three numbers; n: how many draws it stands for still -/
def PotAt (H : Hp) (p : Addr) (n : Nat) : Prop := ∃ (o s : Int) (k : Nat), H p = some (.lst [.int o, .int s, .int k]) ∧ 0 ≤ o ∧ o < 10 ^ 300 ∧ 0 ≤ s ∧ s < 2 ^ 61 ∧ k + n ≤ 1000000
theorem PotAt.le {H : Hp} {p : Addr} {n m : Nat} (h : PotAt H p n) (l : m ≤ n) : PotAt H p m := by
  obtain ⟨o, s, k, a, b, c, d, e, f⟩ := h
  exact ⟨o, s, k, a, b, c, d, e, by omega⟩
section
variable {P : Program} {w : World} {K : PySem.W.Frag} {mg : Str → Option Value} {base : Heap}
theorem sc__law_take : FnScope ["pot", "upto", "digit", "prime", "blend"] ["pot", "upto"] (defScope s__law_take) := ⟨rfl, rfl, rfl, by decide +kernel, rfl, by decide +kernel, by decide +kernel⟩
def sp_take : Sp := fun vs H Q _ => ∃ (p : Addr) (u : Int) (n : Nat), vs = [.ref p, .int u] ∧ 0 < u ∧ u < 2 ^ 62 ∧ PotAt H p (n + 1) ∧ ∀ (r : Int) (H' : Hp), 0 ≤ r → r < u → PotAt H' p n → SB p H H' → Q (.int r) H'
theorem ok__law_take (T : Tx K mg) : FnOk P w K mg base CX0 1 T.a__law_take T.fd__law_take ["pot", "upto"] sp_take := by
  refine T.F__law_take.ok sc__law_take (fun vs H Q E h => ?_) (fun cdv A outer s H vs Q E hr h => ?_)
  · obtain ⟨p, u, n, rfl, _⟩ := h
    rfl
  · obtain ⟨p, u, n, rfl, u0, u1, ⟨ow, s, k, hp, h1, h2, h3, h4, h5⟩, kk⟩ := h
    have hu := hu_of hr
    have hu64 := hr.units
    refine ⟨_, (pss_cons (ps_if (pt_cmpR op_uGt (pe_ix (ix_u (K := K) rfl) (pv 0) (pe_int) (fun _ _ => rfl)) (pe_int) (nomark _)) (pss_cons (ps_set (i := 2) sc__law_take.nd rfl (Or.inl rfl) (pe_op op_uMod (pe_callTy call_uInt (by rfl) T.n_int (by decide +kernel) (pa_cons (pe_ix (ix_u (K := K) rfl) (pv 0) (pe_int) (fun _ _ => rfl)) pa_nil)) (pv 1)))
        (pss_cons (ps_asg (pe_op op_uDiv (pe_ix (ix_u (K := K) rfl) (pv 0) (pe_int) (fun _ _ => rfl)) (pv 1)) (pg_sub (pv 0) (pe_int) set_list))
        (pss_one (ps_ret (pv 2))))) pss_nil)
        (pss_cons (ps_asg (pe_op (op_uAdd (K := K) rfl) (pe_ix (ix_u (K := K) rfl) (pv 0) (pe_int) (fun _ _ => rfl)) (pe_int)) (pg_sub (pv 0) (pe_int) set_list))
        (pss_cons (ps_set (i := 3) sc__law_take.nd rfl (Or.inl rfl) (pe_ix (ix_u (K := K) rfl) (pe_lst (pa_cons (pe_int) (pa_cons (pe_int) (pa_cons (pe_int) (pa_cons (pe_int) (pa_cons (pe_int) pa_nil)))))) (pe_op op_uMod (pe_callTy call_uInt (by rfl) T.n_int (by decide +kernel) (pa_cons (pe_ix (ix_u (K := K) rfl) (pv 0) (pe_int) (fun _ _ => rfl)) pa_nil)) (pe_int)) (fun _ _ => rfl)))
        (pss_cons (ps_set (i := 4) sc__law_take.nd rfl (Or.inl rfl) (pe_op op_uMod (pe_callTy call_uInt (by rfl) T.n_int (by decide +kernel) (pa_cons (pe_op op_uPow (pe_callTy call_uInt (by rfl) T.n_int (by decide +kernel) (pa_cons (pe_op (op_uAdd (K := K) rfl) (pe_op (op_uAdd (K := K) rfl) (pe_ix (ix_u (K := K) rfl) (pv 0) (pe_int) (fun _ _ => rfl)) (pe_op op_uMul (pe_op op_uMul (pe_int) (pe_ix (ix_u (K := K) rfl) (pv 0) (pe_int) (fun _ _ => rfl))) (pe_ix (ix_u (K := K) rfl) (pv 0) (pe_int) (fun _ _ => rfl)))) (pe_int)) pa_nil)) (pe_int)) pa_nil)) (pv 3)))
        (pss_cons (ps_set (i := 4) sc__law_take.nd rfl (Or.inl rfl) (pe_op op_uMod (pe_callTy call_uInt (by rfl) T.n_int (by decide +kernel) (pa_cons (pe_op op_uMul (pv 4) (pe_op (op_uAdd (K := K) rfl) (pe_op op_uMod (pe_callTy call_uInt (by rfl) T.n_int (by decide +kernel) (pa_cons (pv 4) pa_nil)) (pe_int)) (pe_op op_uMul (pe_int) (pe_ix (ix_u (K := K) rfl) (pv 0) (pe_int) (fun _ _ => rfl))))) pa_nil)) (pe_int)))
        (pss_one (ps_ret (pe_op op_uMod (pe_callTy call_uInt (by rfl) T.n_int (by decide +kernel) (pa_cons (pe_op op_uDiv (pv 4) (pe_int)) pa_nil)) (pv 1))))))))), ?_⟩
    walk_at "st"
    walk_at "go"
    walk_at "c2"
    · walk_at "go"
      refine kk _ _ (Int.emod_nonneg _ (by omega)) (Int.emod_lt_of_pos _ u0) ⟨ow / u, s, k, upd_same, Int.ediv_nonneg h1 (by omega), ?_, h3, h4, by omega⟩ SB.upd
      exact Int.lt_of_le_of_lt (Int.ediv_le_self _ h1) h2
    · walk_at "go"
      refine ⟨by decide, fun a na => ?_⟩
      walk_at "go"
      refine U.g_ix5 (SqL.of (by walk_at "hp")) (by decide) (Int.emod_nonneg _ (by decide)) (Int.emod_lt_of_pos _ (by decide)) fun pr pr0 pr1 => ?_
      walk_at "go"
      refine U.g_powB h3 h4 (by decide) (by decide) (by omega) (by omega) (by decide) (by decide) ?_
      walk_at "go"
      exact kk _ _ (Int.emod_nonneg _ (by omega)) (Int.emod_lt_of_pos _ u0) ⟨ow, s, k + 1, by walk_at "hp", h1, h2, h3, h4, by omega⟩ (SB.upd.new na)
theorem sc__law_of : FnScope ["pot", "some"] ["pot", "some"] (defScope s__law_of) := ⟨rfl, rfl, rfl, by decide +kernel, rfl, by decide +kernel, by decide +kernel⟩
/-- some[take]: any item of a list, a tuple, a text -/
def sp_of (K : PySem.W.Frag) : Sp := fun vs H Q _ => ∃ (p : Addr) (x : V) (n : Nat), vs = [.ref p, x] ∧ PotAt H p (n + 1) ∧
  ((∃ (b : Addr) (ys : List V), x = .ref b ∧ (SqL K H b ys ∨ SqT K H b ys) ∧ 0 < ys.length ∧ ys.length ≤ 1000000 ∧ (∀ H', SB p H H' → SqL K H' b ys ∨ SqT K H' b ys) ∧ ∀ (j : Nat) (y : V) (H' : Hp), ys[j]? = some y → PotAt H' p n → SB p H H' → Q y H') ∨
   (∃ z : Str, x = .str z ∧ 0 < z.length ∧ z.length ≤ 1000000 ∧ ∀ (c : Nat) (H' : Hp), c ∈ z.cps.toList → PotAt H' p n → SB p H H' → Q (.str ⟨#[c]⟩) H'))
theorem ok__law_of (T : Tx K mg) : FnOk P w K mg base CX0 2 T.a__law_of T.fd__law_of ["pot", "some"] (sp_of K) := by
  refine T.F__law_of.ok sc__law_of (fun vs H Q E h => ?_) (fun cdv A outer s H vs Q E hr h => ?_)
  · obtain ⟨p, x, n, rfl, _⟩ := h
    rfl
  · obtain ⟨p, x, n, rfl, hp, kk⟩ := h
    have hu := hu_of hr
    have hu64 := hr.units
    refine ⟨_, (pss_one (ps_ret (pe_ix (ix_u (K := K) rfl) (pv 1) (pe_call (ok__law_take T) (hr.mono (by decide)) rfl T.m__law_take T.F__law_take.kp (b__law_take T) .nil pass0 (pa_cons (pv 0) (pa_cons (pe_callB (call_uLen (K := K) rfl) (by rfl) T.n_len (by decide +kernel) (pa_cons (pv 1) pa_nil)) pa_nil))) (fun _ _ => rfl)))), ?_⟩
    walk_at "st"
    walk_at "go"
    rcases kk with ⟨b, ys, rfl, hb, l0, l1, st, kk⟩ | ⟨z, rfl, l0, l1, kk⟩
    · refine U.g_lenL hb ?_
      walk_at "go"
      refine ⟨p, ys.length, n, rfl, by omega, by omega, hp, fun r H' r0 r1 hp' sb => ?_⟩
      have e : r = ((r.toNat : Nat) : Int) := by omega
      have hj : r.toNat < ys.length := by omega
      refine U.g_ix (st H' sb) (at_of e (List.getElem?_eq_getElem hj)) ?_
      exact kk _ _ _ (List.getElem?_eq_getElem hj) hp' sb
    · refine U.g_lenS (Nat.le_trans l1 (by decide)) ?_
      walk_at "go"
      refine ⟨p, z.length, n, rfl, by omega, by omega, hp, fun r H' r0 r1 hp' sb => ?_⟩
      have hj : r.toNat < z.cps.toList.length := by rw [Array.length_toList]; show r.toNat < z.length; omega
      refine U.g_ixS (Nat.le_trans l1 (by decide)) (c := z.cps.toList[r.toNat]) ?_ ?_
      · exact U.at_nat (show r = ((r.toNat : Nat) : Int) by omega) (List.getElem?_eq_getElem hj)
      · exact kk _ _ (List.getElem_mem hj) hp' sb
theorem sc__law_pot : FnScope ["script", "place", "cell", "own", "small"] ["script", "place"] (defScope s__law_pot) := ⟨rfl, rfl, rfl, by decide +kernel, rfl, by decide +kernel, by decide +kernel⟩
def sp_pot (K : PySem.W.Frag) : Sp := fun vs H Q _ => ∃ (a : Addr) (ns : List Int) (i : Int), vs = [.ref a, .int i] ∧ SqL K H a (ns.map V.int) ∧ 0 ≤ i ∧ i ≤ 100 ∧ ∀ (p : Addr) (H' : Hp), H p = none → Same H H' → PotAt H' p 1000000 → Q (.ref p) H'
theorem ok__law_pot (T : Tx K mg) : FnOk P w K mg base CX0 1 T.a__law_pot T.fd__law_pot ["script", "place"] (sp_pot K) := by
  refine T.F__law_pot.ok sc__law_pot (fun vs H Q E h => ?_) (fun cdv A outer s H vs Q E hr h => ?_)
  · obtain ⟨a, ns, i, rfl, _⟩ := h
    rfl
  · obtain ⟨a, ns, i, rfl, ha, i0, i1, kk⟩ := h
    have hu := hu_of hr
    have hu64 := hr.units
    refine ⟨_, (pss_cons (ps_set (i := 2) sc__law_pot.nd rfl (Or.inl rfl) (pe_ifExp (pt_cmpR op_uLt (pv 1) (pe_callB (call_uLen (K := K) rfl) (by rfl) T.n_len (by decide +kernel) (pa_cons (pv 0) pa_nil)) (nomark _)) (pe_ix (ix_u (K := K) rfl) (pv 0) (pv 1) (fun _ _ => rfl)) (pe_op (op_uAdd (K := K) rfl) (pe_op (op_uAdd (K := K) rfl) (pe_op op_uMod (pe_callB (call_uSum (K := K) rfl rfl) (by rfl) T.n_sum (by decide +kernel) (pa_cons (pe_slice (sl_u (K := K) rfl) (pv 0) po_none (po_some (pe_int))) pa_nil)) (pe_int)) (pe_op op_uMul (pe_int) (pv 1))) (pe_int))))
        (pss_cons (ps_set (i := 3) sc__law_pot.nd rfl (Or.inl rfl) (pe_op op_uMul (pe_op op_uMod (pe_callTy call_uInt (by rfl) T.n_int (by decide +kernel) (pa_cons (pe_callB call_uAbs (by rfl) T.n_abs (by decide +kernel) (pa_cons (pv 2) pa_nil)) pa_nil)) (pe_op op_uPow (pe_op op_uPow (pe_int) (pe_int)) (pe_int))) (pe_callTy call_uInt (by rfl) T.n_int (by decide +kernel) (pa_cons (pe_cmpR op_uGe (pe_callB call_uAbs (by rfl) T.n_abs (by decide +kernel) (pa_cons (pv 2) pa_nil)) (pe_op op_uPow (pe_int) (pe_int)) (nomark _)) pa_nil))))
        (pss_cons (ps_set (i := 4) sc__law_pot.nd rfl (Or.inl rfl) (pe_op op_uMod (pe_callTy call_uInt (by rfl) T.n_int (by decide +kernel) (pa_cons (pv 2) pa_nil)) (pe_int)))
        (pss_one (ps_ret (pe_lst (pa_cons (pv 3) (pa_cons (pe_op op_uMod (pe_callTy call_uInt (by rfl) T.n_int (by decide +kernel) (pa_cons (pe_op (op_uAdd (K := K) rfl) (pe_op (op_uAdd (K := K) rfl) (pe_op op_uMul (pv 4) (pe_int)) (pe_op op_uMul (pe_op op_uMul (pe_int) (pv 1)) (pv 1))) (pe_int)) pa_nil)) (pe_int)) (pa_cons (pe_int) pa_nil))))))))), ?_⟩
    walk_at "st"
    refine U.g_seq (U.g_asg (U.g_cut (fun v H1 => (∃ c : Int, v = .int c) ∧ Same H H1) (fun R kR => ?_) ?_))
    · walk_at "go"
      refine U.g_lenL (Or.inl ha) ?_
      walk_at "go"
      refine U.g_2 (fun c => ?_) (fun c => ?_)
      · walk_at "go"
        rw [List.length_map] at c
        have c := of_decide_eq_true c
        have hj : i.toNat < ns.length := by omega
        refine U.g_ix (Or.inl ha) (U.at_nat (show i = ((i.toNat : Nat) : Int) by omega) (by rw [List.getElem?_map, List.getElem?_eq_getElem hj]; rfl)) ?_
        exact kR _ _ ⟨⟨_, rfl⟩, Same.refl _⟩
      · walk_at "go"
        refine U.g_slL ha fun q nq => ?_
        rw [U.cut1]
        walk_at "go"
        refine U.g_sum (SqL.of upd_same) ?_
        walk_at "go"
        exact kR _ _ ⟨⟨_, rfl⟩, U.same_new nq⟩
    · rintro v H1 ⟨⟨c, rfl⟩, s1⟩
      walk_at "go"
      refine ⟨by show 3 ≤ sizeLine; decide, fun q nq => ?_⟩
      obtain ⟨m0, m1⟩ := U.mulB_bd (b := decide (10 ^ (18 : Int).toNat ≤ (if c < 0 then -c else c))) (Int.emod_nonneg (if c < 0 then -c else c) (show ((10 : Int) ^ (60 : Int).toNat) ^ (5 : Int).toNat ≠ 0 by decide +kernel)) (Int.emod_lt_of_pos (if c < 0 then -c else c) (show (0 : Int) < ((10 : Int) ^ (60 : Int).toNat) ^ (5 : Int).toNat by decide +kernel))
      refine kk q _ (s1.free nq) (fun b o e => U.same_new nq b o (s1 b o e)) ⟨_, _, 0, upd_same, m0, Int.lt_of_lt_of_le m1 (by decide +kernel), Int.emod_nonneg _ (by decide), ?_, by decide⟩
      exact Int.lt_of_lt_of_le (Int.emod_lt_of_pos _ (by decide)) (by decide)
theorem sc__law_cells : FnScope ["script", "most"] ["script", "most"] (defScope s__law_cells) := ⟨rfl, rfl, rfl, by decide +kernel, rfl, by decide +kernel, by decide +kernel⟩
def sp_cells (K : PySem.W.Frag) : Sp := fun vs H Q _ => ∃ (a : Addr) (ns : List Int) (m : Int), vs = [.ref a, .int m] ∧ SqL K H a (ns.map V.int) ∧ ns.length ≤ 63 ∧ 1 ≤ m ∧ m ≤ 100 ∧ ∀ (p : Addr) (c : Nat), H p = none → 1 ≤ c → c ≤ 100 → Q (.ref p) (upd H p (.lst (rgV 0 c)))
theorem ok__law_cells (T : Tx K mg) : FnOk P w K mg base CX0 1 T.a__law_cells T.fd__law_cells ["script", "most"] (sp_cells K) := by
  refine T.F__law_cells.ok sc__law_cells (fun vs H Q E h => ?_) (fun cdv A outer s H vs Q E hr h => ?_)
  · obtain ⟨a, ns, m, rfl, _⟩ := h
    rfl
  · obtain ⟨a, ns, m, rfl, ha, hl, m0, m1, kk⟩ := h
    have hu := hu_of hr
    have hu64 := hr.units
    refine ⟨_, (pss_one (ps_ret (pe_listRg rfl rfl T.n_list (prg_1 rfl T.n_range (pe_callB (call_uMax rfl) (by rfl) T.n_max (by decide +kernel) (pa_cons (pe_int) (pa_cons (pe_callB (call_uMin rfl) (by rfl) T.n_min (by decide +kernel) (pa_cons (pv 1) (pa_cons (pe_callB (call_uLen (K := K) rfl) (by rfl) T.n_len (by decide +kernel) (pa_cons (pv 0) pa_nil)) pa_nil))) pa_nil))))))), ?_⟩
    walk_at "st"
    walk_at "go"
    refine U.g_lenL (Or.inl ha) ?_
    walk_at "go"
    have e : ∃ c : Nat, (if (if ((List.map V.int ns).length : Int) < m then ((List.map V.int ns).length : Int) else m) > 1 then if ((List.map V.int ns).length : Int) < m then ((List.map V.int ns).length : Int) else m else 1) = (c : Int) ∧ 1 ≤ c ∧ c ≤ 100 := by
      rw [List.length_map]
      by_cases h1 : (ns.length : Int) < m
      · rw [if_pos h1]
        by_cases h2 : (ns.length : Int) > 1
        · rw [if_pos h2]; exact ⟨ns.length, rfl, by omega, by omega⟩
        · rw [if_neg h2]; exact ⟨1, rfl, by omega, by omega⟩
      · rw [if_neg h1]
        by_cases h2 : m > 1
        · rw [if_pos h2]; exact ⟨m.toNat, by omega, by omega, by omega⟩
        · rw [if_neg h2]; exact ⟨1, rfl, by omega, by omega⟩
    obtain ⟨c, e, c1, c2⟩ := e
    rw [e]
    exact ⟨RgOk.of_le (by omega) (by omega) (by omega) (by omega), fun q nq => kk q c nq c1 c2⟩
end
end Toy

namespace Toy
open PySem L2 U M
theorem PotAt.ts {H H' : Hp} {p : Addr} {n : Nat} (h : PotAt H p n) (s : SB p H H') : TS H H' := fun a xs e => s a _ e (by
  obtain ⟨_, _, _, q, _⟩ := h
  exact ne_of e q (by intro z; cases z))
theorem PotAt.new {H : Hp} {p a : Addr} {n : Nat} {o : HO} (h : PotAt H p n) (na : H a = none) : PotAt (upd H a o) p n := by
  obtain ⟨x, y, z, q, r⟩ := h
  exact ⟨x, y, z, get_new na q, r⟩
theorem PotAt.put {H : Hp} {p a : Addr} {n : Nat} {o : HO} (h : PotAt H p n) (na : p ≠ a) : PotAt (upd H a o) p n := by
  obtain ⟨x, y, z, q, r⟩ := h
  exact ⟨x, y, z, get_ne na q, r⟩
theorem PotAt.same {H H' : Hp} {p : Addr} {n : Nat} (h : PotAt H p n) (s : Same H H') : PotAt H' p n := by
  obtain ⟨x, y, z, q, r⟩ := h
  exact ⟨x, y, z, s _ _ q, r⟩
theorem pot_ne {H : Hp} {p a : Addr} {n : Nat} (hp : PotAt H p n) (na : H a = none) : a ≠ p := by
  obtain ⟨_, _, _, q, _⟩ := hp
  exact (ne_of_none q na).symm
end Toy

namespace Toy
open PySem L2 U M LM
section
variable {P : Program} {w : World} {K : PySem.W.Frag} {mg : Str → Option Value} {base : Heap}
theorem sc_Ladder___init__ : FnScope ["self", "values", "pairs", "value", "place", "_"] ["self", "values"] (defScope s_Ladder___init__) := ⟨rfl, rfl, rfl, by decide +kernel, rfl, by decide +kernel, by decide +kernel⟩
def sp_Ladder_init (CL : Addr) : Sp := fun vs H Q _ => ∃ (a dx b : Addr) (ns : List Int), vs = [.ref a, .ref b] ∧ H a = some (.ins CL dx []) ∧ H b = some (.tup (ns.map V.int)) ∧ ns.length ≤ 1000 ∧ ∀ (la lp ls : Addr) (row pl : List Int) (H' : Hp), LadX CL H' a dx la lp ls row pl → RowOk ns row pl → (∀ c o, c ≠ a → H c = some o → H' c = some o) → Q .non H'
theorem ok_Ladder___init__ (T : Tx K mg) : FnOk P w K mg base CX0 1 T.a_Ladder___init__ T.fd_Ladder___init__ ["self", "values"] (sp_Ladder_init T.C_Ladder) := by
  refine T.F_Ladder___init__.ok sc_Ladder___init__ (fun vs H Q E h => ?_) (fun cdv A outer s H vs Q E hr h => ?_)
  · obtain ⟨a, dx, b, ns, rfl, _⟩ := h
    rfl
  · obtain ⟨a, dx, b, ns, rfl, ha, hb, hn, kk⟩ := h
    have hu := hu_of hr
    have hu64 := hr.units
    refine ⟨_, (pss_cons (ps_set (i := 2) sc_Ladder___init__.nd rfl (Or.inl rfl) (pe_callB (U.call_uSortP (K := K) rfl) (by rfl) T.n_sorted (by decide +kernel) (pa_cons (pe_lc rfl sc_Ladder___init__.nd (ET.pi_enumT (K := K) rfl (by rfl) T.n_enumerate (pa_cons (pv 1) pa_nil)) (blkOk_by (own := [("place", 4), ("value", 3)]) (N := ["self", "values", "pairs", "value", "place", "_"]) (sc := defScope s_Ladder___init__) (by decide +kernel)) (fun _ _ _ _ _ => (u_gtup (K := K) (n := 2) rfl rfl (pgs_cons (pg_name (i := 4) sc_Ladder___init__.nd rfl (Or.inl rfl)) (pgs_cons (pg_name (i := 3) sc_Ladder___init__.nd rfl (Or.inl rfl)) pgs_nil)))) (fun _ _ _ _ _ => pts_nil) (fun _ _ _ _ _ => (pe_tup (pa_cons (pv 3) (pa_cons (pv 4) pa_nil))))) pa_nil)))
        (pss_cons (ps_fld (pv 0) (pe_lc rfl sc_Ladder___init__.nd (u_list (K := K) rfl (pv 2)) (blkOk_by (own := [("value", 3), ("_", 5)]) (N := ["self", "values", "pairs", "value", "place", "_"]) (sc := defScope s_Ladder___init__) (by decide +kernel)) (fun _ _ _ _ _ => (u_gtup (K := K) (n := 2) rfl rfl (pgs_cons (pg_name (i := 3) sc_Ladder___init__.nd rfl (Or.inl rfl)) (pgs_cons (pg_name (i := 5) sc_Ladder___init__.nd rfl (Or.inl rfl)) pgs_nil)))) (fun _ _ _ _ _ => pts_nil) (fun _ _ _ _ _ => (pv 3))) rfl)
        (pss_cons (ps_fld (pv 0) (pe_lc rfl sc_Ladder___init__.nd (u_list (K := K) rfl (pv 2)) (blkOk_by (own := [("_", 5), ("place", 4)]) (N := ["self", "values", "pairs", "value", "place", "_"]) (sc := defScope s_Ladder___init__) (by decide +kernel)) (fun _ _ _ _ _ => (u_gtup (K := K) (n := 2) rfl rfl (pgs_cons (pg_name (i := 5) sc_Ladder___init__.nd rfl (Or.inl rfl)) (pgs_cons (pg_name (i := 4) sc_Ladder___init__.nd rfl (Or.inl rfl)) pgs_nil)))) (fun _ _ _ _ _ => pts_nil) (fun _ _ _ _ _ => (pv 4))) rfl)
        (pss_cons (ps_fld (pv 0) (pe_lst (pa_cons (pe_int) pa_nil)) rfl)
        (pss_one (ps_for PassesOwn.never rfl (u_list (K := K) rfl (u_fld (K := K) rfl (pv 0) rfl)) (pg_name (i := 3) sc_Ladder___init__.nd rfl (Or.inl rfl)) (pss_one (ps_expr (pe_bm PySem.F.plainAttrs_list PySem.F.slot_list_append PySem.F.type_list_append mt_append (u_fld (K := K) rfl (pv 0) rfl) (pa_cons (pe_op (op_uAdd (K := K) rfl) (pe_ix (ix_u (K := K) rfl) (u_fld (K := K) rfl (pv 0) rfl) (pe_un op_uNeg (pe_int)) (fun _ _ => rfl)) (pv 3)) pa_nil)))))))))), ?_⟩
    walk_at "st"
    walk_at "go"
    refine ⟨b, ns.map V.int, rfl, SqT.of hb, ?_⟩
    refine lcI_by (ET.walk_enumT (K := K) (a := b) (xs := ns.map V.int)) (by rw [List.length_map]; omega) fun E0 nE => ⟨fun i acc H' => Same H H' ∧ TupL H' acc (((List.range i).map fun j : Nat => ((ns[j]?).getD 0, (j : Int))).map pairV), ⟨U.same_new nE, .nil⟩, fun i acc H' _ p => (SqT.of (p.1 _ _ hb)), ?turn, fun acc H1 hE ⟨s1, t1⟩ => ?rest⟩
    case turn =>
      rintro i x acc H' H'' A B hi hacc ⟨s1, t1⟩ ⟨t, a1, a2, rfl, nt, rfl, e1, e2⟩ kA kB
      cases e1
      rw [List.length_map] at hi
      have e2 : (ns.map V.int)[i]? = some a2 := e2
      rw [List.getElem?_map, List.getElem?_eq_getElem hi] at e2
      cases e2
      walk_at "go"
      refine ⟨rfl, ?_⟩
      walk_at "go"
      refine ⟨by show 2 ≤ sizeLine; decide, fun q nq => ?_⟩
      have sT := U.same_new (o := .tup [.int (i : Int), .int ns[i]]) nt
      have sq := U.same_new (o := .tup [.int ns[i], .int (i : Int)]) nq
      refine kA _ _ (sq _ _ (sT _ _ hacc)) ⟨same_mut (s1.trans (sT.trans sq)) nE, ?_⟩
      have ts : TS H' (upd (upd (upd H' t (.tup [.int (i : Int), .int ns[i]])) q (.tup [.int ns[i], .int (i : Int)])) E0 (.lst (acc ++ [.ref q]))) := ((TS.of sT).trans (TS.of sq)).trans (TS.lst (sq _ _ (sT _ _ hacc)))
      rw [List.range_succ, List.map_append, List.map_append]
      refine prd_snoc (t1.mono ts) ⟨q, rfl, ?_⟩
      rw [upd_ne (ne_of upd_same (sq _ _ (sT _ _ hacc)) (by intro z; cases z)), upd_same]
      show some (HO.tup [V.int ns[i], V.int (i : Int)]) = some (HO.tup [V.int ((ns[i]?).getD 0), V.int (i : Int)])
      rw [List.getElem?_eq_getElem hi]
      rfl
    case rest =>
      rw [List.length_map] at t1
      obtain ⟨k1, k2⟩ := key_prd t1
      walk_at "go"
      refine ⟨E0, acc, keyAt H1, rfl, SqL.of hE, k2, fun ys p so st np => ?_⟩
      have ok := RowOk.of (ns := ns) k1 so st.perm
      have k3 : ∀ v ∈ ys, ∃ t, v = V.ref t ∧ H1 t = some (.tup [.int (keyAt H1 v).1, .int (keyAt H1 v).2]) := fun v hv => k2 v (st.perm.mem_iff.mp hv)
      have ly : ys.length = ns.length := by have := ok.len; rw [List.length_map] at this; exact this
      have sp := U.same_new (o := .lst ys) np
      have s2 := s1.trans sp
      walk_at "go"
      refine e_list (SqL.of upd_same) ?_
      have fm : ∀ f : V → Int, ys.filterMap (fun v => some (V.int (f v))) = (ys.map f).map V.int := fun f => by rw [fm_some, List.map_map]; rfl
      have row0 : ∀ {Hn : Hp}, Same (upd H1 p (.lst ys)) Hn → ∀ v ∈ ys, ∃ t, v = V.ref t ∧ Hn t = some (.tup [.int (keyAt H1 v).1, .int (keyAt H1 v).2]) := fun s' v hv => by
        obtain ⟨t, e, ht⟩ := k3 v hv
        exact ⟨t, e, s' _ _ (sp _ _ ht)⟩
      refine lcI_list (SqL.of upd_same) (by omega) (fun v => some (.int (keyAt H1 v).1)) (fun v H' A B hv s' kA kB => ?t1) fun la H2 nla s3 hla => ?c1
      case t1 =>
        obtain ⟨t, rfl, ht⟩ := row0 s' v hv
        walk_at "go"
        refine ⟨rfl, ?_⟩
        walk_at "go"
        exact kA _ _ rfl (Same.refl _)
      rw [fm] at hla
      have s4 := s2.trans s3
      have ha2 := s4 _ _ ha
      walk_at "go"
      refine ⟨a, T.C_Ladder, dx, [], rfl, ha2, T.cl_Ladder, T.na_Ladder_ascending, by decide, ?_⟩
      have lna : la ≠ a := ne_of hla ha2 (by intro z; cases z)
      have pna : p ≠ a := ne_of (s3 _ _ upd_same) ha2 (by intro z; cases z)
      have hp2 : H2 p = some (.lst ys) := s3 _ _ upd_same
      have row2 : ∀ {Hn : Hp}, (∀ c o, c ≠ a → H2 c = some o → Hn c = some o) → ∀ v ∈ ys, ∃ t, v = V.ref t ∧ Hn t = some (.tup [.int (keyAt H1 v).1, .int (keyAt H1 v).2]) := fun q v hv => by
        obtain ⟨t, e, ht⟩ := row0 s3 v hv
        exact ⟨t, e, q _ _ (ne_of ht ha2 (by intro z; cases z)) ht⟩
      have o3 : ∀ c o, c ≠ a → H2 c = some o → (upd H2 a (.ins T.C_Ladder dx (putF "ascending" (.ref la) []))) c = some o := fun c o hc e => (upd_ne hc).trans e
      have a3 : (upd H2 a (.ins T.C_Ladder dx (putF "ascending" (.ref la) []))) a = some (.ins T.C_Ladder dx [("ascending", .ref la)]) := upd_same
      generalize (upd H2 a (.ins T.C_Ladder dx (putF "ascending" (.ref la) []))) = H3 at o3 a3 ⊢
      walk_at "go"
      refine e_list (SqL.of (o3 _ _ pna hp2)) ?_
      refine lcI_list (SqL.of (o3 _ _ pna hp2)) (by omega) (fun v => some (.int (keyAt H1 v).2)) (fun v H' A B hv s' kA kB => ?t2) fun lp H4 nlp s5 hlp => ?c2
      case t2 =>
        obtain ⟨t, rfl, ht⟩ := row2 (fun c o hc e => s' _ _ (o3 c o hc e)) v hv
        walk_at "go"
        refine ⟨rfl, ?_⟩
        walk_at "go"
        exact kA _ _ rfl (Same.refl _)
      rw [fm] at hlp
      have ha4 := s5 _ _ a3
      walk_at "go"
      refine ⟨a, T.C_Ladder, dx, _, rfl, ha4, T.cl_Ladder, T.na_Ladder_places, by show 1 < 1000; decide, ?_⟩
      have e5 : putF ("places" : Str) (.ref lp) ([("ascending", .ref la)] : List (Str × V)) = [(("ascending" : Str), V.ref la), ("places", V.ref lp)] := by rw [putF_skip (by decide +kernel)]; rfl
      rw [e5]
      have lpa : lp ≠ a := ne_of hlp ha4 (by intro z; cases z)
      have o5 : ∀ c o, c ≠ a → H4 c = some o → (upd H4 a (.ins T.C_Ladder dx [(("ascending" : Str), V.ref la), ("places", V.ref lp)])) c = some o := fun c o hc e => (upd_ne hc).trans e
      have a5 : (upd H4 a (.ins T.C_Ladder dx [(("ascending" : Str), V.ref la), ("places", V.ref lp)])) a = some (.ins T.C_Ladder dx [(("ascending" : Str), V.ref la), ("places", V.ref lp)]) := upd_same
      generalize (upd H4 a (.ins T.C_Ladder dx [(("ascending" : Str), V.ref la), ("places", V.ref lp)])) = H5 at o5 a5 ⊢
      walk_at "go"
      refine ⟨by decide, fun ls nls => ?_⟩
      walk_at "go"
      have lsa : ls ≠ a := fun z => by rw [z, a5] at nls; cases nls
      refine ⟨a, T.C_Ladder, dx, _, rfl, (upd_ne (Ne.symm lsa)).trans a5, T.cl_Ladder, T.na_Ladder_sums, by show 2 < 1000; decide, ?_⟩
      have e6 : putF ("sums" : Str) (.ref ls) [(("ascending" : Str), V.ref la), ("places", V.ref lp)] = ladF la lp ls := by rw [putF_skip (by decide +kernel), putF_skip (by decide +kernel)]; rfl
      rw [e6]
      have o6 : ∀ c o, c ≠ a → H5 c = some o → (upd (upd H5 ls (.lst [V.int 0])) a (.ins T.C_Ladder dx (ladF la lp ls))) c = some o := fun c o hc e => (upd_ne hc).trans (U.same_new nls _ _ e)
      have a6 : (upd (upd H5 ls (.lst [V.int 0])) a (.ins T.C_Ladder dx (ladF la lp ls))) a = some (.ins T.C_Ladder dx (ladF la lp ls)) := upd_same
      have l6 : (upd (upd H5 ls (.lst [V.int 0])) a (.ins T.C_Ladder dx (ladF la lp ls))) ls = some (.lst [V.int 0]) := (upd_ne lsa).trans upd_same
      generalize (upd (upd H5 ls (.lst [V.int 0])) a (.ins T.C_Ladder dx (ladF la lp ls))) = H6 at o6 a6 l6 ⊢
      have off : ∀ c o, c ≠ a → H c = some o → H6 c = some o ∧ c ≠ ls := fun c o hc e => by
        have q := o5 c o hc (s5 _ _ (o3 c o hc (s4 _ _ e)))
        exact ⟨o6 c o hc q, ne_of_none q nls⟩
      have hla6 : H6 la = some (.lst ((ys.map fun v => (keyAt H1 v).1).map V.int)) ∧ la ≠ ls := by
        have q := o5 _ _ lna (s5 _ _ (o3 _ _ lna hla))
        exact ⟨o6 _ _ lna q, ne_of_none q nls⟩
      have hlp6 : H6 lp = some (.lst ((ys.map fun v => (keyAt H1 v).2).map V.int)) ∧ lp ≠ ls := by
        have q := o5 _ _ lpa hlp
        exact ⟨o6 _ _ lpa q, ne_of_none q nls⟩
      generalize hrow : (ys.map fun v => (keyAt H1 v).1) = row at *
      generalize hpl : (ys.map fun v => (keyAt H1 v).2) = pl at *
      walk_at "go"
      refine ⟨a, T.C_Ladder, dx, _, _, rfl, a6, T.cl_Ladder, T.na_Ladder_ascending, lad_a la lp ls, ?_⟩
      refine e_list (SqL.of hla6.1) ?_
      refine forI_by (walk_list (K := K) (a := la) (xs := row.map V.int)) (fun i σ' H' => ∃ (v3 : Option V), σ' = [some (.ref a), some (.ref b), some (.ref p), v3, none, none] ∧ H' ls = some (.lst ((sumsL row i).map V.int)) ∧ ∀ c o, c ≠ ls → H6 c = some o → H' c = some o) ⟨none, rfl, l6, fun c o _ e => e⟩ (fun i σ' H' _ ⟨_, _, _, k⟩ => SqL.of (k _ _ hla6.2 hla6.1)) ?ts ?td
      case ts =>
        rintro i x σ' H' _ hi ⟨v3, rfl, hl, k⟩ ⟨rfl, ex⟩
        rw [List.length_map] at hi
        rw [List.getElem?_map, rowF_at hi] at ex
        cases ex
        have als : a ≠ ls := ne_of a6 l6 (by intro z; cases z)
        have a7 := k _ _ als a6
        walk_at "go"
        refine ⟨a, T.C_Ladder, dx, _, _, rfl, a7, T.cl_Ladder, T.na_Ladder_sums, lad_s la lp ls, ?_⟩
        walk_at "go"
        refine ⟨a, T.C_Ladder, dx, _, _, rfl, a7, T.cl_Ladder, T.na_Ladder_sums, lad_s la lp ls, ?_⟩
        walk_at "go"
        obtain ⟨zs, ez⟩ := sumsL_end row i
        refine U.g_ix (Or.inl (SqL.of hl)) (at_end (map_end V.int ez)) ?_
        walk_at "go"
        refine U.g_appL hl (by rw [List.length_map]; unfold sumsL; rw [List.length_map, List.length_range]; have := ok.len; omega) ?_
        rw [show (sumsL row i).map V.int ++ [V.int (sm (rowF row) i + rowF row i)] = (sumsL row (i + 1)).map V.int by rw [sumsL_succ, List.map_append]; rfl]
        walk_at "go"
        exact ⟨_, rfl, upd_same, fun c o hc e => (upd_ne hc).trans (k c o hc e)⟩
      case td =>
        rintro σ' H' ⟨v3, rfl, hl, k⟩
        rw [List.length_map] at hl
        walk_at "go"
        have als : a ≠ ls := ne_of a6 l6 (by intro z; cases z)
        exact kk la lp ls row pl H' ⟨k _ _ als a6, k _ _ hla6.2 hla6.1, k _ _ hlp6.2 hlp6.1, hl⟩ ok fun c o hc e => k _ _ (off c o hc e).2 (off c o hc e).1
theorem sc_Ladder_loss : FnScope ["self", "begin", "end", "middle", "shown", "above", "below"] ["self", "begin", "end"] (defScope s_Ladder_loss) := ⟨rfl, rfl, rfl, by decide +kernel, rfl, by decide +kernel, by decide +kernel⟩
def sp_Ladder_loss (CL : Addr) : Sp := fun vs H Q _ => ∃ (x dx la lp ls : Addr) (row pl : List Int) (b e : Nat), vs = [.ref x, .int b, .int e] ∧ LadX CL H x dx la lp ls row pl ∧ row.Pairwise (· ≤ ·) ∧ b < e ∧ e ≤ row.length ∧ row.length ≤ 1000 ∧ Q (.int (cs (rowF row) b e)) H
theorem ok_Ladder_loss (T : Tx K mg) : FnOk P w K mg base CX0 1 T.a_Ladder_loss T.fd_Ladder_loss ["self", "begin", "end"] (sp_Ladder_loss T.C_Ladder) := by
  refine T.F_Ladder_loss.ok sc_Ladder_loss (fun vs H Q E h => ?_) (fun cdv A outer s H vs Q E hr h => ?_)
  · obtain ⟨x, dx, la, lp, ls, row, pl, b, e, rfl, _⟩ := h
    rfl
  · obtain ⟨x, dx, la, lp, ls, row, pl, b, e, rfl, lx, up, hbe, he, hl, kk⟩ := h
    have hu := hu_of hr
    have hu64 := hr.units
    refine ⟨_, (pss_cons (ps_set (i := 3) sc_Ladder_loss.nd rfl (Or.inl rfl) (pe_op op_uDiv (pe_op (op_uAdd (K := K) rfl) (pv 1) (pv 2)) (pe_int)))
        (pss_cons (ps_set (i := 4) sc_Ladder_loss.nd rfl (Or.inl rfl) (pe_ix (ix_u (K := K) rfl) (u_fld (K := K) rfl (pv 0) rfl) (pv 3) (fun _ _ => rfl)))
        (pss_cons (ps_set (i := 5) sc_Ladder_loss.nd rfl (Or.inl rfl) (pe_op op_uSub (pe_op op_uSub (pe_ix (ix_u (K := K) rfl) (u_fld (K := K) rfl (pv 0) rfl) (pv 2) (fun _ _ => rfl)) (pe_ix (ix_u (K := K) rfl) (u_fld (K := K) rfl (pv 0) rfl) (pv 3) (fun _ _ => rfl))) (pe_op op_uMul (pv 4) (pe_op op_uSub (pv 2) (pv 3)))))
        (pss_cons (ps_set (i := 6) sc_Ladder_loss.nd rfl (Or.inl rfl) (pe_op (op_uAdd (K := K) rfl) (pe_op op_uSub (pe_op op_uMul (pv 4) (pe_op op_uSub (pv 3) (pv 1))) (pe_ix (ix_u (K := K) rfl) (u_fld (K := K) rfl (pv 0) rfl) (pv 3) (fun _ _ => rfl))) (pe_ix (ix_u (K := K) rfl) (u_fld (K := K) rfl (pv 0) rfl) (pv 1) (fun _ _ => rfl))))
        (pss_one (ps_ret (pe_op (op_uAdd (K := K) rfl) (pv 5) (pv 6)))))))), ?_⟩
    walk_at "st"
    walk_at "go"
    rw [show ((b : Int) + (e : Int)) / 2 = (((b + e) / 2 : Nat) : Int) by omega]
    obtain ⟨h1, h2⟩ := mid_bd hbe
    have key := cs_sums (rowF_mon up) hbe he
    generalize (b + e) / 2 = m at *
    have hr1 : ∀ {i : Nat}, i < row.length → (row.map V.int)[i]? = some (V.int (rowF row i)) := fun h => by rw [List.getElem?_map, rowF_at h]; rfl
    have hs1 : ∀ {i : Nat}, i ≤ row.length → ((sumsL row row.length).map V.int)[i]? = some (V.int (sm (rowF row) i)) := fun h => by rw [List.getElem?_map, sumsL_at h]; rfl
    refine lx.fa T.cl_Ladder T.na_Ladder_ascending ?_
    walk_at "go"
    refine U.g_ix (Or.inl (SqL.of lx.ha)) (U.at_nat rfl (hr1 (show m < row.length by omega))) ?_
    walk_at "go"
    refine lx.fs T.cl_Ladder T.na_Ladder_sums ?_
    walk_at "go"
    refine U.g_ix (Or.inl (SqL.of lx.hs)) (U.at_nat rfl (hs1 (show e ≤ row.length by omega))) ?_
    walk_at "go"
    refine lx.fs T.cl_Ladder T.na_Ladder_sums ?_
    walk_at "go"
    refine U.g_ix (Or.inl (SqL.of lx.hs)) (U.at_nat rfl (hs1 (show m ≤ row.length by omega))) ?_
    walk_at "go"
    refine lx.fs T.cl_Ladder T.na_Ladder_sums ?_
    walk_at "go"
    refine U.g_ix (Or.inl (SqL.of lx.hs)) (U.at_nat rfl (hs1 (show m ≤ row.length by omega))) ?_
    walk_at "go"
    refine lx.fs T.cl_Ladder T.na_Ladder_sums ?_
    walk_at "go"
    refine U.g_ix (Or.inl (SqL.of lx.hs)) (U.at_nat rfl (hs1 (show b ≤ row.length by omega))) ?_
    walk_at "go"
    rw [← key]
    exact kk
theorem sc_Ladder_first_losses : FnScope ["self", "size", "found", "end", "begins", "begin"] ["self", "size"] (defScope s_Ladder_first_losses) := ⟨rfl, rfl, rfl, by decide +kernel, rfl, by decide +kernel, by decide +kernel⟩
def sp_first (CL : Addr) : Sp := fun vs H Q _ => ∃ (x dx la lp ls : Addr) (row pl : List Int) (s : Nat), vs = [.ref x, .int s] ∧ LadX CL H x dx la lp ls row pl ∧ row.Pairwise (· ≤ ·) ∧ row.length = pl.length ∧ row.length ≤ 1000 ∧ 1 ≤ s ∧ s ≤ 1000 ∧ ∀ (q : Addr) (H' : Hp), H q = none → Same H H' → H' q = some (.lst ((tab (cs (rowF row)) s row.length).map oV)) → Q (.ref q) H'
theorem ok_Ladder_first_losses (T : Tx K mg) : FnOk P w K mg base CX0 2 T.a_Ladder_first_losses T.fd_Ladder_first_losses ["self", "size"] (sp_first T.C_Ladder) := by
  refine T.F_Ladder_first_losses.ok sc_Ladder_first_losses (fun vs H Q E h => ?_) (fun cdv A outer s H vs Q E hr h => ?_)
  · obtain ⟨x, dx, la, lp, ls, row, pl, s, rfl, _⟩ := h
    rfl
  · obtain ⟨x, dx, la, lp, ls, row, pl, s, rfl, lx, up, hpl, hl, s1, s2, kk⟩ := h
    have hu := hu_of hr
    have hu64 := hr.units
    refine ⟨_, (pss_cons (ps_set (i := 2) sc_Ladder_first_losses.nd rfl (Or.inr rfl) (pe_lst (pa_cons (pe_int) pa_nil)))
        (pss_cons (ps_for PassesOwn.never rfl (pi_range2 (by rfl) T.n_range (pa_cons (pe_int) (pa_cons (pe_op (op_uAdd (K := K) rfl) (pe_callB (call_uLen (K := K) rfl) (by rfl) T.n_len (by decide +kernel) (pa_cons (u_fld (K := K) rfl (pv 0) rfl) pa_nil)) (pe_int)) pa_nil))) (pg_name (i := 3) sc_Ladder_first_losses.nd rfl (Or.inr rfl)) (pss_cons (ps_setLc (i := 4) rfl sc_Ladder_first_losses.nd rfl rfl (sw_true rfl rfl rfl (by decide +kernel)) (pi_range2 (by rfl) T.n_range (pa_cons (pe_callB (call_uMax rfl) (by rfl) T.n_max (by decide +kernel) (pa_cons (pe_int) (pa_cons (pe_op (op_uAdd (K := K) rfl) (pe_op op_uSub (pv 3) (pe_op op_uMul (pe_int) (pv 1))) (pe_int)) pa_nil))) (pa_cons (pe_op (op_uAdd (K := K) rfl) (pe_op op_uSub (pv 3) (pv 1)) (pe_int)) pa_nil))) (blkOk_by (own := [("begin", 5)]) (N := ["self", "size", "found", "end", "begins", "begin"]) (sc := defScope s_Ladder_first_losses) (by decide +kernel)) (fun _ _ _ _ _ => (pg_name (i := 5) sc_Ladder_first_losses.nd rfl (Or.inl rfl))) (fun _ _ _ _ _ => (pts_one (pt_cmpR op_notN (pe_ix (ix_u (K := K) rfl) (pv 2) (pv 5) (fun _ _ => rfl)) pe_non (nomark _)))) (fun _ _ _ _ _ => (pv 5)))
        (pss_one (ps_expr (pe_bm PySem.F.plainAttrs_list PySem.F.slot_list_append PySem.F.type_list_append mt_append (pv 2) (pa_cons (pe_callBK (MD.cr_minD (K := K) rfl rfl hu64) (by rfl) T.n_min (by decide +kernel) (pa_cons (pe_lc rfl sc_Ladder_first_losses.nd (u_list (K := K) rfl (pv 4)) (blkOk_by (own := [("begin", 5)]) (N := ["self", "size", "found", "end", "begins", "begin"]) (sc := defScope s_Ladder_first_losses) (by decide +kernel)) (fun _ _ _ _ _ => (pg_name (i := 5) sc_Ladder_first_losses.nd rfl (Or.inl rfl))) (fun _ _ _ _ _ => pts_nil) (fun _ _ _ _ _ => (pe_op (op_uAdd (K := K) rfl) (pe_ix (ix_u (K := K) rfl) (pv 2) (pv 5) (fun _ _ => rfl)) (pe_meth (pv 0) T.cl_Ladder T.me_Ladder_loss (ok_Ladder_loss T) (hr.mono (by decide)) (b_Ladder_loss T) .nil pass0 (pa_cons (pv 5) (pa_cons (pv 3) pa_nil)))))) pa_nil) (pk_cons (pe_non) pk_nil)) pa_nil))))))
        (pss_one (ps_ret (pv 2))))), ?_⟩
    walk_at "st"
    walk_at "go"
    refine ⟨by decide, fun q nq => ?_⟩
    have sq := U.same_new (o := .lst [V.int 0]) nq
    walk_at "go"
    refine (lx.same sq).fp T.cl_Ladder T.na_Ladder_places ?_
    walk_at "go"
    refine U.g_lenL (Or.inl (SqL.of (lx.same sq).hp)) ?_
    walk_at "go"
    rw [List.length_map, ← hpl]
    refine e_rng2 (by omega) ?_
    rw [show ((row.length : Int) + 1 - 1).toNat = row.length by omega]
    refine forI_by walk_range (fun i σ' H' => ∃ (v3 v4 v5 : Option V), σ' = [some (.ref x), some (.int (s : Int)), some (.ref q), v3, v4, v5] ∧ H' q = some (.lst ((tab (cs (rowF row)) s i).map oV)) ∧ Same H H') ⟨none, none, none, rfl, upd_same, sq⟩ (fun _ _ _ _ _ => trivial) ?ts ?td
    case td =>
      rintro σ' H' ⟨v3, v4, v5, rfl, hq, s'⟩
      walk_at "go"
      exact kk q H' nq s' hq
    case ts =>
      rintro i y σ' H' _ hi ⟨v3, v4, v5, rfl, hq, s'⟩ ⟨rfl, rfl⟩
      have lx' := lx.same s'
      have tl : ((tab (cs (rowF row)) s i).map oV).length = i + 1 := by rw [List.length_map, tab_len]
      have tat : ∀ {b : Nat}, b ≤ i → ((tab (cs (rowF row)) s i).map oV)[b]? = some (oV (F (cs (rowF row)) s b)) := fun h => by rw [List.getElem?_map, tab_at _ _ h]; rfl
      walk_at "go"
      rw [show (if 1 + (i : Int) - 2 * (s : Int) + 1 > 0 then 1 + (i : Int) - 2 * (s : Int) + 1 else 0) = ((i + 2 - 2 * s : Nat) : Int) by split <;> omega]
      refine e_rng2 (by omega) ?_
      rw [show (1 + (i : Int) - (s : Int) + 1 - ((i + 2 - 2 * s : Nat) : Int)).toNat = (i + 2 - s) - (i + 2 - 2 * s) by omega]
      refine lcI_rg (by omega) (fB (tab (cs (rowF row)) s i) (i + 2 - 2 * s)) (fun j H1 A B hj s3 kA kB => ?t1) fun L1 H1 nL1 s3 hL1 => ?c1
      case t1 =>
        walk_at "go"
        refine ⟨rfl, ?_⟩
        have hb : i + 2 - 2 * s + j ≤ i := by omega
        have pt := put_tab (cs (rowF row)) s hb
        walk_at "go"
        refine U.g_ix (Or.inl (SqL.of (s3 _ _ hq))) (U.at_nat (show (((i + 2 - 2 * s : Nat) : Int) + (j : Int)) = ((i + 2 - 2 * s + j : Nat) : Int) by omega) (tat hb)) ?_
        cases hF : F (cs (rowF row)) s (i + 2 - 2 * s + j) with
        | none =>
          refine ⟨rfl, _, rfl, U.g_F (kB ?_ _ (Same.refl _))⟩
          unfold fB
          rw [pt, hF]
          rfl
        | some u =>
          refine ⟨rfl, _, rfl, U.g_T ?_⟩
          walk_at "go"
          refine kA _ _ ?_ (Same.refl _)
          unfold fB
          rw [pt, hF]
          rfl
      have s01 := s'.trans s3
      have lx1 := lx.same s01
      have hq1 := s3 _ _ hq
      walk_at "go"
      refine e_list (SqL.of hL1) ?_
      refine lcI_list (SqL.of hL1) (Nat.le_trans (List.length_filterMap_le _ _) (by rw [List.length_range]; omega)) (hB (cs (rowF row)) (tab (cs (rowF row)) s i) (i + 1)) (fun v H2 A B hv s4 kA kB => ?t2) fun L2 H2 nL2 s4 hL2 => ?c2
      case t2 =>
        obtain ⟨j, hj, ej⟩ := List.mem_filterMap.mp hv
        rw [List.mem_range] at hj
        have hb : i + 2 - 2 * s + j ≤ i := by omega
        have pt := put_tab (cs (rowF row)) s hb
        unfold fB at ej
        rw [pt] at ej
        cases hF : F (cs (rowF row)) s (i + 2 - 2 * s + j) with
        | none => rw [hF] at ej; cases ej
        | some u =>
          rw [hF] at ej
          cases ej
          walk_at "go"
          refine ⟨rfl, ?_⟩
          walk_at "go"
          refine U.g_ix (Or.inl (SqL.of (s4 _ _ hq1))) (U.at_nat (show (((i + 2 - 2 * s : Nat) : Int) + (j : Int)) = ((i + 2 - 2 * s + j : Nat) : Int) by omega) (tat hb)) ?_
          rw [hF]
          walk_at "go"
          refine ⟨x, dx, _, rfl, (lx1.same s4).hi, lad_no (by decide +kernel) (by decide +kernel) (by decide +kernel) la lp ls, ?_⟩
          walk_at "go"
          refine ⟨x, dx, la, lp, ls, row, pl, i + 2 - 2 * s + j, i + 1, ?_, lx1.same s4, up, by omega, by omega, hl, ?_⟩
          · rw [show (((i + 2 - 2 * s : Nat) : Int) + (j : Int)) = ((i + 2 - 2 * s + j : Nat) : Int) by omega, show (1 + (i : Int)) = ((i + 1 : Nat) : Int) by omega]
            rfl
          · walk_at "go"
            refine kA _ _ ?_ (Same.refl _)
            show some (V.int ((put (tab (cs (rowF row)) s i) (((i + 2 - 2 * s : Nat) : Int) + (j : Int)).toNat).getD 0 + cs (rowF row) (((i + 2 - 2 * s : Nat) : Int) + (j : Int)).toNat (i + 1))) = _
            rw [show (((i + 2 - 2 * s : Nat) : Int) + (j : Int)).toNat = i + 2 - 2 * s + j by omega, pt, hF]
            rfl
      rw [cand_two] at hL2
      have key := F_near (c := cs (rowF row)) (s := s) s1 (n := i) (N := row.length) (fun b m e h1 h2 h3 => cs_cut (rowF_mon up) h1 h2 h3) (by omega)
      walk_at "go"
      have fin : ∀ v : V, v = oV (F (cs (rowF row)) s (i + 1)) → rAppend (V.ref q) [v] H2 fun _ H1 => ∃ (w3 w4 w5 : Option V), [some (V.ref x), some (V.int (s : Int)), some (V.ref q), some (V.int (1 + (i : Int))), some (V.ref L1), v5] = [some (V.ref x), some (V.int (s : Int)), some (V.ref q), w3, w4, w5] ∧ H1 q = some (.lst ((tab (cs (rowF row)) s (i + 1)).map oV)) ∧ Same H H1 := fun v hv => by
        refine U.g_appL (s4 _ _ hq1) (by rw [tl]; omega) ?_
        refine ⟨_, _, _, rfl, ?_, same_mut (s01.trans s4) nq⟩
        rw [upd_same, tab_succ, List.map_append, hv]
        rfl
      refine MD.g_minD (SqL.of hL2) (fun e => ?_) (fun m m1 m2 => ?_)
      · walk_at "go"
        refine fin _ ?_
        rw [← key, e]
        rfl
      · walk_at "go"
        refine fin _ ?_
        rw [← key, lmin_in m1 m2]
        rfl
theorem sc_ladder_of : FnScope ["values", "value"] ["values"] (defScope s_ladder_of) := ⟨rfl, rfl, rfl, by decide +kernel, rfl, by decide +kernel, by decide +kernel⟩
def sp_ladder_of (CL : Addr) : Sp := fun vs H Q _ => ∃ (b : Addr) (ns : List Int), vs = [.ref b] ∧ H b = some (.tup (ns.map V.int)) ∧ ns.length ≤ 200 ∧ (∀ n ∈ ns, -1000000 ≤ n ∧ n ≤ 1000000) ∧ ∀ (x dx la lp ls : Addr) (row pl : List Int) (H' : Hp), H x = none → Same H H' → LadX CL H' x dx la lp ls row pl → RowOk ns row pl → Q (.ref x) H'
theorem ok_ladder_of (T : Tx K mg) : FnOk P w K mg base CX0 3 T.a_ladder_of T.fd_ladder_of ["values"] (sp_ladder_of T.C_Ladder) := by
  refine T.F_ladder_of.ok sc_ladder_of (fun vs H Q E h => ?_) (fun cdv A outer s H vs Q E hr h => ?_)
  · obtain ⟨b, ns, rfl, _⟩ := h
    rfl
  · obtain ⟨b, ns, rfl, hb, hl, hn, kk⟩ := h
    have hu := hu_of hr
    have hu64 := hr.units
    refine ⟨_, (pss_cons (ps_if (PW.pt (pw_or (pt_not (pt_val (pe_callB (call_uIsi (K := K) rfl) (by rfl) T.n_isinstance (by decide +kernel) (pa_cons (pv 0) (pa_cons (u_ty (n := "tuple") (by rfl) T.n_tuple (by decide +kernel)) pa_nil))))) (pw_or1 (pt_cmpR op_uGt (pe_callB (call_uLen (K := K) rfl) (by rfl) T.n_len (by decide +kernel) (pa_cons (pv 0) pa_nil)) (u_constI (by rfl) T.m_MOST_VALUES) (nomark _))))) (pss_one (ps_never)) pss_nil)
        (pss_cons (ps_if (pt_not (pt_val (pe_callB (call_uAll (K := K) rfl rfl) (by rfl) T.n_all (by decide +kernel) (pa_cons (pe_lc rfl sc_ladder_of.nd (u_tup (K := K) rfl (pv 0)) (blkOk_by (own := [("value", 1)]) (N := ["values", "value"]) (sc := defScope s_ladder_of) (by decide +kernel)) (fun _ _ _ _ _ => (pg_name (i := 1) sc_ladder_of.nd rfl (Or.inl rfl))) (fun _ _ _ _ _ => pts_nil) (fun _ _ _ _ _ => (pe_call (ok_is_line_value T) (hr.mono (by decide)) rfl T.m_is_line_value T.F_is_line_value.kp (b_is_line_value T) .nil pass0 (pa_cons (pv 1) pa_nil)))) pa_nil)))) (pss_one (ps_never)) pss_nil)
        (pss_one (ps_ret (pe_make T.M_Ladder (ok_Ladder___init__ T) (hr.mono (by decide)) rfl T.m_Ladder (b_Ladder___init__ T) .nil pass0 (pa_cons (pv 0) pa_nil)))))), ?_⟩
    walk_at "st"
    walk_at "go"
    refine e_isi (ty_tup hb) (show kitB "tuple" "tuple" = some true by decide +kernel) ?_
    walk_at "go"
    refine U.g_lenL (Or.inr (SqT.of hb)) ?_
    walk_at "go"
    rw [List.length_map, decide_eq_false (show ¬ ((200 : Int) < (ns.length : Int)) by omega)]
    walk_at "go"
    refine e_tup (SqT.of hb) ?_
    refine lcI_tup (fun H' s' => SqT.of (s' _ _ hb)) (by rw [List.length_map]; omega) (fun _ => some (.bl true)) (fun x H' A B hx s' kA kB => ?t1) fun L1 H1 nL1 s1 hL1 => ?c1
    case t1 =>
      obtain ⟨n, hm, rfl⟩ := List.mem_map.mp hx
      obtain ⟨n1, n2⟩ := hn n hm
      walk_at "go"
      refine ⟨rfl, ?_⟩
      walk_at "go"
      refine ⟨_, rfl, .inl ⟨n, rfl, ?_⟩⟩
      rw [decide_eq_true n1, decide_eq_true n2]
      exact kA _ _ rfl (Same.refl _)
    have e : (ns.map V.int).filterMap (fun _ => some (V.bl true)) = (ns.map fun _ => true).map V.bl := by
      rw [LM.fm_some, List.map_map, List.map_map]
      rfl
    rw [e] at hL1
    walk_at "go"
    refine U.g_allB (SqL.of hL1) ?_
    rw [show ((ns.map fun _ => true).all id) = true by simp]
    walk_at "go"
    unfold tMake
    walk_at "go"
    intro x dx nx ndx hne
    have nx' : upd H1 dx (.own x) x = none := by rw [upd_ne (Ne.symm hne)]; exact nx
    have sX : Same H1 (upd (upd H1 dx (.own x)) x (.ins T.C_Ladder dx [])) := (U.same_new ndx).trans (U.same_new nx')
    refine ⟨x, dx, b, ns, rfl, upd_same, sX _ _ (s1 _ _ hb), by omega, fun la lp ls row pl H2 lx ok off => ⟨rfl, ?_⟩⟩
    have s2 : Same H1 H2 := fun c u e => off c u (ne_of_none e nx) (sX c u e)
    exact kk x dx la lp ls row pl H2 (none_of s1 nx) (s1.trans s2) lx ok
theorem sc_sized_ladder : FnScope ["values", "size", "ladder"] ["values", "size"] (defScope s_sized_ladder) := ⟨rfl, rfl, rfl, by decide +kernel, rfl, by decide +kernel, by decide +kernel⟩
def sp_sized_ladder (CL : Addr) : Sp := fun vs H Q _ => ∃ (b : Addr) (ns : List Int) (z : Int), vs = [.ref b, .int z] ∧ H b = some (.tup (ns.map V.int)) ∧ ns.length ≤ 200 ∧ (∀ n ∈ ns, -1000000 ≤ n ∧ n ≤ 1000000) ∧ 1 ≤ z ∧ z ≤ 200 ∧ ∀ (x dx la lp ls : Addr) (row pl : List Int) (H' : Hp), H x = none → Same H H' → LadX CL H' x dx la lp ls row pl → RowOk ns row pl → Q (.ref x) H'
theorem ok_sized_ladder (T : Tx K mg) : FnOk P w K mg base CX0 4 T.a_sized_ladder T.fd_sized_ladder ["values", "size"] (sp_sized_ladder T.C_Ladder) := by
  refine T.F_sized_ladder.ok sc_sized_ladder (fun vs H Q E h => ?_) (fun cdv A outer s H vs Q E hr h => ?_)
  · obtain ⟨b, ns, z, rfl, _⟩ := h
    rfl
  · obtain ⟨b, ns, z, rfl, hb, hl, hn, z1, z2, kk⟩ := h
    have hu := hu_of hr
    have hu64 := hr.units
    refine ⟨_, (pss_cons (ps_set (i := 2) sc_sized_ladder.nd rfl (Or.inl rfl) (pe_call (ok_ladder_of T) (hr.mono (by decide)) rfl T.m_ladder_of T.F_ladder_of.kp (b_ladder_of T) .nil pass0 (pa_cons (pv 0) pa_nil)))
        (pss_cons (ps_if (PW.pt (pw_or (pt_not (pt_val (pe_call (ok_is_integer T) (hr.mono (by decide)) rfl T.m_is_integer T.F_is_integer.kp (b_is_integer T) .nil pass0 (pa_cons (pv 1) pa_nil)))) (pw_or1 (pt_not (pt_chain op_uLe op_uLe (pe_int) (pv 1) (u_constI (by rfl) T.m_MOST_SIZE)))))) (pss_one (ps_never)) pss_nil)
        (pss_one (ps_ret (pv 2))))), ?_⟩
    walk_at "st"
    walk_at "go"
    refine ⟨b, ns, rfl, hb, hl, hn, fun x dx la lp ls row pl H1 nx s1 lx ok => ?_⟩
    walk_at "go"
    refine ⟨_, "int", true, false, rfl, ty_int, by decide +kernel, by decide +kernel, ?_⟩
    walk_at "go"
    rw [if_neg (by decide)]
    walk_at "go"
    rw [decide_eq_true z1]
    walk_at "go"
    rw [decide_eq_true z2]
    walk_at "go"
    exact kk x dx la lp ls row pl H1 nx s1 lx ok
end
end Toy

namespace Toy
open PySem L2 U M
section
variable {P : Program} {w : World} {K : PySem.W.Frag} {mg : Str → Option Value} {base : Heap}
theorem sc_is_tuple_of : FnScope ["value", "many"] ["value", "many"] (defScope s_is_tuple_of) := ⟨rfl, rfl, rfl, by decide +kernel, rfl, by decide +kernel, by decide +kernel⟩
def sp_is_tuple_of (K : PySem.W.Frag) : Sp := fun vs H Q _ => ∃ (x : V) (n : Int), vs = [x, .int n] ∧ ((∃ (a : Addr) (xs : List V), x = .ref a ∧ H a = some (.tup xs) ∧ Q (.bl (decide ((xs.length : Int) = n))) H) ∨ (∃ t : String, TyX K H x (.type t) ∧ kitB t "tuple" = some false ∧ Q (.bl false) H))
theorem ok_is_tuple_of (T : Tx K mg) : FnOk P w K mg base CX0 1 T.a_is_tuple_of T.fd_is_tuple_of ["value", "many"] (sp_is_tuple_of K) := by
  refine T.F_is_tuple_of.ok sc_is_tuple_of (fun vs H Q E h => ?_) (fun cdv A outer s H vs Q E hr h => ?_)
  · obtain ⟨x, n, rfl, _⟩ := h
    rfl
  · obtain ⟨x, n, rfl, kk⟩ := h
    have hu := hu_of hr
    have hu64 := hr.units
    refine ⟨_, (pss_one (ps_ret (pe_and (pe_callB (call_uIsi (K := K) rfl) (by rfl) T.n_isinstance (by decide +kernel) (pa_cons (pv 0) (pa_cons (u_ty (n := "tuple") (by rfl) T.n_tuple (by decide +kernel)) pa_nil))) (pe_one (pe_cmpR (op_uEq (K := K) rfl hu64) (pe_callB (call_uLen (K := K) rfl) (by rfl) T.n_len (by decide +kernel) (pa_cons (pv 0) pa_nil)) (pv 1) (nomark _)))))), ?_⟩
    walk_at "st"
    walk_at "go"
    rcases kk with ⟨a, xs, rfl, ha, kk⟩ | ⟨t, ht, k1, kk⟩
    · refine e_isi (ty_tup ha) (show kitB "tuple" "tuple" = some true by decide +kernel) ?_
      walk_at "go"
      refine U.g_lenL (Or.inr (SqT.of ha)) ?_
      walk_at "go"
      have e : decide (V.int xs.length = V.int n) = decide ((xs.length : Int) = n) := by
        rw [Bool.eq_iff_iff, decide_eq_true_eq, decide_eq_true_eq]
        exact ⟨fun z => V.int.inj z, fun z => by rw [z]⟩
      show Q (.bl (decide (V.int xs.length = V.int n))) H
      rw [e]
      exact kk
    · refine e_isi ht k1 ?_
      walk_at "go"
      exact kk
end
end Toy

namespace Toy
open PySem L2 U M LM
section
variable {P : Program} {w : World} {K : PySem.W.Frag} {mg : Str → Option Value} {base : Heap}
theorem sc_is_number_below : FnScope ["many", "value"] ["many", "value"] (defScope s_is_number_below) := ⟨rfl, rfl, rfl, by decide +kernel, rfl, by decide +kernel, by decide +kernel⟩
def sp_numb (K : PySem.W.Frag) : Sp := fun vs H Q _ => ∃ (m : Int) (x : V), vs = [.int m, x] ∧ plainV x = true ∧ Q (.bl (numB m x)) H
theorem ok_is_number_below (T : Tx K mg) : FnOk P w K mg base CX0 2 T.a_is_number_below T.fd_is_number_below ["many", "value"] (sp_numb K) := by
  refine T.F_is_number_below.ok sc_is_number_below (fun vs H Q E h => ?_) (fun cdv A outer s H vs Q E hr h => ?_)
  · obtain ⟨m, x, rfl, _⟩ := h
    rfl
  · obtain ⟨m, x, rfl, px, kk⟩ := h
    have hu := hu_of hr
    have hu64 := hr.units
    refine ⟨_, (pss_one (ps_ret (pe_and (pe_call (ok_is_integer T) (hr.mono (by decide)) rfl T.m_is_integer T.F_is_integer.kp (b_is_integer T) .nil pass0 (pa_cons (pv 1) pa_nil)) (pe_one (pe_chain op_uLe op_uLt (pe_int) (pv 1) (pv 0)))))), ?_⟩
    walk_at "st"
    walk_at "go"
    by_cases c : ∃ z, x = .int z
    · obtain ⟨z, rfl⟩ := c
      refine ⟨_, "int", true, false, rfl, ty_int, by decide +kernel, by decide +kernel, true, rfl, ?_⟩
      rw [if_pos rfl]
      walk_at "go"
      have kk : Q (.bl (decide (0 ≤ z) && decide (z < m))) H := kk
      by_cases c : 0 ≤ z
      · rw [if_pos (decide_eq_true c)]
        walk_at "go"
        rw [decide_eq_true c, Bool.true_and] at kk
        exact kk
      · rw [if_neg (by simpa using c)]
        rw [decide_eq_false c, Bool.false_and] at kk
        exact kk
    · obtain ⟨t, b1, b2, h1, h2, h3, h4⟩ := plain_int (K := K) (H := H) px fun z e => c ⟨z, e⟩
      refine ⟨x, t, b1, b2, rfl, h1, h2, h3, ?_⟩
      rw [h4]
      walk_at "go"
      have e : numB m x = false := by
        cases x with
        | int z => exact absurd ⟨z, rfl⟩ c
        | _ => rfl
      rw [← e]
      exact kk
theorem sc_is_ascending : FnScope ["parts", "one", "other"] ["parts"] (defScope s_is_ascending) := ⟨rfl, rfl, rfl, by decide +kernel, rfl, by decide +kernel, by decide +kernel⟩
def sp_asc (K : PySem.W.Frag) : Sp := fun vs H Q _ => ∃ (a : Addr) (ns : List Int), vs = [.ref a] ∧ SqT K H a (ns.map V.int) ∧ (∀ H', Same H H' → SqT K H' a (ns.map V.int)) ∧ ns.length ≤ 1000 ∧ ∀ H', Same H H' → Q (.bl (adj ns)) H'
theorem ok_is_ascending (T : Tx K mg) : FnOk P w K mg base CX0 1 T.a_is_ascending T.fd_is_ascending ["parts"] (sp_asc K) := by
  refine T.F_is_ascending.ok sc_is_ascending (fun vs H Q E h => ?_) (fun cdv A outer s H vs Q E hr h => ?_)
  · obtain ⟨a, ns, rfl, _⟩ := h
    rfl
  · obtain ⟨a, ns, rfl, ha, has, hl, kk⟩ := h
    have hu := hu_of hr
    have hu64 := hr.units
    refine ⟨_, (pss_one (ps_ret (pe_callB (call_uAll (K := K) rfl rfl) (by rfl) T.n_all (by decide +kernel) (pa_cons (pe_lc rfl sc_is_ascending.nd (ZT.pi_zipX (K := K) rfl (by rfl) T.n_zip (pa_cons (pv 0) (pa_cons (pe_slice (U.sl_uA (K := K) rfl) (pv 0) (po_some (pe_int)) po_none) pa_nil))) (blkOk_by (own := [("one", 1), ("other", 2)]) (N := ["parts", "one", "other"]) (sc := defScope s_is_ascending) (by decide +kernel)) (fun _ _ _ _ _ => (u_gtup (K := K) (n := 2) rfl rfl (pgs_cons (pg_name (i := 1) sc_is_ascending.nd rfl (Or.inl rfl)) (pgs_cons (pg_name (i := 2) sc_is_ascending.nd rfl (Or.inl rfl)) pgs_nil)))) (fun _ _ _ _ _ => pts_nil) (fun _ _ _ _ _ => (pe_cmpR op_uLt (pv 1) (pv 2) (nomark _)))) pa_nil)))), ?_⟩
    walk_at "st"
    walk_at "go"
    refine U.g_slT has fun c H1 sc hc => ?_
    rw [cut_one, ← List.map_drop] at hc
    walk_at "go"
    refine ⟨a, c, true, true, ns.map V.int, (ns.drop 1).map V.int, rfl, ZT.sq_t (has _ sc), ZT.sq_t (hc _ (Same.refl _)), ?_⟩
    refine ZT.lcI_zipX (fun H' s' => ZT.sq_t (has _ (sc.trans s'))) (fun H' s' => ZT.sq_t (hc _ s')) (by rw [List.length_map]; omega) (fun i => ((ns[i]?).bind fun a => (ns[i + 1]?).bind fun b => some (decide (a < b))).map V.bl) (fun i x y T H' A B ex ey s' hT kA kB => ?t1) fun L H2 nL s2 hL => ?c1
    case t1 =>
      rw [List.getElem?_map] at ex ey
      rw [List.getElem?_drop] at ey
      cases e1 : ns[i]? with
      | none => rw [e1] at ex; cases ex
      | some p =>
        rw [e1] at ex
        cases ex
        rw [show 1 + i = i + 1 by omega] at ey
        cases e2 : ns[i + 1]? with
        | none => rw [e2] at ey; cases ey
        | some q =>
          rw [e2] at ey
          cases ey
          walk_at "go"
          refine ⟨rfl, ?_⟩
          walk_at "go"
          refine kA _ _ ?_ (Same.refl _)
          rw [e1, e2]
          rfl
    rw [List.length_map, List.length_map, List.length_drop, ← List.map_filterMap] at hL
    walk_at "go"
    refine U.g_allB (SqL.of hL) ?_
    rw [adj_all]
    exact kk _ (sc.trans s2)
theorem sc_is_lot_below : FnScope ["many", "value", "number"] ["many", "value"] (defScope s_is_lot_below) := ⟨rfl, rfl, rfl, by decide +kernel, rfl, by decide +kernel, by decide +kernel⟩
def sp_lot (K : PySem.W.Frag) : Sp := fun vs H Q _ => ∃ (m : Int) (x : V), vs = [.int m, x] ∧ ((plainV x = true ∧ Q (.bl false) H) ∨ ∃ (a : Addr) (xs : List V), x = .ref a ∧ H a = some (.tup xs) ∧ xs.all plainV = true ∧ xs.length ≤ 1000 ∧ ∀ H', Same H H' → Q (.bl (lotB m xs)) H')
theorem ok_is_lot_below (T : Tx K mg) : FnOk P w K mg base CX0 3 T.a_is_lot_below T.fd_is_lot_below ["many", "value"] (sp_lot K) := by
  refine T.F_is_lot_below.ok sc_is_lot_below (fun vs H Q E h => ?_) (fun cdv A outer s H vs Q E hr h => ?_)
  · obtain ⟨m, x, rfl, _⟩ := h
    rfl
  · obtain ⟨m, x, rfl, kk⟩ := h
    have hu := hu_of hr
    have hu64 := hr.units
    refine ⟨_, (pss_cons (ps_if (PW.pt (pw_or (pt_not (pt_val (pe_callB (call_uIsi (K := K) rfl) (by rfl) T.n_isinstance (by decide +kernel) (pa_cons (pv 1) (pa_cons (u_ty (n := "tuple") (by rfl) T.n_tuple (by decide +kernel)) pa_nil))))) (pw_or1 (pt_not (pt_val (pe_callB (call_uAll (K := K) rfl rfl) (by rfl) T.n_all (by decide +kernel) (pa_cons (pe_lc rfl sc_is_lot_below.nd (u_tup (K := K) rfl (pv 1)) (blkOk_by (own := [("number", 2)]) (N := ["many", "value", "number"]) (sc := defScope s_is_lot_below) (by decide +kernel)) (fun _ _ _ _ _ => (pg_name (i := 2) sc_is_lot_below.nd rfl (Or.inl rfl))) (fun _ _ _ _ _ => pts_nil) (fun _ _ _ _ _ => (pe_call (ok_is_number_below T) (hr.mono (by decide)) rfl T.m_is_number_below T.F_is_number_below.kp (b_is_number_below T) .nil pass0 (pa_cons (pv 0) (pa_cons (pv 2) pa_nil))))) pa_nil))))))) (pss_one (ps_ret (pe_bl))) pss_nil)
        (pss_one (ps_ret (pe_call (ok_is_ascending T) (hr.mono (by decide)) rfl T.m_is_ascending T.F_is_ascending.kp (b_is_ascending T) .nil pass0 (pa_cons (pv 1) pa_nil))))), ?_⟩
    walk_at "st"
    walk_at "go"
    rcases kk with ⟨px, kk⟩ | ⟨a, xs, rfl, ha, px, hl, kk⟩
    · obtain ⟨t, ht, k1⟩ := plain_tup (K := K) (H := H) px
      refine e_isi ht k1 ?_
      walk_at "go"
      exact kk
    · refine e_isi (ty_tup ha) (show kitB "tuple" "tuple" = some true by decide +kernel) ?_
      walk_at "go"
      refine e_tup (SqT.of ha) ?_
      refine lcI_tup (fun H' s' => SqT.of (s' _ _ ha)) (by omega) (fun v => some (.bl (numB m v))) (fun x H' A B hx s' kA kB => ?t1) fun L1 H1 nL1 s1 hL1 => ?c1
      case t1 =>
        walk_at "go"
        refine ⟨rfl, ?_⟩
        walk_at "go"
        exact ⟨m, x, rfl, List.all_eq_true.mp px x hx, kA _ _ rfl (Same.refl _)⟩
      have e : xs.filterMap (fun v => some (V.bl (numB m v))) = (xs.map (numB m)).map V.bl := by
        rw [LM.fm_some, List.map_map]; rfl
      rw [e] at hL1
      walk_at "go"
      refine U.g_allB (SqL.of hL1) ?_
      rw [show (xs.map (numB m)).all id = xs.all (numB m) by rw [List.all_map]; rfl]
      refine ⟨_, rfl, U.g_2 (fun c => ?_) (fun c => ?_)⟩
      · have c : xs.all (numB m) = false := by simpa using c
        walk_at "go"
        have kk := kk _ s1
        unfold lotB at kk
        rw [c, Bool.false_and] at kk
        exact kk
      · have c : xs.all (numB m) = true := by simpa using c
        obtain ⟨e1, e2⟩ := nums_map c
        walk_at "go"
        refine ⟨a, xs.map iOf, rfl, SqT.of (by rw [← e1]; exact s1 _ _ ha), fun H' s' => SqT.of (by rw [← e1]; exact s' _ _ (s1 _ _ ha)), by rw [List.length_map]; omega, fun H2 s2 => ?_⟩
        have kk := kk _ (s1.trans s2)
        unfold lotB at kk
        rw [c, Bool.true_and] at kk
        exact kk
end
end Toy

namespace LM
open PySem L2 U M
/-- a value that may be a crowd: none for what is no tuple -/
def CrAt (H : Hp) (v : V) (c : Option (List V)) : Prop := match c with
  | none => plainV v = true
  | some xs => ∃ a, v = .ref a ∧ H a = some (.tup xs) ∧ xs.all plainV = true ∧ xs.length ≤ 1000
theorem CrAt.mono {H H' : Hp} (s : Same H H') {v : V} {c : Option (List V)} (h : CrAt H v c) : CrAt H' v c := by
  cases c with
  | none => exact h
  | some xs => obtain ⟨a, e, h1, h2⟩ := h; exact ⟨a, e, s _ _ h1, h2⟩
theorem crs_mono {H H' : Hp} (s : Same H H') {vs : List V} {cs : List (Option (List V))} (h : Paired (CrAt H) vs cs) : Paired (CrAt H') vs cs := prd_mono (fun _ _ => CrAt.mono s) h
def rangeI (n : Nat) : List Int := (List.range n).map fun i : Nat => (i : Int)
/-- crowds for n places and a size -/
def CrowdsOk (n s : Nat) (nss : List (List Int)) : Prop := (∀ ns ∈ nss, ns.Pairwise (· < ·) ∧ (∀ x ∈ ns, 0 ≤ x ∧ x < (n : Int)) ∧ s ≤ ns.length)
structure PartsP (n s : Nat) (cs : List (Option (List V))) : Prop where
  ex : ∃ nss : List (List Int), cs = nss.map (fun ns => some (ns.map V.int)) ∧ CrowdsOk n s nss ∧ nss.flatten.Perm (rangeI n)
/-- one crowd is fine -/
def crB (n s : Nat) (c : Option (List V)) : Bool := match c with
  | none => false
  | some xs => lotB n xs && decide (s ≤ xs.length)
theorem lotB_iff {m : Int} {ns : List Int} : lotB m (ns.map V.int) = true ↔ (∀ x ∈ ns, 0 ≤ x ∧ x < m) ∧ ns.Pairwise (· < ·) := by
  have e : (ns.map V.int).map iOf = ns := by
    rw [List.map_map, show (iOf ∘ V.int) = id from rfl, List.map_id]
  unfold lotB
  rw [Bool.and_eq_true, e, adj_pw, List.all_map, List.all_eq_true]
  refine and_congr ⟨fun h x hx => ?_, fun h x hx => ?_⟩ Iff.rfl
  · have := h x hx
    have this : (decide (0 ≤ x) && decide (x < m)) = true := this
    rw [Bool.and_eq_true, decide_eq_true_eq, decide_eq_true_eq] at this
    exact this
  · show (decide (0 ≤ x) && decide (x < m)) = true
    rw [Bool.and_eq_true, decide_eq_true_eq, decide_eq_true_eq]
    exact h x hx
theorem lotB_ints {m : Int} {xs : List V} (h : lotB m xs = true) : ∃ ns : List Int, xs = ns.map V.int := by
  unfold lotB at h
  rw [Bool.and_eq_true] at h
  exact ⟨xs.map iOf, (nums_map h.1).1⟩
theorem flat_len {B : Nat} : ∀ {nss : List (List Int)}, (∀ ns ∈ nss, ns.length ≤ B) → nss.flatten.length ≤ B * nss.length
  | [], _ => Nat.zero_le _
  | a :: r, h => by
    have h1 := h a List.mem_cons_self
    have h2 := flat_len (nss := r) fun n hn => h n (List.mem_cons_of_mem _ hn)
    rw [List.flatten_cons, List.length_append, List.length_cons, Nat.mul_succ]
    omega
/-- lists of ints compared -/
theorem eqv_ints : ∀ xs ys : List Int, PyData.eqvAll (xs.map PyData.int) (ys.map PyData.int) = decide (xs = ys)
  | [], [] => rfl
  | [], _ :: _ => rfl
  | _ :: _, [] => rfl
  | x :: xs, y :: ys => by
    show ((x == y) && PyData.eqvAll (xs.map PyData.int) (ys.map PyData.int)) = _
    rw [eqv_ints xs ys, Bool.eq_iff_iff, Bool.and_eq_true, decide_eq_true_eq, decide_eq_true_eq, beq_iff_eq, List.cons.injEq]
theorem g_eqL {K : PySem.W.Frag} {H : Hp} {Q : VK} {l m : Addr} {xs ys : List Int} (hl : SqL K H l (xs.map V.int)) (hm : SqL K H m (ys.map V.int)) (q : Q (.bl (decide (xs = ys))) H) : uEq K false (.ref l) (.ref m) H Q := by
  refine Or.inr ⟨.list (xs.map PyData.int), .list (ys.map PyData.int), Dp.lst hl (ints_dp0 xs), Dp.lst hm (ints_dp0 ys), ?_, ?_, ?_⟩
  · exact ints_sh xs
  · exact ints_sh ys
  · rw [if_neg Bool.false_ne_true]
    show Q (.bl (PyData.eqvAll (xs.map PyData.int) (ys.map PyData.int))) H
    rw [eqv_ints]
    exact q
theorem rangeI_up (n : Nat) : (rangeI n).Pairwise (· ≤ ·) := by
  unfold rangeI
  rw [List.pairwise_map]
  refine List.Pairwise.imp (fun {a b} (h : a < b) => ?_) List.pairwise_lt_range
  omega
theorem rangeI_mem {n : Nat} {x : Int} : x ∈ rangeI n ↔ 0 ≤ x ∧ x < n := by
  unfold rangeI
  rw [List.mem_map]
  constructor
  · rintro ⟨i, hi, rfl⟩; rw [List.mem_range] at hi; omega
  · intro h; exact ⟨x.toNat, List.mem_range.mpr (by omega), by omega⟩
theorem rangeI_len (n : Nat) : (rangeI n).length = n := by unfold rangeI; rw [List.length_map, List.length_range]
/-- the loss that crowds shown so have -/
def lossL (ns : List Int) (nss : List (List Int)) (sh : List Int) : Int := ((nss.zip sh).map fun p => (p.1.map fun z => ab (rowF ns z.toNat - p.2)).sum).sum
theorem crB_some {n s : Nat} {ns : List Int} : crB n s (some (ns.map V.int)) = true ↔ ns.Pairwise (· < ·) ∧ (∀ x ∈ ns, 0 ≤ x ∧ x < (n : Int)) ∧ s ≤ ns.length := by
  show (lotB n (ns.map V.int) && decide (s ≤ (ns.map V.int).length)) = true ↔ _
  rw [Bool.and_eq_true, lotB_iff, decide_eq_true_eq, List.length_map]
  exact ⟨fun h => ⟨h.1.2, h.1.1, h.2⟩, fun h => ⟨⟨h.2.1, h.1⟩, h.2.2⟩⟩
theorem PartsP.all {n s : Nat} {cs : List (Option (List V))} (h : PartsP n s cs) : ∀ c ∈ cs, crB n s c = true := fun c hc => by
  obtain ⟨nss, rfl, ok, _⟩ := h.ex
  obtain ⟨ns, hns, rfl⟩ := List.mem_map.mp hc
  exact crB_some.mpr (ok ns hns)
theorem some_inj {a b : List (List Int)} (h : a.map (fun ns => some (ns.map V.int)) = b.map (fun ns => some (ns.map V.int))) : a = b := by
  have inj : ∀ x y : List Int, x.map V.int = y.map V.int → x = y := fun x y e => by
    have := congrArg (List.map iOf) e
    rw [List.map_map, List.map_map, show (iOf ∘ V.int) = id from rfl, List.map_id, List.map_id] at this
    exact this
  induction a generalizing b with
  | nil => cases b with
    | nil => rfl
    | cons y r => cases h
  | cons x a ih => cases b with
    | nil => cases h
    | cons y r =>
      rw [List.map_cons, List.map_cons, List.cons.injEq] at h
      rw [inj x y (Option.some.inj h.1), ih h.2]
theorem rgV_int (n : Nat) : rgV 0 (n : Int) = (rangeI n).map V.int := by
  unfold rgV rangeI
  rw [List.map_map, show ((n : Int) - 0).toNat = n by omega]
  refine List.map_congr_left fun i _ => ?_
  show V.int (0 + (i : Int)) = V.int (i : Int)
  rw [Int.zero_add]
theorem snoc_ex {α : Type} (l : List α) (i : Nat) (h : i < l.length) : l.take (i + 1) = l.take i ++ [l[i]] := by rw [List.take_succ, List.getElem?_eq_getElem h]; rfl
end LM
namespace Toy
open PySem L2 U M LM
section
variable {P : Program} {w : World} {K : PySem.W.Frag} {mg : Str → Option Value} {base : Heap}
theorem sc_Ladder_middles : FnScope ["self", "begin", "end"] ["self", "begin", "end"] (defScope s_Ladder_middles) := ⟨rfl, rfl, rfl, by decide +kernel, rfl, by decide +kernel, by decide +kernel⟩
def sp_Ladder_middles (CL : Addr) : Sp := fun vs H Q _ => ∃ (x dx la lp ls : Addr) (row pl : List Int) (b e : Nat), vs = [.ref x, .int b, .int e] ∧ LadX CL H x dx la lp ls row pl ∧ b < e ∧ e ≤ row.length ∧ row.length ≤ 1000 ∧ ∀ t H', H t = none → Same H H' → H' t = some (.tup [.int (rowF row ((b + e - 1) / 2)), .int (rowF row ((b + e) / 2))]) → Q (.ref t) H'
theorem ok_Ladder_middles (T : Tx K mg) : FnOk P w K mg base CX0 1 T.a_Ladder_middles T.fd_Ladder_middles ["self", "begin", "end"] (sp_Ladder_middles T.C_Ladder) := by
  refine T.F_Ladder_middles.ok sc_Ladder_middles (fun vs H Q E h => ?_) (fun cdv A outer s H vs Q E hr h => ?_)
  · obtain ⟨x, dx, la, lp, ls, row, pl, b, e, rfl, _⟩ := h
    rfl
  · obtain ⟨x, dx, la, lp, ls, row, pl, b, e, rfl, lx, hbe, he, hl, kk⟩ := h
    have hu := hu_of hr
    have hu64 := hr.units
    refine ⟨_, (pss_one (ps_ret (pe_tup (pa_cons (pe_ix (ix_u (K := K) rfl) (u_fld (K := K) rfl (pv 0) rfl) (pe_op op_uDiv (pe_op op_uSub (pe_op (op_uAdd (K := K) rfl) (pv 1) (pv 2)) (pe_int)) (pe_int)) (fun _ _ => rfl)) (pa_cons (pe_ix (ix_u (K := K) rfl) (u_fld (K := K) rfl (pv 0) rfl) (pe_op op_uDiv (pe_op (op_uAdd (K := K) rfl) (pv 1) (pv 2)) (pe_int)) (fun _ _ => rfl)) pa_nil))))), ?_⟩
    walk_at "st"
    walk_at "go"
    have hr1 : ∀ {i : Nat}, i < row.length → (row.map V.int)[i]? = some (V.int (rowF row i)) := fun h => by rw [List.getElem?_map, rowF_at h]; rfl
    refine lx.fa T.cl_Ladder T.na_Ladder_ascending ?_
    walk_at "go"
    refine U.g_ix (Or.inl (SqL.of lx.ha)) (U.at_nat (show ((b : Int) + (e : Int) - 1) / 2 = (((b + e - 1) / 2 : Nat) : Int) by omega) (hr1 (by omega))) ?_
    walk_at "go"
    refine lx.fa T.cl_Ladder T.na_Ladder_ascending ?_
    walk_at "go"
    refine U.g_ix (Or.inl (SqL.of lx.ha)) (U.at_nat (show ((b : Int) + (e : Int)) / 2 = (((b + e) / 2 : Nat) : Int) by omega) (hr1 (by omega))) ?_
    walk_at "go"
    refine ⟨by show 2 ≤ sizeLine; decide, fun t nt => ?_⟩
    exact kk t _ nt (U.same_new nt) upd_same
theorem sc_has_crowds : FnScope ["values", "size"] ["values", "size"] (defScope s_has_crowds) := ⟨rfl, rfl, rfl, by decide +kernel, rfl, by decide +kernel, by decide +kernel⟩
def sp_has : Sp := fun vs H Q _ => ∃ (b : Addr) (ns : List Int) (s : Nat), vs = [.ref b, .int s] ∧ H b = some (.tup (ns.map V.int)) ∧ ns.length ≤ 1000 ∧ Q (.bl (decide (ns.length = 0) || decide (s ≤ ns.length))) H
theorem ok_has_crowds (T : Tx K mg) : FnOk P w K mg base CX0 1 T.a_has_crowds T.fd_has_crowds ["values", "size"] sp_has := by
  refine T.F_has_crowds.ok sc_has_crowds (fun vs H Q E h => ?_) (fun cdv A outer s H vs Q E hr h => ?_)
  · obtain ⟨b, ns, s, rfl, _⟩ := h
    rfl
  · obtain ⟨b, ns, s, rfl, hb, hl, kk⟩ := h
    have hu := hu_of hr
    have hu64 := hr.units
    refine ⟨_, (pss_one (ps_ret (pe_or (pe_cmpR (op_uEq (K := K) rfl hu64) (pe_callB (call_uLen (K := K) rfl) (by rfl) T.n_len (by decide +kernel) (pa_cons (pv 0) pa_nil)) (pe_int) (nomark _)) (pe_one (pe_cmpR op_uGe (pe_callB (call_uLen (K := K) rfl) (by rfl) T.n_len (by decide +kernel) (pa_cons (pv 0) pa_nil)) (pv 1) (nomark _)))))), ?_⟩
    walk_at "st"
    walk_at "go"
    refine U.g_lenL (Or.inr (SqT.of hb)) ?_
    walk_at "go"
    rw [List.length_map]
    rw [if_neg Bool.false_ne_true]
    have e1 : decide (V.int (ns.length : Int) = V.int 0) = decide (ns.length = 0) := by
      rw [Bool.eq_iff_iff, decide_eq_true_eq, decide_eq_true_eq]
      exact ⟨fun z => by have := V.int.inj z; omega, fun z => by rw [z]; rfl⟩
    rw [e1]
    refine U.g_2 (fun c => ?_) (fun c => ?_)
    · rw [c, Bool.true_or] at kk
      exact kk
    · rw [c, Bool.false_or] at kk
      walk_at "go"
      refine U.g_lenL (Or.inr (SqT.of hb)) ?_
      walk_at "go"
      rw [List.length_map, show decide ((s : Int) ≤ (ns.length : Int)) = decide (s ≤ ns.length) by rw [Bool.eq_iff_iff, decide_eq_true_eq, decide_eq_true_eq]; omega]
      exact kk
theorem sc_check_stretch : FnScope ["values", "begin", "end"] ["values", "begin", "end"] (defScope s_check_stretch) := ⟨rfl, rfl, rfl, by decide +kernel, rfl, by decide +kernel, by decide +kernel⟩
def sp_checks : Sp := fun vs H Q _ => ∃ (b : Addr) (ns : List Int) (i e : Nat), vs = [.ref b, .int i, .int e] ∧ H b = some (.tup (ns.map V.int)) ∧ ns.length ≤ 1000 ∧ i < e ∧ e ≤ ns.length ∧ Q .non H
theorem ok_check_stretch (T : Tx K mg) : FnOk P w K mg base CX0 3 T.a_check_stretch T.fd_check_stretch ["values", "begin", "end"] sp_checks := by
  refine T.F_check_stretch.ok sc_check_stretch (fun vs H Q E h => ?_) (fun cdv A outer s H vs Q E hr h => ?_)
  · obtain ⟨b, ns, i, e, rfl, _⟩ := h
    rfl
  · obtain ⟨b, ns, i, e, rfl, hb, hl, hie, he, kk⟩ := h
    have hu := hu_of hr
    have hu64 := hr.units
    refine ⟨_, (pss_one (ps_if (PW.pt (pw_or (pt_not (pt_val (pe_call (ok_is_number_below T) (hr.mono (by decide)) rfl T.m_is_number_below T.F_is_number_below.kp (b_is_number_below T) .nil pass0 (pa_cons (pe_op (op_uAdd (K := K) rfl) (pe_callB (call_uLen (K := K) rfl) (by rfl) T.n_len (by decide +kernel) (pa_cons (pv 0) pa_nil)) (pe_int)) (pa_cons (pv 2) pa_nil))))) (pw_or1 (pt_not (pt_val (pe_call (ok_is_number_below T) (hr.mono (by decide)) rfl T.m_is_number_below T.F_is_number_below.kp (b_is_number_below T) .nil pass0 (pa_cons (pv 2) (pa_cons (pv 1) pa_nil)))))))) (pss_one (ps_never)) pss_nil)), ?_⟩
    walk_at "st"
    walk_at "go"
    refine U.g_lenL (Or.inr (SqT.of hb)) ?_
    walk_at "go"
    refine ⟨_, _, rfl, rfl, ?_⟩
    have n1 : numB (((ns.map V.int).length : Int) + 1) (.int (e : Int)) = true := by
      show (decide (0 ≤ (e : Int)) && decide ((e : Int) < ((ns.map V.int).length : Int) + 1)) = true
      rw [List.length_map, Bool.and_eq_true, decide_eq_true_eq, decide_eq_true_eq]
      omega
    have n2 : numB (e : Int) (.int (i : Int)) = true := by
      show (decide (0 ≤ (i : Int)) && decide ((i : Int) < (e : Int))) = true
      rw [Bool.and_eq_true, decide_eq_true_eq, decide_eq_true_eq]
      omega
    rw [n1]
    walk_at "go"
    refine ⟨_, _, rfl, rfl, ?_⟩
    rw [n2]
    walk_at "go"
    exact kk
theorem sc_stretch_loss : FnScope ["values", "begin", "end", "ladder"] ["values", "begin", "end"] (defScope s_stretch_loss) := ⟨rfl, rfl, rfl, by decide +kernel, rfl, by decide +kernel, by decide +kernel⟩
def sp_stretch : Sp := fun vs H Q _ => ∃ (b : Addr) (ns row : List Int) (i e : Nat), vs = [.ref b, .int i, .int e] ∧ H b = some (.tup (ns.map V.int)) ∧ ns.length ≤ 200 ∧ inB ns ∧ Row ns row ∧ i < e ∧ e ≤ ns.length ∧ ∀ H', Same H H' → Q (.int (cs (rowF row) i e)) H'
theorem ok_stretch_loss (T : Tx K mg) : FnOk P w K mg base CX0 4 T.a_stretch_loss T.fd_stretch_loss ["values", "begin", "end"] sp_stretch := by
  refine T.F_stretch_loss.ok sc_stretch_loss (fun vs H Q E h => ?_) (fun cdv A outer s H vs Q E hr h => ?_)
  · obtain ⟨b, ns, row, i, e, rfl, _⟩ := h
    rfl
  · obtain ⟨b, ns, row, i, e, rfl, hb, hl, hn, hrow, hie, he, kk⟩ := h
    have hu := hu_of hr
    have hu64 := hr.units
    refine ⟨_, (pss_cons (ps_set (i := 3) sc_stretch_loss.nd rfl (Or.inl rfl) (pe_call (ok_ladder_of T) (hr.mono (by decide)) rfl T.m_ladder_of T.F_ladder_of.kp (b_ladder_of T) .nil pass0 (pa_cons (pv 0) pa_nil)))
        (pss_cons (ps_expr (pe_call (ok_check_stretch T) (hr.mono (by decide)) rfl T.m_check_stretch T.F_check_stretch.kp (b_check_stretch T) .nil pass0 (pa_cons (pv 0) (pa_cons (pv 1) (pa_cons (pv 2) pa_nil)))))
        (pss_one (ps_ret (pe_meth (pv 3) T.cl_Ladder T.me_Ladder_loss (ok_Ladder_loss T) (hr.mono (by decide)) (b_Ladder_loss T) .nil pass0 (pa_cons (pv 1) (pa_cons (pv 2) pa_nil))))))), ?_⟩
    walk_at "st"
    walk_at "go"
    refine ⟨b, ns, rfl, hb, hl, hn, fun x dx la lp ls row' pl H1 nx s1 lx ok => ?_⟩
    cases hrow.uniq ok.row
    have rl := hrow.len
    walk_at "go"
    refine ⟨b, ns, i, e, rfl, s1 _ _ hb, by omega, hie, he, ?_⟩
    walk_at "go"
    refine ⟨x, dx, _, rfl, lx.hi, lad_no (by decide +kernel) (by decide +kernel) (by decide +kernel) la lp ls, ?_⟩
    walk_at "go"
    exact ⟨x, dx, la, lp, ls, row, pl, i, e, rfl, lx, ok.up, hie, by omega, by omega, kk _ s1⟩
theorem sc_middles : FnScope ["values", "begin", "end", "ladder"] ["values", "begin", "end"] (defScope s_middles) := ⟨rfl, rfl, rfl, by decide +kernel, rfl, by decide +kernel, by decide +kernel⟩
def sp_middles : Sp := fun vs H Q _ => ∃ (b : Addr) (ns row : List Int) (i e : Nat), vs = [.ref b, .int i, .int e] ∧ H b = some (.tup (ns.map V.int)) ∧ ns.length ≤ 200 ∧ inB ns ∧ Row ns row ∧ i < e ∧ e ≤ ns.length ∧ ∀ t H', Same H H' → H' t = some (.tup [.int (rowF row ((i + e - 1) / 2)), .int (rowF row ((i + e) / 2))]) → Q (.ref t) H'
theorem ok_middles (T : Tx K mg) : FnOk P w K mg base CX0 4 T.a_middles T.fd_middles ["values", "begin", "end"] sp_middles := by
  refine T.F_middles.ok sc_middles (fun vs H Q E h => ?_) (fun cdv A outer s H vs Q E hr h => ?_)
  · obtain ⟨b, ns, row, i, e, rfl, _⟩ := h
    rfl
  · obtain ⟨b, ns, row, i, e, rfl, hb, hl, hn, hrow, hie, he, kk⟩ := h
    have hu := hu_of hr
    have hu64 := hr.units
    refine ⟨_, (pss_cons (ps_set (i := 3) sc_middles.nd rfl (Or.inl rfl) (pe_call (ok_ladder_of T) (hr.mono (by decide)) rfl T.m_ladder_of T.F_ladder_of.kp (b_ladder_of T) .nil pass0 (pa_cons (pv 0) pa_nil)))
        (pss_cons (ps_expr (pe_call (ok_check_stretch T) (hr.mono (by decide)) rfl T.m_check_stretch T.F_check_stretch.kp (b_check_stretch T) .nil pass0 (pa_cons (pv 0) (pa_cons (pv 1) (pa_cons (pv 2) pa_nil)))))
        (pss_one (ps_ret (pe_meth (pv 3) T.cl_Ladder T.me_Ladder_middles (ok_Ladder_middles T) (hr.mono (by decide)) (b_Ladder_middles T) .nil pass0 (pa_cons (pv 1) (pa_cons (pv 2) pa_nil))))))), ?_⟩
    walk_at "st"
    walk_at "go"
    refine ⟨b, ns, rfl, hb, hl, hn, fun x dx la lp ls row' pl H1 nx s1 lx ok => ?_⟩
    cases hrow.uniq ok.row
    have rl := hrow.len
    walk_at "go"
    refine ⟨b, ns, i, e, rfl, s1 _ _ hb, by omega, hie, he, ?_⟩
    walk_at "go"
    refine ⟨x, dx, _, rfl, lx.hi, lad_no (by decide +kernel) (by decide +kernel) (by decide +kernel) la lp ls, ?_⟩
    walk_at "go"
    exact ⟨x, dx, la, lp, ls, row, pl, i, e, rfl, lx, hie, by omega, by omega, fun t H' _ s' ht => kk t H' (s1.trans s') ht⟩
theorem sc_parts_places : FnScope ["values", "size", "crowds", "placed", "crowd"] ["values", "size", "crowds"] (defScope s_parts_places) := ⟨rfl, rfl, rfl, by decide +kernel, rfl, by decide +kernel, by decide +kernel⟩
def sp_parts (K : PySem.W.Frag) : Sp := fun vs H Q _ => ∃ (b : Addr) (ns : List Int) (s : Nat) (x : V), vs = [.ref b, .int s, x] ∧ H b = some (.tup (ns.map V.int)) ∧ ns.length ≤ 1000 ∧
  ((∃ t, TyX K H x (.type t) ∧ kitB t "tuple" = some false ∧ Q (.bl false) H) ∨ ∃ (a : Addr) (cv : List V) (cs : List (Option (List V))), x = .ref a ∧ H a = some (.tup cv) ∧ Paired (CrAt H) cv cs ∧ cv.length ≤ 1000 ∧ ∀ H' (c : Bool), Same H H' → (c = true ↔ PartsP ns.length s cs) → Q (.bl c) H')
theorem ok_parts_places (T : Tx K mg) : FnOk P w K mg base CX0 4 T.a_parts_places T.fd_parts_places ["values", "size", "crowds"] (sp_parts K) := by
  refine T.F_parts_places.ok sc_parts_places (fun vs H Q E h => ?_) (fun cdv A outer s H vs Q E hr h => ?_)
  · obtain ⟨b, ns, s, x, rfl, _⟩ := h
    rfl
  · obtain ⟨b, ns, s, x, rfl, hb, hl, kk⟩ := h
    have hu := hu_of hr
    have hu64 := hr.units
    refine ⟨_, (pss_cons (ps_if (pt_not (pt_val (pe_callB (call_uIsi (K := K) rfl) (by rfl) T.n_isinstance (by decide +kernel) (pa_cons (pv 2) (pa_cons (u_ty (n := "tuple") (by rfl) T.n_tuple (by decide +kernel)) pa_nil))))) (pss_one (ps_ret (pe_bl))) pss_nil)
        (pss_cons (ps_set (i := 3) sc_parts_places.nd rfl (Or.inl rfl) (pe_lst pa_nil))
        (pss_cons (ps_for PassesOwn.never rfl (u_tup (K := K) rfl (pv 2)) (pg_name (i := 4) sc_parts_places.nd rfl (Or.inl rfl)) (pss_cons (ps_if (PW.pt (pw_or (pt_not (pt_val (pe_call (ok_is_lot_below T) (hr.mono (by decide)) rfl T.m_is_lot_below T.F_is_lot_below.kp (b_is_lot_below T) .nil pass0 (pa_cons (pe_callB (call_uLen (K := K) rfl) (by rfl) T.n_len (by decide +kernel) (pa_cons (pv 0) pa_nil)) (pa_cons (pv 4) pa_nil))))) (pw_or1 (pt_cmpR op_uLt (pe_callB (call_uLen (K := K) rfl) (by rfl) T.n_len (by decide +kernel) (pa_cons (pv 4) pa_nil)) (pv 1) (nomark _))))) (pss_one (ps_ret (pe_bl))) pss_nil)
        (pss_one (ps_expr (pe_bm PySem.F.plainAttrs_list PySem.F.slot_list_extend PySem.F.type_list_extend mt_extend (pv 3) (pa_cons (pe_callTy (call_uList (K := K) rfl) (by rfl) T.n_list (by decide +kernel) (pa_cons (pv 4) pa_nil)) pa_nil))))))
        (pss_one (ps_ret (pe_cmpR (op_uEq (K := K) rfl hu64) (pe_callB (U.call_uSortI (K := K) rfl) (by rfl) T.n_sorted (by decide +kernel) (pa_cons (pv 3) pa_nil)) (pe_listRg rfl rfl T.n_list (prg_1 rfl T.n_range (pe_callB (call_uLen (K := K) rfl) (by rfl) T.n_len (by decide +kernel) (pa_cons (pv 0) pa_nil)))) (nomark _))))))), ?_⟩
    walk_at "st"
    walk_at "go"
    rcases kk with ⟨t, ht, k1, kk⟩ | ⟨a, cv, cs, rfl, ha, hp, hcl, kk⟩
    · refine e_isi ht k1 ?_
      walk_at "go"
      exact kk
    · refine e_isi (ty_tup ha) (show kitB "tuple" "tuple" = some true by decide +kernel) ?_
      walk_at "go"
      refine ⟨by decide, fun l nl => ?_⟩
      have sl := U.same_new (o := .lst []) nl
      walk_at "go"
      refine e_tup (SqT.of (sl _ _ ha)) ?_
      have lcs := prd_len hp
      refine forI_by (walk_tup (K := K) (a := a) (xs := cv)) (fun i σ' H' => ∃ (v4 : Option V) (nss : List (List Int)), σ' = [some (.ref b), some (.int (s : Int)), some (.ref a), some (.ref l), v4] ∧ nss.length = i ∧ cs.take i = nss.map (fun ns => some (ns.map V.int)) ∧ CrowdsOk ns.length s nss ∧ (∀ ns ∈ nss, ns.length ≤ 1000) ∧ H' l = some (.lst (nss.flatten.map V.int)) ∧ Same H H') ⟨none, [], rfl, rfl, rfl, (fun _ h => by cases h), (fun _ h => by cases h), upd_same, sl⟩ (fun i σ' H' _ ⟨_, _, _, _, _, _, _, _, s'⟩ => SqT.of (s' _ _ ha)) ?ts ?td
      case ts =>
        rintro i y σ' _ H' hi ⟨v4, nss, rfl, nl', ct, cok, c1000, hl', s'⟩ ⟨rfl, ey⟩
        obtain ⟨c, ec, cr⟩ := prd_at (crs_mono s' hp) ey
        have hic : i < cs.length := by omega
        have ecs : cs[i] = c := by rw [List.getElem?_eq_getElem hic] at ec; exact Option.some.inj ec
        have cm : c ∈ cs := by rw [← ecs]; exact List.getElem_mem hic
        have no : crB ns.length s c = false → Q (.bl false) H' := fun h => kk H' false s' ⟨(fun z => by cases z), (fun z => by have := z.all c cm; rw [h] at this; cases this)⟩
        walk_at "go"
        refine U.g_lenL (Or.inr (SqT.of (s' _ _ hb))) ?_
        walk_at "go"
        rw [List.length_map]
        cases c with
        | none =>
          refine ⟨_, y, rfl, .inl ⟨cr, ?_⟩⟩
          walk_at "go"
          exact no rfl
        | some xs =>
          obtain ⟨q, rfl, hq, px, xl⟩ := cr
          refine ⟨_, _, rfl, .inr ⟨q, xs, rfl, hq, px, xl, fun H2 s2 => ?_⟩⟩
          have no2 : crB ns.length s (some xs) = false → Q (.bl false) H2 := fun h => kk H2 false (s'.trans s2) ⟨(fun z => by cases z), (fun z => by have := z.all _ cm; rw [h] at this; cases this)⟩
          cases elot : lotB ns.length xs with
          | false =>
            walk_at "go"
            refine no2 ?_
            show (lotB ns.length xs && decide (s ≤ xs.length)) = false
            rw [elot]; rfl
          | true =>
            obtain ⟨ms, rfl⟩ := lotB_ints elot
            walk_at "go"
            refine U.g_lenL (Or.inr (SqT.of (s2 _ _ hq))) ?_
            walk_at "go"
            refine U.g_2 (fun z => ?_) (fun z => ?_)
            · walk_at "go"
              refine no2 ?_
              show (lotB ns.length (ms.map V.int) && decide (s ≤ (ms.map V.int).length)) = false
              have z := of_decide_eq_true z
              rw [decide_eq_false (by omega), Bool.and_false]
            · have z := of_decide_eq_false z
              have c1 : crB ns.length s (some (ms.map V.int)) = true := by
                show (lotB ns.length (ms.map V.int) && decide (s ≤ (ms.map V.int).length)) = true
                rw [elot, decide_eq_true (by omega)]; rfl
              rw [List.length_map] at xl
              have fl := flat_len c1000
              have hl2 := s2 _ _ hl'
              walk_at "go"
              refine U.g_lstC (Or.inr (SqT.of (s2 _ _ hq))) fun m nm => ?_
              have sm0 := U.same_new (o := .lst (ms.map V.int)) nm
              walk_at "go"
              refine U.g_ext (sm0 _ _ hl2) upd_same (by rw [List.length_map, List.length_map]; omega) ?_
              refine ⟨_, nss ++ [ms], rfl, by rw [List.length_append, nl']; rfl, ?_, fun k hk => ?_, fun k hk => ?_, ?_, same_mut ((s'.trans s2).trans sm0) nl⟩
              · rw [snoc_ex cs i hic, ct, ecs, List.map_append]; rfl
              · rcases List.mem_append.mp hk with hk | hk
                · exact cok k hk
                · rw [List.mem_singleton] at hk; subst hk; exact crB_some.mp c1
              · rcases List.mem_append.mp hk with hk | hk
                · exact c1000 k hk
                · rw [List.mem_singleton] at hk; subst hk; exact xl
              · rw [upd_same, ← List.map_append]
                congr 3
                rw [List.flatten_append]
                simp
      case td =>
        rintro σ' H' ⟨v4, nss, rfl, nl', ct, cok, c1000, hl', s'⟩
        rw [lcs, List.take_of_length_le (Nat.le_refl _)] at ct
        walk_at "go"
        refine U.g_sortI (SqL.of hl') fun ns' m p1 p2 nm => ?_
        have sm0 := U.same_new (o := .lst (ns'.map V.int)) nm
        walk_at "go"
        refine U.g_lenL (Or.inr (SqT.of (sm0 _ _ (s' _ _ hb)))) ?_
        walk_at "go"
        rw [List.length_map]
        refine ⟨RgOk.of_le (by omega) (by omega) (by omega) (by omega), fun r nr => ?_⟩
        have sr := U.same_new (o := .lst (rgV 0 (ns.length : Int))) nr
        refine g_eqL (SqL.of (sr _ _ upd_same)) (SqL.of (by rw [upd_same, rgV_int])) ?_
        refine kk _ _ ((s'.trans sm0).trans sr) ?_
        rw [decide_eq_true_eq]
        constructor
        · intro e
          exact ⟨nss, ct, cok, by rw [← e]; exact p1.symm⟩
        · intro h
          obtain ⟨nss2, e2, _, p3⟩ := h.ex
          have e3 := some_inj (e2.symm.trans ct)
          subst e3
          exact ((p1.trans p3).eq_of_pairwise (fun _ _ _ _ h1 h2 => Int.le_antisymm h1 h2) p2 (rangeI_up _))
end
end Toy

namespace LM
open PySem L2 U M
def isIB (v : V) : Bool := match v with
  | .int _ => true
  | _ => false
def lossP (ns : List Int) (p : List Int × Int) : Int := (p.1.map fun z => ab (rowF ns z.toNat - p.2)).sum
theorem lossL_eq (ns : List Int) (nss : List (List Int)) (sh : List Int) : lossL ns nss sh = ((nss.zip sh).map (lossP ns)).sum := rfl
def lossT (ns : List Int) (nss : List (List Int)) (sh : List Int) (i : Nat) : Int := (((nss.zip sh).take i).map (lossP ns)).sum
theorem lossT_succ {ns : List Int} {nss : List (List Int)} {sh : List Int} {i : Nat} {a : List Int} {b : Int} (h1 : nss[i]? = some a) (h2 : sh[i]? = some b) : lossT ns nss sh (i + 1) = lossT ns nss sh i + lossP ns (a, b) := by
  unfold lossT
  have e : (nss.zip sh)[i]? = some (a, b) := by rw [List.getElem?_zip_eq_some]; exact ⟨h1, h2⟩
  rw [List.take_succ, e, List.map_append, List.sum_append]
  simp
theorem lossT_all {ns : List Int} {nss : List (List Int)} {sh : List Int} {i : Nat} (h : (nss.zip sh).length ≤ i) : lossT ns nss sh i = lossL ns nss sh := by
  unfold lossT
  rw [List.take_of_length_le h]; rfl
end LM
namespace Toy
open PySem L2 U M LM
section
variable {P : Program} {w : World} {K : PySem.W.Frag} {mg : Str → Option Value} {base : Heap}
theorem e_plI {H : Hp} {Q : VK} {E : XK} {x : V} (px : plainV x = true) (q : Q (.bl (isIB x)) H) : sp_is_integer K [x] H Q E := by
  by_cases c : ∃ z, x = .int z
  · obtain ⟨z, rfl⟩ := c
    exact ⟨_, "int", true, false, rfl, ty_int, by decide +kernel, by decide +kernel, q⟩
  · obtain ⟨t, b1, b2, h1, h2, h3, h4⟩ := plain_int (K := K) (H := H) px fun z e => c ⟨z, e⟩
    have e : isIB x = false := by
      cases x with
      | int z => exact absurd ⟨z, rfl⟩ c
      | _ => rfl
    rw [e, ← h4] at q
    exact ⟨_, t, b1, b2, rfl, h1, h2, h3, q⟩
theorem sc_are_shown : FnScope ["crowds", "shown", "value"] ["crowds", "shown"] (defScope s_are_shown) := ⟨rfl, rfl, rfl, by decide +kernel, rfl, by decide +kernel, by decide +kernel⟩
def sp_shown (K : PySem.W.Frag) : Sp := fun vs H Q _ => ∃ (a : Addr) (cv : List V) (x : V), vs = [.ref a, x] ∧ H a = some (.tup cv) ∧ cv.length ≤ 1000 ∧
  ((∃ t, TyX K H x (.type t) ∧ kitB t "tuple" = some false ∧ Q (.bl false) H) ∨ ∃ (q : Addr) (xs : List V), x = .ref q ∧ H q = some (.tup xs) ∧ xs.all plainV = true ∧ xs.length ≤ 1000 ∧ ∀ H', Same H H' → Q (.bl (decide (xs.length = cv.length) && xs.all isIB)) H')
theorem ok_are_shown (T : Tx K mg) : FnOk P w K mg base CX0 2 T.a_are_shown T.fd_are_shown ["crowds", "shown"] (sp_shown K) := by
  refine T.F_are_shown.ok sc_are_shown (fun vs H Q E h => ?_) (fun cdv A outer s H vs Q E hr h => ?_)
  · obtain ⟨a, cv, x, rfl, _⟩ := h
    rfl
  · obtain ⟨a, cv, x, rfl, ha, hl, kk⟩ := h
    have hu := hu_of hr
    have hu64 := hr.units
    refine ⟨_, (pss_one (ps_ret (pe_and (pe_call (ok_is_tuple_of T) (hr.mono (by decide)) rfl T.m_is_tuple_of T.F_is_tuple_of.kp (b_is_tuple_of T) .nil pass0 (pa_cons (pv 1) (pa_cons (pe_callB (call_uLen (K := K) rfl) (by rfl) T.n_len (by decide +kernel) (pa_cons (pv 0) pa_nil)) pa_nil))) (pe_one (pe_callB (call_uAll (K := K) rfl rfl) (by rfl) T.n_all (by decide +kernel) (pa_cons (pe_lc rfl sc_are_shown.nd (u_tup (K := K) rfl (pv 1)) (blkOk_by (own := [("value", 2)]) (N := ["crowds", "shown", "value"]) (sc := defScope s_are_shown) (by decide +kernel)) (fun _ _ _ _ _ => (pg_name (i := 2) sc_are_shown.nd rfl (Or.inl rfl))) (fun _ _ _ _ _ => pts_nil) (fun _ _ _ _ _ => (pe_call (ok_is_integer T) (hr.mono (by decide)) rfl T.m_is_integer T.F_is_integer.kp (b_is_integer T) .nil pass0 (pa_cons (pv 2) pa_nil)))) pa_nil)))))), ?_⟩
    walk_at "st"
    walk_at "go"
    refine U.g_lenL (Or.inr (SqT.of ha)) ?_
    walk_at "go"
    rcases kk with ⟨t, ht, k1, kk⟩ | ⟨q, xs, rfl, hq, px, xl, kk⟩
    · refine ⟨x, _, rfl, .inr ⟨t, ht, k1, ?_⟩⟩
      walk_at "go"
      exact kk
    · refine ⟨_, _, rfl, .inl ⟨q, xs, rfl, hq, ?_⟩⟩
      rw [show decide ((xs.length : Int) = (cv.length : Int)) = decide (xs.length = cv.length) by rw [Bool.eq_iff_iff, decide_eq_true_eq, decide_eq_true_eq]; omega]
      refine ⟨_, rfl, U.g_2 (fun c => ?_) (fun c => ?_)⟩
      · rw [c] at kk
        walk_at "go"
        refine e_tup (SqT.of hq) ?_
        refine lcI_tup (fun H' s' => SqT.of (s' _ _ hq)) (by omega) (fun v => some (.bl (isIB v))) (fun x H' A B hx s' kA kB => ?t1) fun L1 H1 nL1 s1 hL1 => ?c1
        case t1 =>
          walk_at "go"
          refine ⟨rfl, ?_⟩
          walk_at "go"
          exact e_plI (List.all_eq_true.mp px x hx) (kA _ _ rfl (Same.refl _))
        rw [show xs.filterMap (fun v => some (V.bl (isIB v))) = (xs.map isIB).map V.bl by rw [LM.fm_some, List.map_map]; rfl] at hL1
        walk_at "go"
        refine U.g_allB (SqL.of hL1) ?_
        rw [show (xs.map isIB).all id = xs.all isIB by rw [List.all_map]; rfl]
        have kk := kk _ s1
        rw [Bool.true_and] at kk
        exact kk
      · have kk := kk _ (Same.refl H)
        rw [c, Bool.false_and] at kk
        exact kk
theorem sc_loss_shown : FnScope ["values", "crowds", "shown", "total", "crowd", "value", "place"] ["values", "crowds", "shown"] (defScope s_loss_shown) := ⟨rfl, rfl, rfl, by decide +kernel, rfl, by decide +kernel, by decide +kernel⟩
def sp_lossS : Sp := fun vs H Q _ => ∃ (b a q : Addr) (ns : List Int) (cv : List V) (nss : List (List Int)) (sh : List Int), vs = [.ref b, .ref a, .ref q] ∧ H b = some (.tup (ns.map V.int)) ∧ H a = some (.tup cv) ∧ Paired (CrAt H) cv (nss.map fun ns => some (ns.map V.int)) ∧ H q = some (.tup (sh.map V.int)) ∧ sh.length = nss.length ∧ nss.length ≤ 1000 ∧
  (∀ k ∈ nss, ∀ x ∈ k, 0 ≤ x ∧ x < (ns.length : Int)) ∧ ∀ H', Same H H' → Q (.int (lossL ns nss sh)) H'
theorem ok_loss_shown (T : Tx K mg) : FnOk P w K mg base CX0 1 T.a_loss_shown T.fd_loss_shown ["values", "crowds", "shown"] sp_lossS := by
  refine T.F_loss_shown.ok sc_loss_shown (fun vs H Q E h => ?_) (fun cdv A outer s H vs Q E hr h => ?_)
  · obtain ⟨b, a, q, ns, cv, nss, sh, rfl, _⟩ := h
    rfl
  · obtain ⟨b, a, q, ns, cv, nss, sh, rfl, hb, ha, hp, hq, sl, nl, rg, kk⟩ := h
    have hu := hu_of hr
    have hu64 := hr.units
    refine ⟨_, (pss_cons (ps_set (i := 3) sc_loss_shown.nd rfl (Or.inl rfl) (pe_int))
        (pss_cons (ps_for PassesOwn.never rfl (ZT.pi_zipX (K := K) rfl (by rfl) T.n_zip (pa_cons (pv 1) (pa_cons (pv 2) pa_nil))) (u_gtup (K := K) (n := 2) rfl rfl (pgs_cons (pg_name (i := 4) sc_loss_shown.nd rfl (Or.inl rfl)) (pgs_cons (pg_name (i := 5) sc_loss_shown.nd rfl (Or.inr rfl)) pgs_nil))) (pss_one (ps_aug (i := 3) sc_loss_shown.nd rfl (Or.inl rfl) (pe_callB (call_uSum (K := K) rfl rfl) (by rfl) T.n_sum (by decide +kernel) (pa_cons (pe_lc rfl sc_loss_shown.nd (u_tup (K := K) rfl (pv 4)) (blkOk_by (own := [("place", 6)]) (N := ["values", "crowds", "shown", "total", "crowd", "value", "place"]) (sc := defScope s_loss_shown) (by decide +kernel)) (fun _ _ _ _ _ => (pg_name (i := 6) sc_loss_shown.nd rfl (Or.inl rfl))) (fun _ _ _ _ _ => pts_nil) (fun _ _ _ _ _ => (pe_callB call_uAbs (by rfl) T.n_abs (by decide +kernel) (pa_cons (pe_op op_uSub (pe_ix (ix_u (K := K) rfl) (pv 0) (pv 6) (fun _ _ => rfl)) (pv 5)) pa_nil)))) pa_nil)) ip_add)))
        (pss_one (ps_ret (pv 3))))), ?_⟩
    walk_at "st"
    walk_at "go"
    have lcv := prd_len hp
    rw [List.length_map] at lcv
    refine ⟨a, q, true, true, cv, sh.map V.int, rfl, ZT.sq_t (SqT.of ha), ZT.sq_t (SqT.of hq), ?_⟩
    refine forI_by (ZT.walk_zipX (K := K) (t1 := true) (t2 := true) (a := a) (b := q) (xs := cv) (ys := sh.map V.int)) (fun i σ' H' => ∃ (v4 v5 v6 : Option V), σ' = [some (.ref b), some (.ref a), some (.ref q), some (.int (lossT ns nss sh i)), v4, v5, v6] ∧ Same H H') ⟨none, none, none, rfl, Same.refl _⟩ (fun i σ' H' _ ⟨_, _, _, _, s'⟩ => ⟨ZT.sq_t (SqT.of (s' _ _ ha)), ZT.sq_t (SqT.of (s' _ _ hq))⟩) ?ts ?td
    case td =>
      rintro σ' H' ⟨v4, v5, v6, rfl, s'⟩
      rw [lossT_all (by rw [List.length_zip, List.length_map]; omega)]
      walk_at "go"
      exact kk _ s'
    case ts =>
      rintro i y σ' H' H'' hi ⟨v4, v5, v6, rfl, s'⟩ ⟨t, a1, a2, rfl, nt, rfl, e1, e2⟩
      have sT := U.same_new (o := .tup [a1, a2]) nt
      obtain ⟨c, ec, cr⟩ := prd_at (crs_mono (s'.trans sT) hp) e1
      have e2 : (sh.map V.int)[i]? = some a2 := e2
      rw [List.getElem?_map] at ec e2
      cases en : nss[i]? with
      | none => rw [en] at ec; cases ec
      | some k =>
        rw [en] at ec
        cases ec
        obtain ⟨m, rfl, hm, _, ml⟩ := cr
        cases es : sh[i]? with
        | none => rw [es] at e2; cases e2
        | some z =>
          rw [es] at e2
          cases e2
          rw [List.length_map] at ml
          have kr := rg k (List.mem_of_getElem? en)
          have hb1 := (s'.trans sT) _ _ hb
          walk_at "go"
          refine ⟨_, rfl, ?_⟩
          walk_at "go"
          refine e_tup (SqT.of hm) ?_
          refine lcI_tup (fun H' s' => SqT.of (s' _ _ hm)) (by rw [List.length_map]; omega) (fun v => match v with | .int x => some (.int (ab (rowF ns x.toNat - z))) | _ => none) (fun x H2 A B hx s2 kA kB => ?t1) fun L1 H2 nL1 s2 hL1 => ?c1
          case t1 =>
            obtain ⟨x, hxk, rfl⟩ := List.mem_map.mp hx
            obtain ⟨x0, x1⟩ := kr x hxk
            walk_at "go"
            refine ⟨rfl, ?_⟩
            walk_at "go"
            refine U.g_ix (Or.inr (SqT.of (s2 _ _ hb1))) (U.at_nat (show x = ((x.toNat : Nat) : Int) by omega) (show (ns.map V.int)[x.toNat]? = some (V.int (rowF ns x.toNat)) by rw [List.getElem?_map, rowF_at (by omega)]; rfl)) ?_
            walk_at "go"
            exact kA _ _ rfl (Same.refl _)
          have e3 : (k.map V.int).filterMap (fun v => match v with | .int x => some (V.int (ab (rowF ns x.toNat - z))) | _ => none) = (k.map fun x => ab (rowF ns x.toNat - z)).map V.int := by
            rw [List.filterMap_map, List.map_map, ← List.filterMap_eq_map]
            rfl
          rw [e3] at hL1
          walk_at "go"
          refine U.g_sum (SqL.of hL1) ?_
          refine ⟨_, _, rfl, rfl, ?_⟩
          exact ⟨_, _, _, by rw [lossT_succ en es]; rfl, (s'.trans sT).trans s2⟩
theorem sc_line_loss : FnScope ["values", "size", "crowds", "shown"] ["values", "size", "crowds", "shown"] (defScope s_line_loss) := ⟨rfl, rfl, rfl, by decide +kernel, rfl, by decide +kernel, by decide +kernel⟩
def sp_line_loss : Sp := fun vs H Q _ => ∃ (b a q : Addr) (ns : List Int) (s : Nat) (cv : List V) (nss : List (List Int)) (sh : List Int), vs = [.ref b, .int s, .ref a, .ref q] ∧ H b = some (.tup (ns.map V.int)) ∧ ns.length ≤ 200 ∧ inB ns ∧ 1 ≤ s ∧ s ≤ 200 ∧ H a = some (.tup cv) ∧ Paired (CrAt H) cv (nss.map fun ns => some (ns.map V.int)) ∧ H q = some (.tup (sh.map V.int)) ∧ sh.length = nss.length ∧ nss.length ≤ 1000 ∧
  CrowdsOk ns.length s nss ∧ nss.flatten.Perm (rangeI ns.length) ∧ ∀ H', Same H H' → Q (.int (lossL ns nss sh)) H'
theorem ok_line_loss (T : Tx K mg) : FnOk P w K mg base CX0 5 T.a_line_loss T.fd_line_loss ["values", "size", "crowds", "shown"] sp_line_loss := by
  refine T.F_line_loss.ok sc_line_loss (fun vs H Q E h => ?_) (fun cdv A outer s H vs Q E hr h => ?_)
  · obtain ⟨b, a, q, ns, s, cv, nss, sh, rfl, _⟩ := h
    rfl
  · obtain ⟨b, a, q, ns, s, cv, nss, sh, rfl, hb, hl, hn, s1', s2', ha, hp, hq, sl, nl, cok, pm, kk⟩ := h
    have hu := hu_of hr
    have hu64 := hr.units
    refine ⟨_, (pss_cons (ps_expr (pe_call (ok_sized_ladder T) (hr.mono (by decide)) rfl T.m_sized_ladder T.F_sized_ladder.kp (b_sized_ladder T) .nil pass0 (pa_cons (pv 0) (pa_cons (pv 1) pa_nil))))
        (pss_cons (ps_if (pt_not (pt_val (pe_call (ok_parts_places T) (hr.mono (by decide)) rfl T.m_parts_places T.F_parts_places.kp (b_parts_places T) .nil pass0 (pa_cons (pv 0) (pa_cons (pv 1) (pa_cons (pv 2) pa_nil)))))) (pss_one (ps_never)) pss_nil)
        (pss_cons (ps_if (pt_not (pt_val (pe_call (ok_are_shown T) (hr.mono (by decide)) rfl T.m_are_shown T.F_are_shown.kp (b_are_shown T) .nil pass0 (pa_cons (pv 2) (pa_cons (pv 3) pa_nil))))) (pss_one (ps_never)) pss_nil)
        (pss_one (ps_ret (pe_call (ok_loss_shown T) (hr.mono (by decide)) rfl T.m_loss_shown T.F_loss_shown.kp (b_loss_shown T) .nil pass0 (pa_cons (pv 0) (pa_cons (pv 2) (pa_cons (pv 3) pa_nil))))))))), ?_⟩
    walk_at "st"
    walk_at "go"
    refine ⟨b, ns, s, rfl, hb, hl, hn, by omega, by omega, fun x dx la lp ls row pl H1 nx s1 lx ok => ?_⟩
    have lcv := prd_len hp
    rw [List.length_map] at lcv
    walk_at "go"
    refine ⟨b, ns, s, _, rfl, s1 _ _ hb, by omega, .inr ⟨a, cv, _, rfl, s1 _ _ ha, crs_mono s1 hp, by omega, fun H2 c s2 hc => ?_⟩⟩
    have ec : c = true := hc.mpr ⟨nss, rfl, cok, pm⟩
    subst ec
    have s12 := s1.trans s2
    walk_at "go"
    have pI : ∀ sh : List Int, (sh.map V.int).all plainV = true := fun sh => by rw [List.all_map]; exact List.all_eq_true.mpr fun _ _ => rfl
    have iI : ∀ sh : List Int, (sh.map V.int).all isIB = true := fun sh => by rw [List.all_map]; exact List.all_eq_true.mpr fun _ _ => rfl
    refine ⟨a, cv, _, rfl, s12 _ _ ha, by omega, .inr ⟨q, sh.map V.int, rfl, s12 _ _ hq, pI sh, by rw [List.length_map]; omega, fun H3 s3 => ?_⟩⟩
    rw [List.length_map, iI sh, decide_eq_true (show sh.length = cv.length by omega), Bool.true_and]
    have s13 := s12.trans s3
    walk_at "go"
    exact ⟨b, a, q, ns, cv, nss, sh, rfl, s13 _ _ hb, s13 _ _ ha, crs_mono s13 hp, s13 _ _ hq, sl, nl, fun k hk x hx => (cok k hk).2.1 x hx, fun H4 s4 => kk _ (s13.trans s4)⟩
theorem sc_crowded_ladder : FnScope ["values", "size", "ladder"] ["values", "size"] (defScope s_crowded_ladder) := ⟨rfl, rfl, rfl, by decide +kernel, rfl, by decide +kernel, by decide +kernel⟩
def sp_crowded (CL : Addr) : Sp := fun vs H Q _ => ∃ (b : Addr) (ns : List Int) (s : Nat), vs = [.ref b, .int s] ∧ H b = some (.tup (ns.map V.int)) ∧ ns.length ≤ 200 ∧ inB ns ∧ 1 ≤ s ∧ s ≤ 200 ∧ (ns.length = 0 ∨ s ≤ ns.length) ∧ ∀ (x dx la lp ls : Addr) (row pl : List Int) (H' : Hp), H x = none → Same H H' → LadX CL H' x dx la lp ls row pl → RowOk ns row pl → Q (.ref x) H'
theorem ok_crowded_ladder (T : Tx K mg) : FnOk P w K mg base CX0 5 T.a_crowded_ladder T.fd_crowded_ladder ["values", "size"] (sp_crowded T.C_Ladder) := by
  refine T.F_crowded_ladder.ok sc_crowded_ladder (fun vs H Q E h => ?_) (fun cdv A outer s H vs Q E hr h => ?_)
  · obtain ⟨b, ns, s, rfl, _⟩ := h
    rfl
  · obtain ⟨b, ns, s, rfl, hb, hl, hn, z1, z2, hc, kk⟩ := h
    have hu := hu_of hr
    have hu64 := hr.units
    refine ⟨_, (pss_cons (ps_set (i := 2) sc_crowded_ladder.nd rfl (Or.inl rfl) (pe_call (ok_sized_ladder T) (hr.mono (by decide)) rfl T.m_sized_ladder T.F_sized_ladder.kp (b_sized_ladder T) .nil pass0 (pa_cons (pv 0) (pa_cons (pv 1) pa_nil))))
        (pss_cons (ps_if (pt_not (pt_val (pe_call (ok_has_crowds T) (hr.mono (by decide)) rfl T.m_has_crowds T.F_has_crowds.kp (b_has_crowds T) .nil pass0 (pa_cons (pv 0) (pa_cons (pv 1) pa_nil))))) (pss_one (ps_never)) pss_nil)
        (pss_one (ps_ret (pv 2))))), ?_⟩
    walk_at "st"
    walk_at "go"
    refine ⟨b, ns, s, rfl, hb, hl, hn, by omega, by omega, fun x dx la lp ls row pl H1 nx s1 lx ok => ?_⟩
    walk_at "go"
    refine ⟨b, ns, s, rfl, s1 _ _ hb, by omega, ?_⟩
    rw [show (decide (ns.length = 0) || decide (s ≤ ns.length)) = true by rw [Bool.or_eq_true, decide_eq_true_eq, decide_eq_true_eq]; exact hc]
    walk_at "go"
    exact kk x dx la lp ls row pl H1 nx s1 lx ok
theorem sc_one_more : FnScope ["values", "size", "value", "losses"] ["values", "size", "value"] (defScope s_one_more) := ⟨rfl, rfl, rfl, by decide +kernel, rfl, by decide +kernel, by decide +kernel⟩
def sp_one_more : Sp := fun vs H Q _ => ∃ (b : Addr) (ns row row2 : List Int) (s : Nat) (m u v : Int), vs = [.ref b, .int s, .int m] ∧ H b = some (.tup (ns.map V.int)) ∧ ns.length < 200 ∧ inB ns ∧ -1000000 ≤ m ∧ m ≤ 1000000 ∧ 1 ≤ s ∧ s ≤ 200 ∧ (ns.length = 0 ∨ s ≤ ns.length) ∧ (ns.length = 0 → s = 1) ∧ Row ns row ∧ Row (ns ++ [m]) row2 ∧ F (cs (rowF row)) s row.length = some u ∧ F (cs (rowF row2)) s row2.length = some v ∧ ∀ H', Same H H' → Q (.int (v - u)) H'
theorem ok_one_more (T : Tx K mg) : FnOk P w K mg base CX0 6 T.a_one_more T.fd_one_more ["values", "size", "value"] sp_one_more := by
  refine T.F_one_more.ok sc_one_more (fun vs H Q E h => ?_) (fun cdv A outer s H vs Q E hr h => ?_)
  · obtain ⟨b, ns, row, row2, s, m, u, v, rfl, _⟩ := h
    rfl
  · obtain ⟨b, ns, row, row2, s, m, u, v, rfl, hb, hl, hn, m0, m1, z1, z2, hc, hc0, hrow, hrow2, hu1, hv1, kk⟩ := h
    have hu := hu_of hr
    have hu64 := hr.units
    refine ⟨_, (pss_cons (ps_expr (pe_call (ok_sized_ladder T) (hr.mono (by decide)) rfl T.m_sized_ladder T.F_sized_ladder.kp (b_sized_ladder T) .nil pass0 (pa_cons (pv 0) (pa_cons (pv 1) pa_nil))))
        (pss_cons (ps_if (pt_not (pt_val (pe_call (ok_is_line_value T) (hr.mono (by decide)) rfl T.m_is_line_value T.F_is_line_value.kp (b_is_line_value T) .nil pass0 (pa_cons (pv 2) pa_nil)))) (pss_one (ps_never)) pss_nil)
        (pss_cons (ps_if (pt_cmpR (op_uEq (K := K) rfl hu64) (pe_callB (call_uLen (K := K) rfl) (by rfl) T.n_len (by decide +kernel) (pa_cons (pv 0) pa_nil)) (u_constI (by rfl) T.m_MOST_VALUES) (nomark _)) (pss_one (ps_never)) pss_nil)
        (pss_cons (ps_set (i := 3) sc_one_more.nd rfl (Or.inl rfl) (pe_meth (pe_call (ok_crowded_ladder T) (hr.mono (by decide)) rfl T.m_crowded_ladder T.F_crowded_ladder.kp (b_crowded_ladder T) .nil pass0 (pa_cons (pv 0) (pa_cons (pv 1) pa_nil))) T.cl_Ladder T.me_Ladder_first_losses (ok_Ladder_first_losses T) (hr.mono (by decide)) (b_Ladder_first_losses T) .nil pass0 (pa_cons (pv 1) pa_nil)))
        (pss_cons (ps_if (PW.pt (pw_and (pt_not (u_truth (K := K) rfl (pv 0) (by intro _; rfl))) (pw_and1 (pt_cmpR op_uGt (pv 1) (pe_int) (nomark _))))) (pss_one (ps_never)) pss_nil)
        (pss_one (ps_ret (pe_op op_uSub (pe_ix (ix_u (K := K) rfl) (pe_meth (pe_make T.M_Ladder (ok_Ladder___init__ T) (hr.mono (by decide)) rfl T.m_Ladder (b_Ladder___init__ T) .nil pass0 (pa_cons (pe_op (U.op_uAddA (K := K) rfl) (pv 0) (pe_tup (pa_cons (pv 2) pa_nil))) pa_nil)) T.cl_Ladder T.me_Ladder_first_losses (ok_Ladder_first_losses T) (hr.mono (by decide)) (b_Ladder_first_losses T) .nil pass0 (pa_cons (pv 1) pa_nil)) (pe_un op_uNeg (pe_int)) (fun _ _ => rfl)) (pe_ix (ix_u (K := K) rfl) (pv 3) (pe_un op_uNeg (pe_int)) (fun _ _ => rfl)))))))))), ?_⟩
    walk_at "st"
    walk_at "go"
    refine ⟨b, ns, s, rfl, hb, by omega, hn, by omega, by omega, fun x dx la lp ls row' pl H1 nx s1 lx ok => ?_⟩
    walk_at "go"
    refine ⟨_, rfl, .inl ⟨m, rfl, ?_⟩⟩
    rw [decide_eq_true m0, decide_eq_true m1, Bool.true_and]
    walk_at "go"
    refine U.g_lenL (Or.inr (SqT.of (s1 _ _ hb))) ?_
    walk_at "go"
    rw [if_neg Bool.false_ne_true, List.length_map, decide_eq_false (show ¬ V.int (ns.length : Int) = V.int 200 from fun z => by have := V.int.inj z; omega)]
    walk_at "go"
    refine ⟨b, ns, s, rfl, s1 _ _ hb, by omega, hn, z1, z2, hc, fun x2 dx2 la2 lp2 ls2 row3 pl2 H2 nx2 s2 lx2 ok2 => ?_⟩
    cases hrow.uniq ok2.row
    have rl := hrow.len
    refine ⟨x2, dx2, _, rfl, lx2.hi, lad_no (by decide +kernel) (by decide +kernel) (by decide +kernel) la2 lp2 ls2, ?_⟩
    walk_at "go"
    refine ⟨x2, dx2, la2, lp2, ls2, row, pl2, s, rfl, lx2, ok2.up, by rw [ok2.len, ok2.pln], by omega, by omega, by omega, fun lq H3 nlq s3 hlq => ?_⟩
    have s03 := (s1.trans s2).trans s3
    have hb3 := s03 _ _ hb
    walk_at "go"
    refine ⟨!(ns.map V.int).isEmpty, Or.inr (Or.inl ⟨_, SqT.of hb3, rfl⟩), ?_⟩
    refine U.g_2 (fun c => ?e0) (fun c => ?e1)
    case' e0 =>
      have l0 : ns.length = 0 := by
        cases ns with
        | nil => rfl
        | cons => cases c
      walk_at "go"
      rw [decide_eq_false (show ¬ ((1 : Int) < (s : Int)) by have := hc0 l0; omega)]
      walk_at "go"
    case' e1 => walk_at "go"
    all_goals
      unfold tMake
      walk_at "go"
      refine ⟨by show 1 ≤ sizeLine; decide, fun t nt => ?_⟩
      have sT := U.same_new (o := .tup [.int m]) nt
      refine U.g_catH (sT _ _ hb3) upd_same (by rw [List.length_map]; show _ + 1 ≤ _; omega) fun c H4 s4 hcT => ?_
      have hlq4 := s4 _ _ (sT _ _ hlq)
      walk_at "go"
      intro y dy ny ndy hne
      have ny' : upd H4 dy (.own y) y = none := by rw [upd_ne (Ne.symm hne)]; exact ny
      have sX : Same H4 (upd (upd H4 dy (.own y)) y (.ins T.C_Ladder dy [])) := (U.same_new ndy).trans (U.same_new ny')
      have hcat : (upd (upd H4 dy (.own y)) y (.ins T.C_Ladder dy [])) c = some (.tup ((ns ++ [m]).map V.int)) := by
        rw [sX _ _ hcT, List.map_append]; rfl
      refine ⟨y, dy, c, ns ++ [m], rfl, upd_same, hcat, by rw [List.length_append]; show _ + 1 ≤ _; omega, fun la3 lp3 ls3 row4 pl3 H5 lx3 ok3 off3 => ⟨rfl, ?_⟩⟩
      cases hrow2.uniq ok3.row
      have rl2 := hrow2.len
      have s5 : Same H4 H5 := fun c u e => off3 c u (ne_of_none e ny) (sX c u e)
      rw [List.length_append] at rl2
      have rl2 : row2.length = ns.length + 1 := rl2
      walk_at "go"
      refine ⟨y, dy, _, rfl, lx3.hi, lad_no (by decide +kernel) (by decide +kernel) (by decide +kernel) la3 lp3 ls3, ?_⟩
      walk_at "go"
      refine ⟨y, dy, la3, lp3, ls3, row2, pl3, s, rfl, lx3, ok3.up, by rw [ok3.len, ok3.pln], by omega, by omega, by omega, fun lr H6 nlr s6 hlr => ?_⟩
      obtain ⟨ys, ey⟩ := tab_end (cs (rowF row2)) s row2.length
      obtain ⟨zs, ez⟩ := tab_end (cs (rowF row)) s row.length
      walk_at "go"
      refine U.g_ix (Or.inl (SqL.of hlr)) (at_end (map_end oV ey)) ?_
      rw [hv1]
      walk_at "go"
      refine U.g_ix (Or.inl (SqL.of (s6 _ _ (s5 _ _ hlq4)))) (at_end (map_end oV ez)) ?_
      rw [hu1]
      refine U.g_subI ?_
      exact kk _ (((s03.trans sT).trans s4).trans (s5.trans s6))
end
end Toy

namespace LM
open PySem L2 U M
theorem ints_dp {K : PySem.W.Frag} {H : Hp} : ∀ ns : List Int, DpAll K H (ns.map V.int) (ns.map PyData.int)
  | [] => .nil
  | n :: r => .cons (.int n) (ints_dp r)
theorem ints_shaped (ns : List Int) : SeqAt.shaped (.list (ns.map PyData.int)) = true := by
  unfold SeqAt.shaped
  rw [Bool.and_eq_true]
  refine ⟨lay_all fun d hd => ?_, decide_eq_true ?_⟩
  · obtain ⟨p, hp, rfl⟩ := List.mem_map.mp hd
    rfl
  · have := MD.depth_ints ns
    simp only [PyData.depth]
    omega
/-- a list of ints != [] -/
theorem g_neNil {K : PySem.W.Frag} {H : Hp} {Q : VK} {l m : Addr} {ns : List Int} (hl : SqL K H l (ns.map V.int)) (hm : SqL K H m []) (q : Q (.bl (!ns.isEmpty)) H) : uEq K true (.ref l) (.ref m) H Q := by
  refine Or.inr ⟨.list (ns.map PyData.int), .list [], Dp.lst hl (ints_dp ns), Dp.lst hm .nil, ints_shaped ns, by decide +kernel, ?_⟩
  have e : PyData.eqv (.list (ns.map PyData.int)) (.list []) = ns.isEmpty := by
    cases ns with
    | nil => simp only [List.map_nil, PyData.eqv, PyData.eqvAll, List.isEmpty_nil]
    | cons n r => simp only [List.map_cons, PyData.eqv, PyData.eqvAll, List.isEmpty_cons]
  rw [e, if_pos rfl]
  exact q
def upW (w : Int) : Int := if w = 0 then 3 else if w = 1 then 9 else if w = 2 then 2000 else 7
def ofW (w : Int) : Int := if w = 0 then 0 else if w = 1 then -4 else if w = 2 then -1000 else 999990
theorem w_at {w : Int} (h0 : 0 ≤ w) (h1 : w < 4) : ([.int 3, .int 9, .int 2000, .int 7] : List V)[w.toNat]? = some (.int (upW w)) ∧ ([.int 0, .int (-4), .int (-1000), .int 999990] : List V)[w.toNat]? = some (.int (ofW w)) ∧ 0 < upW w ∧ upW w < 2 ^ 62 ∧ ∀ r : Int, 0 ≤ r → r < upW w → -1000000 ≤ r + ofW w ∧ r + ofW w ≤ 1000000 := by
  have : w = 0 ∨ w = 1 ∨ w = 2 ∨ w = 3 := by omega
  rcases this with rfl | rfl | rfl | rfl
  all_goals
    refine ⟨rfl, rfl, by decide, by decide, fun r r0 r1 => ?_⟩
    unfold upW at r1
    unfold ofW
    simp at r1 ⊢
    omega
end LM
namespace Toy
open PySem L2 U M LM
theorem sb_free {p a : Addr} {n : Nat} {H H' : Hp} (s : SB p H H') (hp : PotAt H' p n) (na : H' a = none) : H a = none := by
  cases e : H a with
  | none => rfl
  | some o =>
    have := s a o e (pot_ne hp na)
    rw [na] at this
    cases this
theorem mapI_at {ms : List Int} {j : Nat} {y : V} (h : (ms.map V.int)[j]? = some y) : ∃ z ∈ ms, y = .int z := by
  obtain ⟨z, hz, e⟩ := List.mem_map.mp (List.mem_of_getElem? h)
  exact ⟨z, hz, e.symm⟩
section
variable {P : Program} {w : World} {K : PySem.W.Frag} {mg : Str → Option Value} {base : Heap}
theorem sc__law_line_values : FnScope ["pot", "most", "amount", "way", "some", "found", "lap"] ["pot", "most"] (defScope s__law_line_values) := ⟨rfl, rfl, rfl, by decide +kernel, rfl, by decide +kernel, by decide +kernel⟩
def sp_lvals : Sp := fun vs H Q _ => ∃ (p : Addr) (m n : Nat), vs = [.ref p, .int m] ∧ m ≤ 60 ∧ PotAt H p (n + 2 * m + 20) ∧ ∀ (q : Addr) (ns : List Int) (H' : Hp), H q = none → H' q = some (.tup (ns.map V.int)) → ns.length ≤ m → inB ns → PotAt H' p n → SB p H H' → Q (.ref q) H'
theorem ok__law_line_values (T : Tx K mg) : FnOk P w K mg base CX0 3 T.a__law_line_values T.fd__law_line_values ["pot", "most"] sp_lvals := by
  refine T.F__law_line_values.ok sc__law_line_values (fun vs H Q E h => ?_) (fun cdv A outer s H vs Q E hr h => ?_)
  · obtain ⟨p, m, n, rfl, _⟩ := h
    rfl
  · obtain ⟨p, m, n, rfl, hm, hp, kk⟩ := h
    have hu := hu_of hr
    have hu64 := hr.units
    refine ⟨_, (pss_cons (ps_asg (pe_tup (pa_cons (pe_call (ok__law_take T) (hr.mono (by decide)) rfl T.m__law_take T.F__law_take.kp (b__law_take T) .nil pass0 (pa_cons (pv 0) (pa_cons (pe_op (op_uAdd (K := K) rfl) (pv 1) (pe_int)) pa_nil))) (pa_cons (pe_call (ok__law_take T) (hr.mono (by decide)) rfl T.m__law_take T.F__law_take.kp (b__law_take T) .nil pass0 (pa_cons (pv 0) (pa_cons (pe_int) pa_nil))) pa_nil))) (u_gtup (K := K) (n := 2) rfl rfl (pgs_cons (pg_name (i := 2) sc__law_line_values.nd rfl (Or.inl rfl)) (pgs_cons (pg_name (i := 3) sc__law_line_values.nd rfl (Or.inr rfl)) pgs_nil))))
        (pss_cons (ps_set (i := 4) sc__law_line_values.nd rfl (Or.inr rfl) (pe_lc rfl sc__law_line_values.nd (pi_range1 (by rfl) T.n_range (pa_cons (pe_op (op_uAdd (K := K) rfl) (pe_int) (pv 2)) pa_nil)) (blkOk_by (own := [("lap", 6)]) (N := ["pot", "most", "amount", "way", "some", "found", "lap"]) (sc := defScope s__law_line_values) (by decide +kernel)) (fun _ _ _ _ _ => (pg_name (i := 6) sc__law_line_values.nd rfl (Or.inl rfl))) (fun _ _ _ _ _ => pts_nil) (fun _ _ _ _ _ => (pe_callTy call_uInt (by rfl) T.n_int (by decide +kernel) (pa_cons (pe_op (op_uAdd (K := K) rfl) (pe_call (ok__law_take T) (hr.mono (by decide)) rfl T.m__law_take T.F__law_take.kp (b__law_take T) .nil pass0 (pa_cons (pv 0) (pa_cons (pe_ix (ix_u (K := K) rfl) (pe_lst (pa_cons (pe_int) (pa_cons (pe_int) (pa_cons (pe_int) (pa_cons (pe_int) pa_nil))))) (pv 3) (fun _ _ => rfl)) pa_nil))) (pe_ix (ix_u (K := K) rfl) (pe_lst (pa_cons (pe_int) (pa_cons (pe_un op_uNeg (pe_int)) (pa_cons (pe_un op_uNeg (pe_int)) (pa_cons (pe_int) pa_nil))))) (pv 3) (fun _ _ => rfl))) pa_nil)))))
        (pss_cons (ps_setLc (i := 5) rfl sc__law_line_values.nd rfl rfl (sw_true rfl rfl rfl (by decide +kernel)) (pi_range1 (by rfl) T.n_range (pa_cons (pv 2) pa_nil)) (blkOk_by (own := [("lap", 6)]) (N := ["pot", "most", "amount", "way", "some", "found", "lap"]) (sc := defScope s__law_line_values) (by decide +kernel)) (fun _ _ _ _ _ => (pg_name (i := 6) sc__law_line_values.nd rfl (Or.inl rfl))) (fun _ _ _ _ _ => pts_nil) (fun _ _ _ _ _ => (pe_callTy call_uInt (by rfl) T.n_int (by decide +kernel) (pa_cons (pe_call (ok__law_of T) (hr.mono (by decide)) rfl T.m__law_of T.F__law_of.kp (b__law_of T) .nil pass0 (pa_cons (pv 0) (pa_cons (pv 4) pa_nil))) pa_nil))))
        (pss_cons (ps_if (PW.pt (pw_and (pt_cmpR (op_uNe (K := K) rfl hu64) (pv 5) (pe_lst pa_nil) (nomark _)) (pw_and1 (pt_cmpR (op_uEq (K := K) rfl hu64) (pe_call (ok__law_take T) (hr.mono (by decide)) rfl T.m__law_take T.F__law_take.kp (b__law_take T) .nil pass0 (pa_cons (pv 0) (pa_cons (pe_int) pa_nil))) (pe_int) (nomark _))))) (pss_one (ps_asg (pe_callTy call_uInt (by rfl) T.n_int (by decide +kernel) (pa_cons (pe_call (ok__law_of T) (hr.mono (by decide)) rfl T.m__law_of T.F__law_of.kp (b__law_of T) .nil pass0 (pa_cons (pv 0) (pa_cons (pe_lst (pa_cons (pe_op op_uPow (pe_int) (pe_int)) (pa_cons (pe_un op_uNeg (pe_op op_uPow (pe_int) (pe_int))) pa_nil))) pa_nil))) pa_nil)) (pg_sub (pv 5) (pe_call (ok__law_take T) (hr.mono (by decide)) rfl T.m__law_take T.F__law_take.kp (b__law_take T) .nil pass0 (pa_cons (pv 0) (pa_cons (pv 2) pa_nil))) set_list))) pss_nil)
        (pss_one (ps_ret (pe_callTy (call_uTuple (K := K) rfl) (by rfl) T.n_tuple (by decide +kernel) (pa_cons (pv 5) pa_nil)))))))), ?_⟩
    walk_at "st"
    walk_at "go"
    refine ⟨p, m + 1, n + 2 * m + 19, rfl, by omega, by omega, hp, fun r H1 r0 r1 hp1 s1 => ?_⟩
    obtain ⟨k, rfl⟩ : ∃ k : Nat, r = (k : Int) := ⟨r.toNat, by omega⟩
    walk_at "go"
    refine ⟨p, 4, n + 2 * m + 18, rfl, by decide, by decide, hp1, fun w H2 w0 w1 hp2 s2 => ?_⟩
    obtain ⟨wa, wb, wc, wd, we⟩ := w_at w0 w1
    walk_at "go"
    refine ⟨by show 2 ≤ sizeLine; decide, fun t nt => ?_⟩
    have s12 : SB p H (upd H2 t (.tup [.int (k : Int), .int w])) := (s1.trans s2).new nt
    have hp2' := hp2.new (o := .tup [.int (k : Int), .int w]) nt
    walk_at "go"
    generalize hH : upd H2 t (.tup [.int (k : Int), .int w]) = H3 at s12 hp2' ⊢
    refine e_rng (by omega) (by omega) ?_
    rw [show (1 + (k : Int)).toNat = k + 1 by omega]
    refine lcI_by walk_range (by omega) fun Ea nE => ⟨fun i acc H' => ∃ ms : List Int, acc = ms.map V.int ∧ ms.length = i ∧ inB ms ∧ PotAt H' p (n + 2 * m + 18 - i) ∧ SB p H H', ⟨[], rfl, rfl, (fun _ h => by cases h), hp2'.new nE, s12.new nE⟩, fun _ _ _ _ _ => trivial, ?turn, ?rest⟩
    case turn =>
      rintro i x acc H' _ A B hi hacc ⟨ms, rfl, ml, mb, hpi, si⟩ ⟨rfl, rfl⟩ kA kB
      have Ep : Ea ≠ p := pot_ne hp2' nE
      walk_at "go"
      refine ⟨rfl, ?_⟩
      walk_at "go"
      refine ⟨by decide, fun a na => ?_⟩
      walk_at "go"
      refine U.g_ix (Or.inl (SqL.of upd_same)) (U.at_nat (show w = ((w.toNat : Nat) : Int) by omega) wa) ?_
      walk_at "go"
      refine ⟨p, upW w, n + 2 * m + 18 - (i + 1), rfl, wc, wd, (hpi.new na).le (by omega), fun z H4 z0 z1 hp4 s4 => ?_⟩
      walk_at "go"
      refine ⟨by decide, fun b nb => ?_⟩
      walk_at "go"
      refine U.g_ix (Or.inl (SqL.of upd_same)) (U.at_nat (show w = ((w.toNat : Nat) : Int) by omega) wb) ?_
      walk_at "go"
      refine kA _ _ (get_new nb (s4 _ _ (get_new na hacc) Ep)) ⟨ms ++ [z + ofW w], by rw [List.map_append]; rfl, by rw [List.length_append, ml]; rfl, ?_, ((hp4.new nb).put (Ne.symm Ep)).le (by omega), ?_⟩
      · intro y hy
        rcases List.mem_append.mp hy with hy | hy
        · exact mb y hy
        · rw [List.mem_singleton] at hy
          subst hy
          exact we z z0 z1
      · exact (((si.new na).trans s4).new nb).mut (sb_free s12 hp2' nE)
    case rest =>
      rintro acc H4 hE ⟨ms, rfl, ml, mb, hp4, s4⟩
      walk_at "go"
      have Ep : Ea ≠ p := pot_ne hp2' nE
      refine e_rng (by omega) (by omega) ?_
      rw [show ((k : Int)).toNat = k by omega]
      refine lcI_by walk_range (by omega) fun Eb nE2 => ⟨fun i acc H' => ∃ ns : List Int, acc = ns.map V.int ∧ ns.length = i ∧ inB ns ∧ PotAt H' p (n + m + 10 - i) ∧ SB p H H' ∧ H' Ea = some (.lst (ms.map V.int)), ⟨[], rfl, rfl, (fun _ h => by cases h), (hp4.new nE2).le (by omega), s4.new nE2, get_new nE2 hE⟩, fun _ _ _ _ _ => trivial, ?turn2, ?rest2⟩
      case turn2 =>
        rintro i x acc H' _ A B hi hacc ⟨ns, rfl, nl, nb, hpi, si, hEa⟩ ⟨rfl, rfl⟩ kA kB
        have Ep2 : Eb ≠ p := pot_ne hp4 nE2
        have Eab : Ea ≠ Eb := ne_of_none hE nE2
        walk_at "go"
        refine ⟨rfl, ?_⟩
        walk_at "go"
        refine ⟨p, .ref Ea, n + m + 10 - (i + 1), rfl, hpi.le (by omega), Or.inl ⟨Ea, _, rfl, Or.inl (SqL.of hEa), by rw [List.length_map]; omega, by rw [List.length_map]; omega, fun H5 s5 => Or.inl (SqL.of (s5 _ _ hEa Ep)), fun j y H5 hy hp5 s5 => ?_⟩⟩
        obtain ⟨z, hz, rfl⟩ := mapI_at hy
        walk_at "go"
        refine kA _ _ (s5 _ _ hacc Ep2) ⟨ns ++ [z], by rw [List.map_append]; rfl, by rw [List.length_append, nl]; rfl, ?_, hp5.put (Ne.symm Ep2), (si.trans s5).mut (sb_free s4 hp4 nE2), get_ne Eab (s5 _ _ hEa Ep)⟩
        intro y hy
        rcases List.mem_append.mp hy with hy | hy
        · exact nb y hy
        · rw [List.mem_singleton] at hy
          subst hy
          exact mb y hz
      case rest2 =>
        rintro acc H5 hEb ⟨ns, rfl, nl, nb, hp5, s5, hEa⟩
        have Ep2 : Eb ≠ p := pot_ne hp4 nE2
        have fin : ∀ (ns' : List Int) (H6 : Hp), H6 Eb = some (.lst (ns'.map V.int)) → ns'.length = k → inB ns' → PotAt H6 p n → SB p H H6 → uTupC K [.ref Eb] H6 Q := fun ns' H6 h1 h2 h3 h4 h5 => by
          refine U.g_tupL (SqL.of h1) fun q nq => ?_
          exact kk q ns' _ (sb_free h5 h4 nq) upd_same (by omega) h3 (h4.new nq) (h5.new nq)
        walk_at "go"
        refine ⟨by decide, fun a na => ?_⟩
        have hp6 := (hp5.new (o := .lst []) na).le (show n + 10 ≤ n + m + 10 - k by omega)
        have s6 := s5.new (o := .lst []) na
        have hEb6 := get_new (o := .lst []) na hEb
        have nsl : (ns.map V.int).length = k := by rw [List.length_map, nl]
        refine g_neNil (SqL.of hEb6) (SqL.of upd_same) ?_
        generalize upd H5 a (.lst []) = H6 at hp6 s6 hEb6 ⊢
        refine ⟨_, rfl, U.g_2 (fun c => ?_) (fun c => ?_)⟩
        · have k0 : 0 < k := by
            cases ns with
            | nil => cases c
            | cons x r => rw [← nl]; exact Nat.succ_pos _
          walk_at "go"
          refine ⟨p, 6, n + 9, rfl, by decide, by decide, hp6, fun r6 H7 r60 r61 hp7 s7 => ?_⟩
          have hEb7 := s7 _ _ hEb6 Ep2
          have s07 := s6.trans s7
          walk_at "go"
          refine U.g_2 (fun c => ?_) (fun c => ?_)
          · walk_at "go"
            refine ⟨by decide, fun b nb' => ?_⟩
            refine ⟨p, .ref b, n + 8, rfl, (hp7.new nb').le (by omega), Or.inl ⟨b, _, rfl, Or.inl (SqL.of upd_same), by decide, by decide, fun H8 s8 => Or.inl (SqL.of (s8 _ _ upd_same (pot_ne hp7 nb'))), fun j y H8 hy hp8 s8 => ?_⟩⟩
            obtain ⟨z, rfl, z0, z1⟩ := intIn_out (all_at (f := intIn (-1000000) 1000000) (by decide +kernel) hy)
            have hEb8 := s8 _ _ (get_new nb' hEb7) Ep2
            have s08 := (s07.new nb').trans s8
            walk_at "go"
            refine ⟨p, k, n + 7, rfl, by omega, by omega, hp8, fun r9 H9 r90 r91 hp9 s9 => ?_⟩
            have hEb9 := s9 _ _ hEb8 Ep2
            have s09 := s08.trans s9
            refine U.g_setL hEb9 (show ixN (ns.map V.int).length r9 = some r9.toNat by unfold ixN; rw [nsl, if_pos r90, if_pos (by omega)]) ?_
            walk_at "go"
            refine fin (ns.set r9.toNat z) _ (by rw [upd_same, List.map_set]) (by rw [List.length_set, nl]) (fun y hy => ?_) ((hp9.put (Ne.symm Ep2)).le (by omega)) (s09.mut (sb_free s4 hp4 nE2))
            rcases List.mem_or_eq_of_mem_set hy with h | h
            · exact nb y h
            · subst h; exact ⟨z0, z1⟩
          · walk_at "go"
            exact fin ns _ hEb7 nl nb (hp7.le (by omega)) s07
        · have e : (!ns.isEmpty) = false := c
          walk_at "go"
          exact fin ns _ hEb6 nl nb (hp6.le (by omega)) s6
theorem sc__law_crowd_cost : FnScope ["members", "row", "one"] ["members"] (defScope s__law_crowd_cost) := ⟨rfl, rfl, rfl, by decide +kernel, rfl, by decide +kernel, by decide +kernel⟩
def sp_cost : Sp := fun vs H Q _ => ∃ (l : Addr) (ns row : List Int), vs = [.ref l] ∧ H l = some (.lst (ns.map V.int)) ∧ 0 < ns.length ∧ ns.length ≤ 1000 ∧ Row ns row ∧ ∀ H' : Hp, Same H H' → Q (.int (cs (rowF row) 0 row.length)) H'
theorem ok__law_crowd_cost (T : Tx K mg) : FnOk P w K mg base CX0 1 T.a__law_crowd_cost T.fd__law_crowd_cost ["members"] sp_cost := by
  refine T.F__law_crowd_cost.ok sc__law_crowd_cost (fun vs H Q E h => ?_) (fun cdv A outer s H vs Q E hr h => ?_)
  · obtain ⟨l, ns, row, rfl, _⟩ := h
    rfl
  · obtain ⟨l, ns, row, rfl, hl, l0, l1, hrow, kk⟩ := h
    have hu := hu_of hr
    have hu64 := hr.units
    refine ⟨_, (pss_cons (ps_set (i := 1) sc__law_crowd_cost.nd rfl (Or.inr rfl) (pe_callB (U.call_uSortI (K := K) rfl) (by rfl) T.n_sorted (by decide +kernel) (pa_cons (pv 0) pa_nil)))
        (pss_one (ps_ret (pe_callTy call_uInt (by rfl) T.n_int (by decide +kernel) (pa_cons (pe_callB (call_uSum (K := K) rfl rfl) (by rfl) T.n_sum (by decide +kernel) (pa_cons (pe_lc rfl sc__law_crowd_cost.nd (u_list (K := K) rfl (pv 1)) (blkOk_by (own := [("one", 2)]) (N := ["members", "row", "one"]) (sc := defScope s__law_crowd_cost) (by decide +kernel)) (fun _ _ _ _ _ => (pg_name (i := 2) sc__law_crowd_cost.nd rfl (Or.inl rfl))) (fun _ _ _ _ _ => pts_nil) (fun _ _ _ _ _ => (pe_callB call_uAbs (by rfl) T.n_abs (by decide +kernel) (pa_cons (pe_op op_uSub (pv 2) (pe_ix (ix_u (K := K) rfl) (pv 1) (pe_op op_uDiv (pe_callB (call_uLen (K := K) rfl) (by rfl) T.n_len (by decide +kernel) (pa_cons (pv 1) pa_nil)) (pe_int)) (fun _ _ => rfl))) pa_nil)))) pa_nil)) pa_nil))))), ?_⟩
    walk_at "st"
    walk_at "go"
    refine U.g_sortI (SqL.of hl) fun ns' q h1 h2 nq => ?_
    cases hrow.uniq ⟨h1, h2⟩
    have rl := hrow.len
    have sq := U.same_new (o := .lst (row.map V.int)) nq
    walk_at "go"
    refine e_list (SqL.of upd_same) ?_
    refine lcI_list (SqL.of upd_same) (by rw [List.length_map]; omega) (fun v => match v with | .int z => some (.int (ab (z - rowF row (row.length / 2)))) | _ => none) (fun x H2 A B hx s2 kA kB => ?t1) fun L1 H2 nL1 s2 hL1 => ?c1
    case t1 =>
      obtain ⟨n, hm, rfl⟩ := List.mem_map.mp hx
      have hq2 := s2 _ _ (upd_same (H := H) (o := .lst (row.map V.int)) (a := q))
      walk_at "go"
      refine ⟨rfl, ?_⟩
      walk_at "go"
      refine U.g_lenL (Or.inl (SqL.of hq2)) ?_
      walk_at "go"
      rw [List.length_map]
      refine U.g_ix (Or.inl (SqL.of hq2)) (U.at_nat (show (row.length : Int) / 2 = ((row.length / 2 : Nat) : Int) by omega) (show (row.map V.int)[row.length / 2]? = some (V.int (rowF row (row.length / 2))) by rw [List.getElem?_map, rowF_at (by omega)]; rfl)) ?_
      walk_at "go"
      exact kA _ _ rfl (Same.refl _)
    walk_at "go"
    have e : (row.map V.int).filterMap (fun v => match v with | .int z => some (V.int (ab (z - rowF row (row.length / 2)))) | _ => none) = (row.map fun z => ab (z - rowF row (row.length / 2))).map V.int := by
      rw [List.filterMap_map, List.map_map, ← List.filterMap_eq_map]
      rfl
    rw [e] at hL1
    refine U.g_sum (SqL.of hL1) ?_
    walk_at "go"
    have e2 : (row.map fun z => ab (z - rowF row (row.length / 2))).sum = cs (rowF row) 0 row.length := sum_cost row
    rw [e2]
    exact kk _ (sq.trans s2)
end
end Toy

namespace Toy
open PySem L2 U M LM
section
variable {P : Program} {w : World} {K : PySem.W.Frag} {mg : Str → Option Value} {base : Heap}
theorem sc__law_cut_costs : FnScope ["values", "least", "row", "found", "end", "some", "begin"] ["values", "least"] (defScope s__law_cut_costs) := ⟨rfl, rfl, rfl, by decide +kernel, rfl, by decide +kernel, by decide +kernel⟩
def sp_lcuts (K : PySem.W.Frag) : Sp := fun vs H Q _ => ∃ (b : Addr) (ns row : List Int) (s : Nat), vs = [.ref b, .int s] ∧ (SqL K H b (ns.map V.int) ∨ SqT K H b (ns.map V.int)) ∧ ns.length ≤ 200 ∧ Row ns row ∧ 1 ≤ s ∧ s ≤ 1000 ∧ ∀ (q : Addr) (H' : Hp), H q = none → Same H H' → H' q = some (.lst ((tab (cs (rowF row)) s row.length).map oV)) → Q (.ref q) H'
theorem ok__law_cut_costs (T : Tx K mg) : FnOk P w K mg base CX0 2 T.a__law_cut_costs T.fd__law_cut_costs ["values", "least"] (sp_lcuts K) := by
  refine T.F__law_cut_costs.ok sc__law_cut_costs (fun vs H Q E h => ?_) (fun cdv A outer s H vs Q E hr h => ?_)
  · obtain ⟨b, ns, row, s, rfl, _⟩ := h
    rfl
  · obtain ⟨b, ns, row, s, rfl, hb, hl, hrow, h1, h2, kk⟩ := h
    have hu := hu_of hr
    have hu64 := hr.units
    refine ⟨_, (pss_cons (ps_par rfl sc__law_cut_costs.nd (i := 2) (j := 3) rfl rfl (by decide) rfl rfl (pa_cons (pe_callB (ST.cr_sortLT (K := K) rfl) (by rfl) T.n_sorted (by decide +kernel) (pa_cons (pv 0) pa_nil)) (pa_cons (pe_lst (pa_cons (pe_int) pa_nil)) pa_nil)) (by rfl))
        (pss_cons (ps_for PassesOwn.never rfl (pi_range2 (by rfl) T.n_range (pa_cons (pe_int) (pa_cons (pe_op (op_uAdd (K := K) rfl) (pe_callB (call_uLen (K := K) rfl) (by rfl) T.n_len (by decide +kernel) (pa_cons (pv 2) pa_nil)) (pe_int)) pa_nil))) (pg_name (i := 4) sc__law_cut_costs.nd rfl (Or.inl rfl)) (pss_cons (ps_set (i := 5) sc__law_cut_costs.nd rfl (Or.inl rfl) (pe_lst pa_nil))
        (pss_cons (ps_for PassesOwn.never rfl (pi_range1 (by rfl) T.n_range (pa_cons (pe_op (op_uAdd (K := K) rfl) (pe_op op_uSub (pv 4) (pv 1)) (pe_int)) pa_nil)) (pg_name (i := 6) sc__law_cut_costs.nd rfl (Or.inl rfl)) (pss_one (ps_if (pt_cmpR op_notN (pe_ix (ix_u (K := K) rfl) (pv 3) (pv 6) (fun _ _ => rfl)) pe_non (nomark _)) (pss_one (ps_expr (pe_bm PySem.F.plainAttrs_list PySem.F.slot_list_append PySem.F.type_list_append mt_append (pv 5) (pa_cons (pe_op (op_uAdd (K := K) rfl) (pe_ix (ix_u (K := K) rfl) (pv 3) (pv 6) (fun _ _ => rfl)) (pe_call (ok__law_crowd_cost T) (hr.mono (by decide)) rfl T.m__law_crowd_cost T.F__law_crowd_cost.kp (b__law_crowd_cost T) .nil pass0 (pa_cons (pe_slice (sl_u (K := K) rfl) (pv 2) (po_some (pv 6)) (po_some (pv 4))) pa_nil))) pa_nil)))) pss_nil)))
        (pss_one (ps_expr (pe_bm PySem.F.plainAttrs_list PySem.F.slot_list_append PySem.F.type_list_append mt_append (pv 3) (pa_cons (pe_ifExp (pt_cmpR (op_uNe (K := K) rfl hu64) (pv 5) (pe_lst pa_nil) (nomark _)) (pe_callB (cr_min rfl) (by rfl) T.n_min (by decide +kernel) (pa_cons (pv 5) pa_nil)) (pe_non)) pa_nil)))))))
        (pss_one (ps_ret (pv 3))))), ?_⟩
    walk_at "st"
    walk_at "go"
    refine ST.g_sortLT hb fun ns' l p1 p2 nl => ?_
    cases hrow.uniq ⟨p1, p2⟩
    have rl := hrow.len
    have sl := U.same_new (o := .lst (row.map V.int)) nl
    walk_at "go"
    refine ⟨by decide, fun q nq => ?_⟩
    have sq := U.same_new (o := .lst [V.int 0]) nq
    have hl1 := sq _ _ (upd_same (H := H) (o := .lst (row.map V.int)) (a := l))
    have nq0 := U.nb1 nq
    have lq : l ≠ q := ne_of_none (upd_same (H := H) (o := .lst (row.map V.int)) (a := l)) nq
    walk_at "go"
    refine U.g_lenL (Or.inl (SqL.of hl1)) ?_
    walk_at "go"
    rw [List.length_map]
    refine e_rng2 (by omega) ?_
    rw [show ((row.length : Int) + 1 - 1).toNat = row.length by omega]
    refine forI_by walk_range (fun i σ' H' => ∃ (v4 v5 v6 : Option V), σ' = [some (.ref b), some (.int (s : Int)), some (.ref l), some (.ref q), v4, v5, v6] ∧ H' q = some (.lst ((tab (cs (rowF row)) s i).map oV)) ∧ H' l = some (.lst (row.map V.int)) ∧ Same H H') ⟨none, none, none, rfl, upd_same, hl1, sl.trans sq⟩ (fun _ _ _ _ _ => trivial) ?ts ?td
    case td =>
      rintro σ' H' ⟨v4, v5, v6, rfl, hq, _, s'⟩
      walk_at "go"
      exact kk q H' nq0 s' hq
    case ts =>
      rintro i y σ' H' _ hi ⟨v4, v5, v6, rfl, hq, hl', s'⟩ ⟨rfl, rfl⟩
      have tl : ((tab (cs (rowF row)) s i).map oV).length = i + 1 := by rw [List.length_map, tab_len]
      have tat : ∀ {b : Nat}, b ≤ i → ((tab (cs (rowF row)) s i).map oV)[b]? = some (oV (F (cs (rowF row)) s b)) := fun h => by rw [List.getElem?_map, tab_at _ _ h]; rfl
      walk_at "go"
      refine ⟨by decide, fun m nm => ?_⟩
      have sm0 := U.same_new (o := .lst []) nm
      have mq : q ≠ m := ne_of_none hq nm
      have ml : l ≠ m := ne_of_none hl' nm
      have nm0 := none_of s' nm
      walk_at "go"
      refine e_rng (by omega) (by omega) ?_
      rw [show (1 + (i : Int) - (s : Int) + 1).toNat = i + 2 - s by omega]
      refine forI_by walk_range (fun j σ' H2 => ∃ v6 : Option V, σ' = [some (.ref b), some (.int (s : Int)), some (.ref l), some (.ref q), some (.int (1 + (i : Int))), some (.ref m), v6] ∧ H2 q = some (.lst ((tab (cs (rowF row)) s i).map oV)) ∧ H2 l = some (.lst (row.map V.int)) ∧ H2 m = some (.lst ((cand (cs (rowF row)) (tab (cs (rowF row)) s i) 0 j (i + 1)).map V.int)) ∧ Same H H2) ⟨v6, rfl, sm0 _ _ hq, sm0 _ _ hl', upd_same, s'.trans sm0⟩ (fun _ _ _ _ _ => trivial) ?us ?ud
      case us =>
        rintro j z σ2 H2 _ hj ⟨v6, rfl, hq2, hl2, hm2, s2⟩ ⟨rfl, rfl⟩
        have hb' : j ≤ i := by omega
        have pt := put_tab (cs (rowF row)) s hb'
        have csucc : cand (cs (rowF row)) (tab (cs (rowF row)) s i) 0 (j + 1) (i + 1) = cand (cs (rowF row)) (tab (cs (rowF row)) s i) 0 j (i + 1) ++ (match F (cs (rowF row)) s j with | none => [] | some u => [u + cs (rowF row) j (i + 1)]) := by
          unfold cand
          rw [show j + 1 - 0 = j + 1 by omega, show j - 0 = j by omega, List.range'_concat, List.filterMap_append]
          congr 1
          rw [show 0 + 1 * j = j by omega]
          simp only [List.filterMap_cons, List.filterMap_nil, pt]
          cases F (cs (rowF row)) s j <;> rfl
        have cl : (cand (cs (rowF row)) (tab (cs (rowF row)) s i) 0 j (i + 1)).length ≤ j := by
          unfold cand
          refine Nat.le_trans (List.length_filterMap_le _ _) ?_
          rw [List.length_range']
          omega
        walk_at "go"
        refine U.g_ix (Or.inl (SqL.of hq2)) (U.at_nat (show (0 + (j : Int)) = ((j : Nat) : Int) by omega) (tat hb')) ?_
        cases hF : F (cs (rowF row)) s j with
        | none =>
          refine U.g_c ⟨rfl, _, rfl, U.g_F ?_⟩
          walk_at "go"
          exact ⟨_, rfl, hq2, hl2, by rw [hm2, csucc, hF, List.append_nil], s2⟩
        | some u =>
          refine U.g_c ⟨rfl, _, rfl, U.g_T ?_⟩
          walk_at "go"
          refine U.g_ix (Or.inl (SqL.of hq2)) (U.at_nat (show (0 + (j : Int)) = ((j : Nat) : Int) by omega) (tat hb')) ?_
          rw [hF]
          walk_at "go"
          refine U.g_slL (SqL.of hl2) fun c nc => ?_
          rw [show (0 + (j : Int)) = ((j : Nat) : Int) by omega, show (1 + (i : Int)) = ((i + 1 : Nat) : Int) by omega, cut_mid (by rw [List.length_map]; omega) (by omega), ← List.map_drop, ← List.map_take]
          have sc := U.same_new (o := .lst (((row.drop j).take (i + 1 - j)).map V.int)) nc
          have pl : ((row.drop j).take (i + 1 - j)).length = i + 1 - j := by rw [List.length_take, List.length_drop]; omega
          walk_at "go"
          refine ⟨c, _, _, rfl, upd_same, by omega, by omega, part_row hrow.up j (i + 1 - j), fun H3 s3 => ?_⟩
          rw [pl, cs_part (by omega) (by omega)]
          refine U.g_addI ?_
          walk_at "go"
          refine U.g_appL (s3 _ _ (sc _ _ hm2)) (by rw [List.length_map]; omega) ?_
          refine ⟨_, rfl, ?_, ?_, ?_, same_mut ((s2.trans sc).trans s3) nm0⟩
          · exact (upd_ne mq).trans (s3 _ _ (sc _ _ hq2))
          · exact (upd_ne ml).trans (s3 _ _ (sc _ _ hl2))
          · rw [upd_same, csucc, hF, List.map_append]
            rfl
      case ud =>
        rintro σ2 H2 ⟨v6, rfl, hq2, hl2, hm2, s2⟩
        walk_at "go"
        have fin : ∀ (H3 : Hp) (v : V), Same H2 H3 → v = oV (F (cs (rowF row)) s (i + 1)) → rAppend (V.ref q) [v] H3 fun _ H4 => ∃ (w4 w5 w6 : Option V), [some (.ref b), some (.int (s : Int)), some (.ref l), some (.ref q), some (.int (1 + (i : Int))), some (.ref m), v6] = [some (.ref b), some (.int (s : Int)), some (.ref l), some (.ref q), w4, w5, w6] ∧ H4 q = some (.lst ((tab (cs (rowF row)) s (i + 1)).map oV)) ∧ H4 l = some (.lst (row.map V.int)) ∧ Same H H4 := fun H3 v s3 hv => by
          refine U.g_appL (s3 _ _ hq2) (by rw [tl]; omega) ?_
          refine ⟨_, _, _, rfl, ?_, (upd_ne lq).trans (s3 _ _ hl2), same_mut (s2.trans s3) nq0⟩
          rw [upd_same, tab_succ, List.map_append, hv]
          rfl
        refine ⟨by decide, fun c nc => ?_⟩
        have sc := U.same_new (o := .lst []) nc
        refine g_neNil (SqL.of (sc _ _ hm2)) (SqL.of upd_same) ⟨_, rfl, U.g_2 (fun h => ?_) (fun h => ?_)⟩
        · walk_at "go"
          refine ⟨m, _, rfl, SqL.of (sc _ _ hm2), ?_, fun v m1 m2 => ?_⟩
          · generalize cand (cs (rowF row)) (tab (cs (rowF row)) s i) 0 (i + 2 - s) (i + 1) = xs at h
            cases xs with
            | nil => cases h
            | cons x r => exact Nat.succ_pos _
          · walk_at "go"
            refine fin _ _ sc ?_
            rw [F_succ, lmin_in m1 m2]
            rfl
        · walk_at "go"
          refine fin _ _ sc ?_
          rw [F_succ]
          generalize cand (cs (rowF row)) (tab (cs (rowF row)) s i) 0 (i + 2 - s) (i + 1) = xs at h
          cases xs with
          | nil => rfl
          | cons x r => cases h
theorem sc__law_least : FnScope ["values", "least"] ["values", "least"] (defScope s__law_least) := ⟨rfl, rfl, rfl, by decide +kernel, rfl, by decide +kernel, by decide +kernel⟩
def sp_least (K : PySem.W.Frag) : Sp := fun vs H Q _ => ∃ (b : Addr) (ns row : List Int) (s : Nat), vs = [.ref b, .int s] ∧ (SqL K H b (ns.map V.int) ∨ SqT K H b (ns.map V.int)) ∧ ns.length ≤ 200 ∧ Row ns row ∧ 1 ≤ s ∧ s ≤ 1000 ∧ ∀ H' : Hp, Same H H' → Q (oV (F (cs (rowF row)) s row.length)) H'
theorem ok__law_least (T : Tx K mg) : FnOk P w K mg base CX0 3 T.a__law_least T.fd__law_least ["values", "least"] (sp_least K) := by
  refine T.F__law_least.ok sc__law_least (fun vs H Q E h => ?_) (fun cdv A outer s H vs Q E hr h => ?_)
  · obtain ⟨b, ns, row, s, rfl, _⟩ := h
    rfl
  · obtain ⟨b, ns, row, s, rfl, hb, hl, hrow, h1, h2, kk⟩ := h
    have hu := hu_of hr
    have hu64 := hr.units
    refine ⟨_, (pss_one (ps_ret (pe_ix (ix_u (K := K) rfl) (pe_call (ok__law_cut_costs T) (hr.mono (by decide)) rfl T.m__law_cut_costs T.F__law_cut_costs.kp (b__law_cut_costs T) .nil pass0 (pa_cons (pv 0) (pa_cons (pv 1) pa_nil))) (pe_un op_uNeg (pe_int)) (fun _ _ => rfl)))), ?_⟩
    walk_at "st"
    walk_at "go"
    refine ⟨b, ns, row, s, rfl, hb, hl, hrow, h1, h2, fun q H1 nq s1 hq => ?_⟩
    walk_at "go"
    obtain ⟨ys, ey⟩ := tab_end (cs (rowF row)) s row.length
    refine U.g_ix (Or.inl (SqL.of hq)) (at_end (map_end oV ey)) ?_
    exact kk _ s1
end
end Toy

namespace Toy
open PySem L2 U M LM
section
variable {P : Program} {w : World} {K : PySem.W.Frag} {mg : Str → Option Value} {base : Heap}
theorem sc__law_middles_of : FnScope ["members", "some", "one", "costs", "best", "good", "place"] ["members"] (defScope s__law_middles_of) := ⟨rfl, rfl, rfl, by decide +kernel, rfl, by decide +kernel, by decide +kernel⟩
def sp_lmid : Sp := fun vs H Q _ => ∃ (l : Addr) (ms : List Int), vs = [.ref l] ∧ H l = some (.lst (ms.map V.int)) ∧ ms.Pairwise (· ≤ ·) ∧ 0 < ms.length ∧ ms.length ≤ 1000 ∧ ∀ t H', Same H H' → H' t = some (.tup [.int (rowF ms ((ms.length - 1) / 2)), .int (rowF ms (ms.length / 2)), .int (cs (rowF ms) 0 ms.length)]) → Q (.ref t) H'
theorem ok__law_middles_of (T : Tx K mg) : FnOk P w K mg base CX0 1 T.a__law_middles_of T.fd__law_middles_of ["members"] sp_lmid := by
  refine T.F__law_middles_of.ok sc__law_middles_of (fun vs H Q E h => ?_) (fun cdv A outer s H vs Q E hr h => ?_)
  · obtain ⟨l, ms, rfl, _⟩ := h
    rfl
  · obtain ⟨l, ms, rfl, hl, up, l0, l1, kk⟩ := h
    have hu := hu_of hr
    have hu64 := hr.units
    refine ⟨_, (pss_cons (ps_set (i := 1) sc__law_middles_of.nd rfl (Or.inl rfl) (pe_lst pa_nil))
        (pss_cons (ps_for PassesOwn.never rfl (u_list (K := K) rfl (pv 0)) (pg_name (i := 2) sc__law_middles_of.nd rfl (Or.inl rfl)) (pss_one (ps_expr (pe_bm PySem.F.plainAttrs_list PySem.F.slot_list_extend PySem.F.type_list_extend mt_extend (pv 1) (pa_cons (pe_lst (pa_cons (pe_op op_uSub (pv 2) (pe_int)) (pa_cons (pv 2) (pa_cons (pe_op (op_uAdd (K := K) rfl) (pv 2) (pe_int)) pa_nil)))) pa_nil)))))
        (pss_cons (ps_set (i := 3) sc__law_middles_of.nd rfl (Or.inr rfl) (pe_callTy (call_dictP rfl) (by rfl) T.n_dict (by decide +kernel) (pa_cons (pe_lc rfl sc__law_middles_of.nd (u_list (K := K) rfl (pv 1)) (blkOk_by (own := [("place", 6)]) (N := ["members", "some", "one", "costs", "best", "good", "place"]) (sc := defScope s__law_middles_of) (by decide +kernel)) (fun _ _ _ _ _ => (pg_name (i := 6) sc__law_middles_of.nd rfl (Or.inr rfl))) (fun _ _ _ _ _ => pts_nil) (fun _ _ _ _ _ => (pe_tup (pa_cons (pv 6) (pa_cons (pe_callB (call_uSum (K := K) rfl rfl) (by rfl) T.n_sum (by decide +kernel) (pa_cons (pe_lc rfl sc__law_middles_of.nd (u_list (K := K) rfl (pv 0)) (blkOk_by (own := [("one", 2)]) (by kernel_rfl)) (fun _ _ _ _ _ => (pg_name (i := 2) sc__law_middles_of.nd rfl (Or.inl rfl))) (fun _ _ _ _ _ => pts_nil) (fun _ _ _ _ _ => (pe_callB call_uAbs (by rfl) T.n_abs (by decide +kernel) (pa_cons (pe_op op_uSub (pv 2) (pv 6)) pa_nil)))) pa_nil)) pa_nil))))) pa_nil)))
        (pss_cons (ps_set (i := 4) sc__law_middles_of.nd rfl (Or.inr rfl) (pe_callB (U.call_uMinL (K := K) rfl rfl) (by rfl) T.n_min (by decide +kernel) (pa_cons (pe_lc rfl sc__law_middles_of.nd (u_list (K := K) rfl (pv 1)) (blkOk_by (own := [("place", 6)]) (N := ["members", "some", "one", "costs", "best", "good", "place"]) (sc := defScope s__law_middles_of) (by decide +kernel)) (fun _ _ _ _ _ => (pg_name (i := 6) sc__law_middles_of.nd rfl (Or.inl rfl))) (fun _ _ _ _ _ => pts_nil) (fun _ _ _ _ _ => (pe_dget hu (pv 3) (pv 6) (fun _ _ => rfl)))) pa_nil)))
        (pss_cons (ps_setLc (i := 5) rfl sc__law_middles_of.nd rfl rfl (sw_true rfl rfl rfl (by decide +kernel)) (u_list (K := K) rfl (pv 1)) (blkOk_by (own := [("place", 6)]) (N := ["members", "some", "one", "costs", "best", "good", "place"]) (sc := defScope s__law_middles_of) (by decide +kernel)) (fun _ _ _ _ _ => (pg_name (i := 6) sc__law_middles_of.nd rfl (Or.inl rfl))) (fun _ _ _ _ _ => (pts_one (pt_cmpR (op_uEq (K := K) rfl hu64) (pe_dget hu (pv 3) (pv 6) (fun _ _ => rfl)) (pv 4) (nomark _)))) (fun _ _ _ _ _ => (pv 6)))
        (pss_one (ps_ret (pe_tup (pa_cons (pe_callTy call_uInt (by rfl) T.n_int (by decide +kernel) (pa_cons (pe_callB (U.call_uMinL (K := K) rfl rfl) (by rfl) T.n_min (by decide +kernel) (pa_cons (pv 5) pa_nil)) pa_nil)) (pa_cons (pe_callTy call_uInt (by rfl) T.n_int (by decide +kernel) (pa_cons (pe_callB (U.call_uMaxL (K := K) rfl rfl) (by rfl) T.n_max (by decide +kernel) (pa_cons (pv 5) pa_nil)) pa_nil)) (pa_cons (pe_callTy call_uInt (by rfl) T.n_int (by decide +kernel) (pa_cons (pv 4) pa_nil)) pa_nil))))))))))), ?_⟩
    walk_at "st"
    walk_at "go"
    refine ⟨by decide, fun q nq => ?_⟩
    have sq := U.same_new (o := .lst []) nq
    walk_at "go"
    refine e_list (SqL.of (sq _ _ hl)) ?_
    -- all that is looked at
    refine forI_by (walk_list (K := K) (a := l) (xs := ms.map V.int)) (fun i σ' H' => ∃ (v2 : Option V) (ys : List Int), σ' = [some (.ref l), some (.ref q), v2, none, none, none, none] ∧ H' q = some (.lst (ys.map V.int)) ∧ ys.length = 3 * i ∧ (∀ y, y ∈ ys ↔ ∃ j, j < i ∧ (y = rowF ms j - 1 ∨ y = rowF ms j ∨ y = rowF ms j + 1)) ∧ Same H H') ⟨none, [], rfl, upd_same, rfl, (fun y => ⟨(fun h => by cases h), (fun ⟨j, h, _⟩ => absurd h (Nat.not_lt_zero _))⟩), sq⟩ (fun i σ' H' _ ⟨_, _, _, _, _, _, s'⟩ => SqL.of (s' _ _ hl)) ?ts ?td
    case ts =>
      rintro i y σ' _ H' hi ⟨v2, ys, rfl, hq, yl, ym, s'⟩ ⟨rfl, ey⟩
      rw [List.length_map] at hi
      rw [List.getElem?_map, rowF_at hi] at ey
      cases ey
      walk_at "go"
      refine ⟨by show 3 ≤ sizeLine; decide, fun m nm => ?_⟩
      walk_at "go"
      have sm0 := U.same_new (o := .lst [V.int (rowF ms i - 1), V.int (rowF ms i), V.int (rowF ms i + 1)]) nm
      refine U.g_ext (sm0 _ _ hq) upd_same (by rw [List.length_map]; show _ + 3 ≤ _; omega) ?_
      refine ⟨_, ys ++ [rowF ms i - 1, rowF ms i, rowF ms i + 1], rfl, ?_, by rw [List.length_append, yl]; show _ + 3 = _; omega, fun y => ?_, same_mut (s'.trans sm0) nq⟩
      · rw [upd_same, List.map_append]; rfl
      · rw [List.mem_append, ym]
        simp only [List.mem_cons, List.not_mem_nil, or_false]
        constructor
        · rintro (⟨j, hj, h⟩ | h)
          · exact ⟨j, by omega, h⟩
          · exact ⟨i, by omega, h⟩
        · rintro ⟨j, hj, h⟩
          rcases (show j < i ∨ j = i by omega) with c | c
          · exact .inl ⟨j, c, h⟩
          · subst c; exact .inr h
    case td =>
      rintro σ' H1 ⟨v2, ys, rfl, hq, yl, ym, s1⟩
      rw [List.length_map] at yl ym
      walk_at "go"
      have hl1 := s1 _ _ hl
      refine e_list (SqL.of hq) ?_
      refine lcI_by (walk_list (K := K) (a := q) (xs := ys.map V.int)) (by rw [List.length_map]; omega) fun Ea nE => ⟨fun i acc H' => Same H1 H' ∧ ∃ ps : List Addr, acc = ps.map V.ref ∧ Paired (fun p (kv : Key × V) => H' p = some (.tup [kV kv.1, kv.2])) ps ((ys.take i).map fun y => (Sum.inl y, V.int (lossY ms y))), ⟨U.same_new nE, [], rfl, .nil⟩, fun i acc H' _ p => SqL.of (p.1 _ _ hq), ?tn, fun acc H2 hE ⟨s2, ps, ea, pp⟩ => ?rs⟩
      case tn =>
        rintro i x acc _ H' A B hi hacc ⟨s2, ps, rfl, pp⟩ ⟨rfl, ex⟩ kA kB
        rw [List.length_map] at hi
        rw [List.getElem?_map, List.getElem?_eq_getElem hi] at ex
        cases ex
        walk_at "go"
        refine ⟨rfl, ?_⟩
        walk_at "go"
        refine e_list (SqL.of (s2 _ _ hl1)) ?_
        refine lcI_list (SqL.of (s2 _ _ hl1)) (by rw [List.length_map]; omega) (fun v => match v with | .int z => some (.int (ab (z - ys[i]))) | _ => none) (fun x H3 A B hx s3 kA kB => ?t1) fun L1 H3 nL1 s3 hL1 => ?c1
        case t1 =>
          obtain ⟨z, hz, rfl⟩ := List.mem_map.mp hx
          walk_at "go"
          refine ⟨rfl, ?_⟩
          walk_at "go"
          exact kA _ _ rfl (Same.refl _)
        have e3 : (ms.map V.int).filterMap (fun v => match v with | .int z => some (V.int (ab (z - ys[i]))) | _ => none) = (ms.map fun z => ab (z - ys[i])).map V.int := by
          rw [List.filterMap_map, List.map_map, ← List.filterMap_eq_map]
          rfl
        rw [e3] at hL1
        walk_at "go"
        refine U.g_sum (SqL.of hL1) ?_
        walk_at "go"
        refine ⟨by show 2 ≤ sizeLine; decide, fun t nt => ?_⟩
        have sT := U.same_new (o := .tup [V.int ys[i], V.int (ms.map fun z => ab (z - ys[i])).sum]) nt
        have hacc3 := sT _ _ (s3 _ _ hacc)
        refine kA _ _ hacc3 ⟨same_mut ((s2.trans s3).trans sT) nE, ps ++ [t], by rw [List.map_append]; rfl, ?_⟩
        have et : Ea ≠ t := ne_of_none (s3 _ _ hacc) nt
        rw [snoc_ex ys i hi, List.map_append]
        refine prd_snoc (prd_mono (fun p kv h => ?_) pp) ?_
        · have z := sT _ _ (s3 _ _ h)
          exact (upd_ne (ne_of z hacc3 (by intro z; cases z))).trans z
        · exact (upd_ne (Ne.symm et)).trans upd_same
      case rs =>
        subst ea
        rw [List.length_map, List.take_of_length_le (Nat.le_refl _)] at pp
        have hq2 := s2 _ _ hq
        walk_at "go"
        refine ⟨Ea, ps, _, rfl, SqL.of hE, prd_mono (fun p kv h => SqT.of h) pp, fun d nd => ?_⟩
        have hd : (upd H2 d (.dK (mergeK [] (ys.map fun y => (Sum.inl y, V.int (lossY ms y)))))) d = some (.dK (mergeK [] (ys.map fun y => (Sum.inl y, V.int (lossY ms y))))) := upd_same
        have sd := U.same_new (o := .dK (mergeK [] (ys.map fun y => (Sum.inl y, V.int (lossY ms y))))) nd
        have hq3 := sd _ _ hq2
        generalize upd H2 d (.dK (mergeK [] (ys.map fun y => (Sum.inl y, V.int (lossY ms y))))) = H3 at hd sd hq3 ⊢
        have look : ∀ {y : Int} {H' : Hp} {R : V → Prop}, Same H3 H' → y ∈ ys → R (.int (lossY ms y)) → ∃ a v, V.ref d = .ref a ∧ DGet H' a (.int y) (some v) ∧ R v := fun {y} {H'} {R} s' hy r => by
          refine ⟨d, .int (lossY ms y), rfl, ?_, r⟩
          have z := DGet.k (k := Sum.inl y) (s' _ _ hd)
          rw [merge_fn, if_pos hy] at z
          exact z
        walk_at "go"
        refine e_list (SqL.of hq3) ?_
        refine lcI_list (SqL.of hq3) (by rw [List.length_map]; omega) (fun v => match v with | .int y => some (.int (lossY ms y)) | _ => none) (fun x H' A B hx s' kA kB => ?t2) fun L2 H4 nL2 s4 hL2 => ?c2
        case t2 =>
          obtain ⟨y, hy, rfl⟩ := List.mem_map.mp hx
          walk_at "go"
          refine ⟨rfl, ?_⟩
          walk_at "go"
          exact look s' hy (kA _ _ rfl (Same.refl _))
        have e4 : (ys.map V.int).filterMap (fun v => match v with | .int y => some (V.int (lossY ms y)) | _ => none) = (ys.map (lossY ms)).map V.int := by
          rw [List.filterMap_map, List.map_map, ← List.filterMap_eq_map]
          rfl
        rw [e4] at hL2
        have M := rowF_mon up
        have mem : ∀ j, j < ms.length → rowF ms j ∈ ys := fun j hj => (ym _).mpr ⟨j, hj, .inr (.inl rfl)⟩
        have ge : ∀ y, cs (rowF ms) 0 ms.length ≤ lossY ms y := fun y => by rw [lossY_at]; exact cs_le M l0 (Nat.le_refl _) y
        have at1 : lossY ms (rowF ms ((ms.length - 1) / 2)) = cs (rowF ms) 0 ms.length := by rw [lossY_at]; exact low_mid M l0
        have at2 : lossY ms (rowF ms (ms.length / 2)) = cs (rowF ms) 0 ms.length := by
          rw [lossY_at]
          unfold cs
          rw [Nat.zero_add]
        have m1 := mem ((ms.length - 1) / 2) (by omega)
        have m2 := mem (ms.length / 2) (by omega)
        walk_at "go"
        refine U.g_minL (SqL.of hL2) (by rw [List.length_map]; omega) fun m hm hle => ?_
        have em : m = cs (rowF ms) 0 ms.length := by
          obtain ⟨y, hy, rfl⟩ := List.mem_map.mp hm
          have z := hle _ (List.mem_map_of_mem (f := lossY ms) m2)
          rw [at2] at z
          have := ge y
          omega
        subst em
        have hq4 := s4 _ _ hq3
        walk_at "go"
        refine e_list (SqL.of hq4) ?_
        refine lcI_list (SqL.of hq4) (by rw [List.length_map]; omega) (fun v => match v with | .int y => if lossY ms y = cs (rowF ms) 0 ms.length then some (.int y) else none | _ => none) (fun x H' A B hx s' kA kB => ?t3) fun L3 H5 nL3 s5 hL3 => ?c3
        case t3 =>
          obtain ⟨y, hy, rfl⟩ := List.mem_map.mp hx
          walk_at "go"
          refine ⟨rfl, ?_⟩
          walk_at "go"
          refine look (s4.trans s') hy ?_
          walk_at "go"
          rw [if_neg Bool.false_ne_true]
          refine U.g_2 (fun c => ?_) (fun c => ?_)
          · walk_at "go"
            exact kA _ _ (if_pos (V.int.inj (of_decide_eq_true c))) (Same.refl _)
          · exact kB (if_neg (fun z => of_decide_eq_false c (by rw [z]))) _ (Same.refl _)
        have e5 : (ys.map V.int).filterMap (fun v => match v with | .int y => if lossY ms y = cs (rowF ms) 0 ms.length then some (V.int y) else none | _ => none) = (ys.filter fun y => decide (lossY ms y = cs (rowF ms) 0 ms.length)).map V.int := by
          rw [List.filterMap_map, ← List.filterMap_eq_map, List.filterMap_filter]
          congr 1
          funext z
          show (if lossY ms z = cs (rowF ms) 0 ms.length then some (V.int z) else none) = _
          by_cases c : lossY ms z = cs (rowF ms) 0 ms.length
          · rw [if_pos c, if_pos (decide_eq_true c)]; rfl
          · rw [if_neg c, if_neg (by simpa using c)]
        rw [e5] at hL3
        have g1 : rowF ms ((ms.length - 1) / 2) ∈ ys.filter fun y => decide (lossY ms y = cs (rowF ms) 0 ms.length) := List.mem_filter.mpr ⟨m1, decide_eq_true at1⟩
        have g2 : rowF ms (ms.length / 2) ∈ ys.filter fun y => decide (lossY ms y = cs (rowF ms) 0 ms.length) := List.mem_filter.mpr ⟨m2, decide_eq_true at2⟩
        have bd : ∀ y ∈ ys.filter fun y => decide (lossY ms y = cs (rowF ms) 0 ms.length), rowF ms ((ms.length - 1) / 2) ≤ y ∧ y ≤ rowF ms (ms.length / 2) := fun y hy => by
          have e := of_decide_eq_true (List.mem_filter.mp hy).2
          rw [lossY_at] at e
          refine ⟨Int.not_lt.mp fun c => ?_, Int.not_lt.mp fun c => ?_⟩
          · have := far_lo M l0 c; omega
          · have := far_hi M l0 c; omega
        walk_at "go"
        refine U.g_minL (SqL.of hL3) (List.length_pos_of_mem g1) fun x hx hle => ?_
        have ex : x = rowF ms ((ms.length - 1) / 2) := by have := hle _ g1; have := (bd x hx).1; omega
        subst ex
        walk_at "go"
        refine U.g_maxL (SqL.of hL3) (List.length_pos_of_mem g2) fun x hx hge => ?_
        have ex : x = rowF ms (ms.length / 2) := by have := hge _ g2; have := (bd x hx).2; omega
        subst ex
        walk_at "go"
        refine ⟨by show 3 ≤ sizeLine; decide, fun t nt => ?_⟩
        exact kk t _ (((s1.trans s2).trans sd).trans ((s4.trans s5).trans (U.same_new nt))) upd_same
end
end Toy

namespace Toy
open PySem L2 U M LM
/-- l.pop(i) -/
theorem g_popAt {H : Hp} {Q : VK} {l : Addr} {xs : List V} {i : Int} {k : Nat} {y : V} (h : H l = some (.lst xs)) (e : i = (k : Int)) (hk : xs[k]? = some y) (hl : xs.length ≤ 1000000) (q : Q y (upd H l (.lst (xs.eraseIdx k)))) : rPopAt (.ref l) [.int i] H Q := by
  have lt : k < xs.length := (List.getElem?_eq_some_iff.mp hk).1
  refine ⟨l, xs, i, k, y, rfl, rfl, h, by omega, by omega, ?_, hk, q⟩
  subst e
  unfold seqIndex?
  simp
  omega
theorem perm_erase {α : Type} {xs : List α} {k : Nat} {y : α} (h : xs[k]? = some y) : (y :: xs.eraseIdx k).Perm xs := by
  induction xs generalizing k with
  | nil => simp at h
  | cons a r ih =>
    cases k with
    | zero => simp at h; subst h; exact List.Perm.refl _
    | succ k =>
      have := ih (k := k) (by simpa using h)
      rw [List.eraseIdx_cons_succ]
      exact (List.Perm.swap a y _).trans (this.cons a)
/-- crowds as tuples stay while tuples stay -/
theorem crs_ts {H H' : Hp} (t : TS H H') : ∀ {cv : List V} {nss : List (List Int)}, Paired (CrAt H) cv (nss.map fun ns => some (ns.map V.int)) → Paired (CrAt H') cv (nss.map fun ns => some (ns.map V.int))
  | [], [], _ => .nil
  | v :: cv, k :: nss, .cons h r => by
    obtain ⟨a, e, h1, h2⟩ := h
    exact .cons ⟨a, e, t _ _ h1, h2⟩ (crs_ts t r)
theorem ints_all (ns : List Int) : (ns.map V.int).all plainV = true := by rw [List.all_map]; exact List.all_eq_true.mpr fun _ _ => rfl
theorem nd_lt {ks : List Int} (nd : ks.Nodup) (h : ks.Pairwise (· ≤ ·)) : ks.Pairwise (· < ·) := by
  refine List.Pairwise.imp₂ (fun a b (h1 : a ≤ b) (h2 : a ≠ b) => ?_) h nd
  omega
theorem rangeI_nd (n : Nat) : (rangeI n).Nodup := by
  unfold rangeI
  exact List.Pairwise.map _ (fun a b (h : a ≠ b) z => h (by omega)) List.nodup_range
theorem flat_ge : ∀ {nss : List (List Int)}, (∀ ns ∈ nss, 1 ≤ ns.length) → nss.length ≤ nss.flatten.length
  | [], _ => Nat.zero_le _
  | a :: r, h => by
    have h1 := h a List.mem_cons_self
    have h2 := flat_ge (nss := r) fun n hn => h n (List.mem_cons_of_mem _ hn)
    rw [List.flatten_cons, List.length_append, List.length_cons]
    omega
section
variable {P : Program} {w : World} {K : PySem.W.Frag} {mg : Str → Option Value} {base : Heap}
theorem sc__law_some : FnScope ["pot", "pool", "amount", "left", "found", "lap"] ["pot", "pool", "amount"] (defScope s__law_some) := ⟨rfl, rfl, rfl, by decide +kernel, rfl, by decide +kernel, by decide +kernel⟩
def sp_some (K : PySem.W.Frag) : Sp := fun vs H Q _ => ∃ (p l : Addr) (xs : List V) (k n : Nat), vs = [.ref p, .ref l, .int k] ∧ SqL K H l xs ∧ k ≤ xs.length ∧ xs.length ≤ 1000 ∧ PotAt H p (n + k) ∧ ∀ (q : Addr) (ys rest : List V) (H' : Hp), H q = none → H' q = some (.lst ys) → ys.length = k → (ys ++ rest).Perm xs → PotAt H' p n → SB p H H' → Q (.ref q) H'
theorem ok__law_some (T : Tx K mg) : FnOk P w K mg base CX0 2 T.a__law_some T.fd__law_some ["pot", "pool", "amount"] (sp_some K) := by
  refine T.F__law_some.ok sc__law_some (fun vs H Q E h => ?_) (fun cdv A outer s H vs Q E hr h => ?_)
  · obtain ⟨p, l, xs, k, n, rfl, _⟩ := h
    rfl
  · obtain ⟨p, l, xs, k, n, rfl, hl, hk, hx, hp, kk⟩ := h
    have hu := hu_of hr
    have hu64 := hr.units
    refine ⟨_, (pss_cons (ps_par rfl sc__law_some.nd (i := 3) (j := 4) rfl rfl (by decide) rfl rfl (pa_cons (pe_callTy (call_uList (K := K) rfl) (by rfl) T.n_list (by decide +kernel) (pa_cons (pv 1) pa_nil)) (pa_cons (pe_lst pa_nil) pa_nil)) (by rfl))
        (pss_cons (ps_for PassesOwn.never rfl (pi_range1 (by rfl) T.n_range (pa_cons (pv 2) pa_nil)) (pg_name (i := 5) sc__law_some.nd rfl (Or.inl rfl)) (pss_one (ps_expr (pe_bm PySem.F.plainAttrs_list PySem.F.slot_list_append PySem.F.type_list_append mt_append (pv 4) (pa_cons (pe_bm PySem.F.plainAttrs_list PySem.F.slot_list_pop PySem.F.type_list_pop mt_popAt (pv 3) (pa_cons (pe_call (ok__law_take T) (hr.mono (by decide)) rfl T.m__law_take T.F__law_take.kp (b__law_take T) .nil pass0 (pa_cons (pv 0) (pa_cons (pe_callB (call_uLen (K := K) rfl) (by rfl) T.n_len (by decide +kernel) (pa_cons (pv 3) pa_nil)) pa_nil))) pa_nil)) pa_nil)))))
        (pss_one (ps_ret (pv 4))))), ?_⟩
    walk_at "st"
    walk_at "go"
    refine U.g_lstC (Or.inl hl) fun a na => ?_
    walk_at "go"
    refine ⟨by decide, fun f nf => ?_⟩
    have na' := U.nb1 nf
    have fa : f ≠ a := U.nb2 nf
    have pa : a ≠ p := pot_ne hp na
    have pf : f ≠ p := pot_ne (hp.new (o := .lst xs) na) nf
    walk_at "go"
    refine e_rng (by omega) (by omega) ?_
    rw [Int.toNat_natCast]
    refine forI_by walk_range (fun i σ' H' => ∃ (v5 : Option V) (ys rest : List V), σ' = [some (.ref p), some (.ref l), some (.int (k : Int)), some (.ref a), some (.ref f), v5] ∧ H' a = some (.lst rest) ∧ H' f = some (.lst ys) ∧ ys.length = i ∧ (ys ++ rest).Perm xs ∧ PotAt H' p (n + k - i) ∧ SB p H H') ⟨none, [], xs, rfl, (upd_ne (Ne.symm fa)).trans upd_same, upd_same, rfl, List.Perm.refl _, ((hp.new na).new nf).le (by omega), ((SB.refl p H).new na).new nf⟩ (fun _ _ _ _ _ => trivial) ?ts ?td
    case td =>
      rintro σ' H' ⟨v5, ys, rest, rfl, ha, hf, yl, pm, hp', s'⟩
      walk_at "go"
      exact kk f ys rest H' na' hf yl pm (hp'.le (by omega)) s'
    case ts =>
      rintro i y σ' _ H' hi ⟨v5, ys, rest, rfl, ha, hf, yl, pm, hp', s'⟩ ⟨rfl, rfl⟩
      have lr : ys.length + rest.length = xs.length := by rw [← List.length_append]; exact pm.length_eq
      walk_at "go"
      refine U.g_lenL (Or.inl (SqL.of ha)) ?_
      walk_at "go"
      refine ⟨p, rest.length, n + k - (i + 1), rfl, by omega, by omega, hp'.le (by omega), fun r H2 r0 r1 hp2 s2 => ?_⟩
      have ha2 := s2 _ _ ha pa
      have hf2 := s2 _ _ hf pf
      have hj : r.toNat < rest.length := by omega
      walk_at "go"
      refine g_popAt ha2 (show r = ((r.toNat : Nat) : Int) by omega) (List.getElem?_eq_getElem hj) (by omega) ?_
      walk_at "go"
      have hf3 : (upd H2 a (.lst (rest.eraseIdx r.toNat))) f = some (.lst ys) := (upd_ne fa).trans hf2
      refine U.g_appL hf3 (by omega) ?_
      refine ⟨_, ys ++ [rest[r.toNat]], rest.eraseIdx r.toNat, rfl, (upd_ne (Ne.symm fa)).trans upd_same, upd_same, by rw [List.length_append, yl]; rfl, ?_, ((hp2.put (Ne.symm pa)).put (Ne.symm pf)), ((s'.trans s2).mut na).mut na'⟩
      refine List.Perm.trans ?_ pm
      rw [List.append_assoc]
      exact List.Perm.append_left ys (perm_erase (List.getElem?_eq_getElem hj))
theorem sc__law_crowds : FnScope ["pot", "amount", "least", "places", "found", "wide", "place"] ["pot", "amount", "least"] (defScope s__law_crowds) := ⟨rfl, rfl, rfl, by decide +kernel, rfl, by decide +kernel, by decide +kernel⟩
def sp_lcrowds : Sp := fun vs H Q _ => ∃ (p : Addr) (n s m : Nat), vs = [.ref p, .int n, .int s] ∧ n ≤ 60 ∧ 1 ≤ s ∧ s ≤ 60 ∧ (n = 0 ∨ s ≤ n) ∧ PotAt H p (m + 3 * n + 10) ∧ ∀ (t : Addr) (cv : List V) (nss : List (List Int)) (H' : Hp), H t = none → H' t = some (.tup cv) → Paired (CrAt H') cv (nss.map fun ns => some (ns.map V.int)) → CrowdsOk n s nss → nss.flatten.Perm (rangeI n) → nss.length ≤ 60 → PotAt H' p m → SB p H H' → Q (.ref t) H'
theorem ok__law_crowds (T : Tx K mg) : FnOk P w K mg base CX0 3 T.a__law_crowds T.fd__law_crowds ["pot", "amount", "least"] sp_lcrowds := by
  refine T.F__law_crowds.ok sc__law_crowds (fun vs H Q E h => ?_) (fun cdv A outer s H vs Q E hr h => ?_)
  · obtain ⟨p, n, s, m, rfl, _⟩ := h
    rfl
  · obtain ⟨p, n, s, m, rfl, hn, s1, s60, hns, hp, kk⟩ := h
    have hu := hu_of hr
    have hu64 := hr.units
    refine ⟨_, (pss_cons (ps_par rfl sc__law_crowds.nd (i := 3) (j := 4) rfl rfl (by decide) rfl rfl (pa_cons (pe_call (ok__law_some T) (hr.mono (by decide)) rfl T.m__law_some T.F__law_some.kp (b__law_some T) .nil pass0 (pa_cons (pv 0) (pa_cons (pe_listRg rfl rfl T.n_list (prg_1 rfl T.n_range (pv 1))) (pa_cons (pv 1) pa_nil)))) (pa_cons (pe_lst pa_nil) pa_nil)) (by rfl))
        (pss_cons (ps_while PassesOwn.never (PW.pt (pw_and (pt_cmpR op_uGe (pe_callB (call_uLen (K := K) rfl) (by rfl) T.n_len (by decide +kernel) (pa_cons (pv 3) pa_nil)) (pe_op op_uMul (pe_int) (pv 2)) (nomark _)) (pw_and1 (pt_cmpR op_uGt (pe_call (ok__law_take T) (hr.mono (by decide)) rfl T.m__law_take T.F__law_take.kp (b__law_take T) .nil pass0 (pa_cons (pv 0) (pa_cons (pe_int) pa_nil))) (pe_int) (nomark _))))) (pss_cons (ps_set (i := 5) sc__law_crowds.nd rfl (Or.inl rfl) (pe_op (op_uAdd (K := K) rfl) (pv 2) (pe_call (ok__law_take T) (hr.mono (by decide)) rfl T.m__law_take T.F__law_take.kp (b__law_take T) .nil pass0 (pa_cons (pv 0) (pa_cons (pe_op (op_uAdd (K := K) rfl) (pe_op op_uSub (pe_callB (call_uLen (K := K) rfl) (by rfl) T.n_len (by decide +kernel) (pa_cons (pv 3) pa_nil)) (pe_op op_uMul (pe_int) (pv 2))) (pe_int)) pa_nil)))))
        (pss_cons (ps_expr (pe_bm PySem.F.plainAttrs_list PySem.F.slot_list_append PySem.F.type_list_append mt_append (pv 4) (pa_cons (pe_callTy (call_uTuple (K := K) rfl) (by rfl) T.n_tuple (by decide +kernel) (pa_cons (pe_callB (U.call_uSortI (K := K) rfl) (by rfl) T.n_sorted (by decide +kernel) (pa_cons (pe_lc rfl sc__law_crowds.nd (u_list (K := K) rfl (pe_slice (sl_u (K := K) rfl) (pv 3) po_none (po_some (pv 5)))) (blkOk_by (own := [("place", 6)]) (N := ["pot", "amount", "least", "places", "found", "wide", "place"]) (sc := defScope s__law_crowds) (by decide +kernel)) (fun _ _ _ _ _ => (pg_name (i := 6) sc__law_crowds.nd rfl (Or.inl rfl))) (fun _ _ _ _ _ => pts_nil) (fun _ _ _ _ _ => (pe_callTy call_uInt (by rfl) T.n_int (by decide +kernel) (pa_cons (pv 6) pa_nil)))) pa_nil)) pa_nil)) pa_nil)))
        (pss_one (ps_set (i := 3) sc__law_crowds.nd rfl (Or.inl rfl) (pe_slice (sl_u (K := K) rfl) (pv 3) (po_some (pv 5)) po_none))))))
        (pss_one (ps_ret (pe_callTy (call_uTuple (K := K) rfl) (by rfl) T.n_tuple (by decide +kernel) (pa_cons (pe_op (op_uAdd (K := K) rfl) (pv 4) (pe_ifExp (pt_cmpR (op_uNe (K := K) rfl hu64) (pv 3) (pe_lst pa_nil) (nomark _)) (pe_lst (pa_cons (pe_callTy (call_uTuple (K := K) rfl) (by rfl) T.n_tuple (by decide +kernel) (pa_cons (pe_callB (U.call_uSortI (K := K) rfl) (by rfl) T.n_sorted (by decide +kernel) (pa_cons (pe_lc rfl sc__law_crowds.nd (u_list (K := K) rfl (pv 3)) (blkOk_by (own := [("place", 6)]) (N := ["pot", "amount", "least", "places", "found", "wide", "place"]) (sc := defScope s__law_crowds) (by decide +kernel)) (fun _ _ _ _ _ => (pg_name (i := 6) sc__law_crowds.nd rfl (Or.inl rfl))) (fun _ _ _ _ _ => pts_nil) (fun _ _ _ _ _ => (pe_callTy call_uInt (by rfl) T.n_int (by decide +kernel) (pa_cons (pv 6) pa_nil)))) pa_nil)) pa_nil)) pa_nil)) (pe_lst pa_nil))) pa_nil)))))), ?_⟩
    walk_at "st"
    walk_at "go"
    refine ⟨RgOk.of_le (by omega) (by omega) (by omega) (by omega), fun r nr => ?_⟩
    rw [rgV_int]
    have hpr := hp.new (o := .lst ((rangeI n).map V.int)) nr
    walk_at "go"
    refine ⟨p, r, (rangeI n).map V.int, n, m + 2 * n + 10, rfl, SqL.of upd_same, by rw [List.length_map, rangeI_len]; exact Nat.le_refl _, by rw [List.length_map, rangeI_len]; omega, hpr.le (by omega), fun a ys rest H1 na ha yl pm hp1 sb1 => ?_⟩
    have rest0 : rest = [] := by
      have := pm.length_eq
      rw [List.length_append, List.length_map, rangeI_len] at this
      exact List.length_eq_zero_iff.mp (by omega)
    subst rest0
    rw [List.append_nil] at pm
    obtain ⟨zs, rfl⟩ : ∃ zs : List Int, ys = zs.map V.int := by
      have : ∀ y ∈ ys, ∃ z, y = V.int z := fun y hy => by
        obtain ⟨z, _, e⟩ := List.mem_map.mp (pm.mem_iff.mp hy)
        exact ⟨z, e.symm⟩
      clear pm yl ha
      induction ys with
      | nil => exact ⟨[], rfl⟩
      | cons y r ih =>
        obtain ⟨z, rfl⟩ := this y List.mem_cons_self
        obtain ⟨zs, e⟩ := ih fun y hy => this y (List.mem_cons_of_mem _ hy)
        exact ⟨z :: zs, by rw [e]; rfl⟩
    have pz : zs.Perm (rangeI n) := by
      have := pm.map iOf
      rw [List.map_map, List.map_map, show (iOf ∘ V.int) = id from rfl, List.map_id, List.map_id] at this
      exact this
    have na0 := U.nb1 na
    have sbH : SB p H H1 := ((SB.refl p H).new nr).trans sb1
    have ap : a ≠ p := pot_ne hpr na
    walk_at "go"
    refine ⟨by decide, fun f nf => ?_⟩
    have pf : f ≠ p := pot_ne hp1 nf
    have nf0 := sb_free sbH hp1 nf
    walk_at "go"
    refine ⟨fun k σ' H' => ∃ (pl : Addr) (v5 v6 : Option V) (zs : List Int) (cv : List V) (nss : List (List Int)), σ' = [some (.ref p), some (.int (n : Int)), some (.int (s : Int)), some (.ref pl), some (.ref f), v5, v6] ∧ zs.length = k ∧ H' pl = some (.lst (zs.map V.int)) ∧ H' f = some (.lst cv) ∧ pl ≠ f ∧ pl ≠ p ∧ Paired (CrAt H') cv (nss.map fun ns => some (ns.map V.int)) ∧ CrowdsOk n s nss ∧ (nss.flatten ++ zs).Perm (rangeI n) ∧ (n = 0 ∨ s ≤ zs.length) ∧ PotAt H' p (m + 2 * zs.length + 10) ∧ SB p H H', ⟨zs.length, a, none, none, zs, [], [], rfl, rfl, get_new nf ha, upd_same, ne_of_none ha nf, ap, .nil, (fun _ h => by cases h), pz, ?_, (hp1.new nf).le ?_, sbH.new nf⟩, ?lp⟩
    · have := pz.length_eq; rw [rangeI_len] at this; rw [this]; exact hns
    · have := pz.length_eq; rw [rangeI_len] at this; omega
    case lp =>
      clear pm yl pz ha
      rintro k σ' H2 ⟨pl, v5, v6, zs, cv, nss, rfl, zl, hpl, hf, plf, plp, hcv, cok, pz, hzs, hp2, sb2⟩
      have zlen : nss.flatten.length + zs.length = n := by have := pz.length_eq; rw [rangeI_len, List.length_append] at this; exact this
      have ndz : zs.Nodup := (List.nodup_append.mp ((pz.nodup_iff).mpr (rangeI_nd n))).2.1
      have zrg : ∀ z ∈ zs, 0 ≤ z ∧ z < (n : Int) := fun z hz => rangeI_mem.mp (pz.mem_iff.mp (List.mem_append_right _ hz))
      -- a crowd of these places, as a new tuple
      have srt : ∀ {ws ks : List Int}, ws.Nodup → (∀ z ∈ ws, 0 ≤ z ∧ z < (n : Int)) → s ≤ ws.length → ks.Perm ws → ks.Pairwise (· ≤ ·) → ks.Pairwise (· < ·) ∧ (∀ x ∈ ks, 0 ≤ x ∧ x < (n : Int)) ∧ s ≤ ks.length := fun nd rg l pm up => ⟨nd_lt ((pm.nodup_iff).mpr nd) up, fun x hx => rg x (pm.mem_iff.mp hx), by rw [pm.length_eq]; exact l⟩
      have ng : nss.length ≤ nss.flatten.length := flat_ge fun ns h => Nat.le_trans s1 (cok ns h).2.2
      have lcv := prd_len hcv
      rw [List.length_map] at lcv
      have fin : ∀ (t : Addr) (cv2 : List V) (nss2 : List (List Int)) (H5 : Hp), H5 t = none → Paired (CrAt H5) cv2 (nss2.map fun ns => some (ns.map V.int)) → CrowdsOk n s nss2 → nss2.flatten.Perm (rangeI n) → PotAt H5 p (m + 5) → SB p H H5 → Q (.ref t) (upd H5 t (.tup cv2)) := fun t cv2 nss2 H5 nt hc2 ok2 pm2 hp5 sb5 => by
        have l2 := flat_ge fun ns h => Nat.le_trans s1 (ok2 ns h).2.2
        have l3 := pm2.length_eq
        rw [rangeI_len] at l3
        exact kk t cv2 nss2 _ (sb_free sb5 hp5 nt) upd_same (crs_ts (TS.new nt) hc2) ok2 pm2 (by omega) ((hp5.new nt).le (by omega)) (sb5.new nt)
      walk_at "go"
      refine U.g_lenL (Or.inl (SqL.of hpl)) ?_
      walk_at "go"
      rw [List.length_map]
      have fmI : ∀ ws : List Int, (ws.map V.int).filterMap (fun v => match v with | .int z => some (V.int z) | _ => none) = ws.map V.int := fun ws => by
        rw [List.filterMap_map, ← List.filterMap_eq_map]
        rfl
      refine U.g_2 (fun c => ?more) (fun c => ?last)
      case' more =>
        have c := of_decide_eq_true c
        walk_at "go"
        refine ⟨p, 4, m + 2 * zs.length + 9, rfl, by decide, by decide, hp2, fun r H3 r0 r1 hp3 s3 => ?_⟩
        have hpl3 := s3 _ _ hpl plp
        have hf3 := s3 _ _ hf pf
        have hcv3 := crs_ts (hp2.ts s3) hcv
        have sb3 := sb2.trans s3
        walk_at "go"
        refine U.g_2 (fun d => ?on) (fun d => ?off)
      case' on =>
        refine ⟨_, fun _ _ q => q, ?_⟩
        walk_at "go"
        refine U.g_lenL (Or.inl (SqL.of hpl3)) ?_
        walk_at "go"
        rw [List.length_map]
        refine ⟨p, (zs.length : Int) - 2 * (s : Int) + 1, m + 2 * zs.length + 8, rfl, by omega, by omega, hp3, fun r4 H4 r40 r41 hp4 s4 => ?_⟩
        obtain ⟨wd, ewd, wd0, wd1⟩ : ∃ wd : Nat, (s : Int) + r4 = (wd : Int) ∧ s ≤ wd ∧ wd + s ≤ zs.length := ⟨s + r4.toNat, by omega, by omega, by omega⟩
        have hpl4 := s4 _ _ hpl3 plp
        have hf4 := s4 _ _ hf3 pf
        have hcv4 := crs_ts (hp3.ts s4) hcv3
        have sb4 := sb3.trans s4
        walk_at "go"
        rw [ewd]
        refine U.g_slL (SqL.of hpl4) fun c1 nc1 => ?_
        rw [cut_take, ← List.map_take]
        have sc1 := U.same_new (o := .lst ((zs.take wd).map V.int)) nc1
        refine e_list (SqL.of upd_same) ?_
        refine lcI_list (SqL.of upd_same) (by rw [List.length_map, List.length_take]; omega) (fun v => match v with | .int z => some (.int z) | _ => none) (fun x H' A B hx s' kA kB => ?t1) fun L1 H5 nL1 s5 hL1 => ?c1
        case t1 =>
          obtain ⟨z, hz, rfl⟩ := List.mem_map.mp hx
          walk_at "go"
          refine ⟨rfl, ?_⟩
          walk_at "go"
          exact kA _ _ rfl (Same.refl _)
        rw [fmI] at hL1
        walk_at "go"
        refine U.g_sortI (SqL.of hL1) fun ks l2 p1 p2 nl2 => ?_
        have sl2 := U.same_new (o := .lst (ks.map V.int)) nl2
        walk_at "go"
        refine U.g_tupL (SqL.of upd_same) fun t nt => ?_
        have sT := U.same_new (o := .tup (ks.map V.int)) nt
        have s4T := ((sc1.trans s5).trans sl2).trans sT
        have hpT := hp4.same s4T
        have hplT := s4T _ _ hpl4
        have hfT := s4T _ _ hf4
        have hcvT := crs_ts (TS.of s4T) hcv4
        have sbT := sb4.trans (SB.of s4T)
        have ht : (upd (upd H5 l2 (.lst (ks.map V.int))) t (.tup (ks.map V.int))) t = some (.tup (ks.map V.int)) := upd_same
        generalize upd (upd H5 l2 (.lst (ks.map V.int))) t (.tup (ks.map V.int)) = H6 at hpT hplT hfT hcvT sbT ht ⊢
        have kok := srt (ndz.sublist (List.take_sublist wd zs)) (fun z hz => zrg z (List.mem_of_mem_take hz)) (by rw [List.length_take]; omega) p1 p2
        have kl : ks.length = wd := by rw [p1.length_eq, List.length_take]; omega
        walk_at "go"
        refine U.g_appL hfT (by omega) ?_
        have hpl7 : (upd H6 f (.lst (cv ++ [.ref t]))) pl = some (.lst (zs.map V.int)) := (upd_ne plf).trans hplT
        have hf7 : (upd H6 f (.lst (cv ++ [.ref t]))) f = some (.lst (cv ++ [.ref t])) := upd_same
        have ts7 : TS H6 (upd H6 f (.lst (cv ++ [.ref t]))) := TS.lst hfT
        have hcv7 : Paired (CrAt (upd H6 f (.lst (cv ++ [.ref t])))) (cv ++ [.ref t]) ((nss ++ [ks]).map fun ns => some (ns.map V.int)) := by
          rw [List.map_append]
          exact prd_snoc (crs_ts ts7 hcvT) ⟨t, rfl, ts7 _ _ ht, ints_all ks, by rw [List.length_map]; omega⟩
        have hp7 := hpT.put (a := f) (o := .lst (cv ++ [.ref t])) (Ne.symm pf)
        have sb7 : SB p H (upd H6 f (.lst (cv ++ [.ref t]))) := sbT.mut nf0
        generalize upd H6 f (.lst (cv ++ [.ref t])) = H7 at hpl7 hf7 hcv7 hp7 sb7 ⊢
        walk_at "go"
        refine U.g_slL (SqL.of hpl7) fun c2 nc2 => ?_
        rw [cut_from (by rw [List.length_map]; omega), ← List.map_drop]
        have dl : (zs.drop wd).length = zs.length - wd := List.length_drop ..
        refine ⟨zs.length - wd, by omega, c2, _, _, zs.drop wd, cv ++ [.ref t], nss ++ [ks], rfl, dl, upd_same, get_new nc2 hf7, (ne_of_none hf7 nc2).symm, pot_ne hp7 nc2, crs_ts (TS.new nc2) hcv7, fun q hq => ?_, ?_, .inr (by omega), (hp7.new nc2).le (by omega), sb7.new nc2⟩
        · rcases List.mem_append.mp hq with hq | hq
          · exact cok q hq
          · rw [List.mem_singleton] at hq; subst hq; exact kok
        · rw [List.flatten_append, List.append_assoc]
          refine List.Perm.trans (List.Perm.append_left _ ?_) pz
          have : (zs.take wd ++ zs.drop wd).Perm zs := by rw [List.take_append_drop]
          refine List.Perm.trans (List.Perm.append_right _ ?_) this
          simpa using p1
      case' last =>
        have hpl3 := hpl
        have hf3 := hf
        have hcv3 := hcv
        have sb3 := sb2
        have hp3 := hp2
        walk_at "go"
      all_goals
        walk_at "go"
        refine ⟨by decide, fun e ne => ?_⟩
        have se := U.same_new (o := .lst []) ne
        have hple := se _ _ hpl3
        have hfe := se _ _ hf3
        have hcve := crs_ts (TS.of se) hcv3
        have sbe := sb3.trans (SB.of se)
        have hpe := (hp3.same se).le (show m + 5 ≤ _ by omega)
        refine g_neNil (SqL.of hple) (SqL.of upd_same) ⟨_, rfl, U.g_2 (fun c => ?_) (fun c => ?_)⟩
        · have zpos : 0 < zs.length := by
            cases zs with
            | nil => cases c
            | cons => exact Nat.succ_pos _
          walk_at "go"
          refine e_list (SqL.of hple) ?_
          refine lcI_list (SqL.of hple) (by rw [List.length_map]; omega) (fun v => match v with | .int z => some (.int z) | _ => none) (fun x H' A B hx s' kA kB => (by
            obtain ⟨z, hz, rfl⟩ := List.mem_map.mp hx
            walk_at "go"
            refine ⟨rfl, ?_⟩
            walk_at "go"
            exact kA _ _ rfl (Same.refl _))) fun L1 H5 nL1 s5 hL1 => ?_
          rw [fmI] at hL1
          walk_at "go"
          refine U.g_sortI (SqL.of hL1) fun ks l2 p1 p2 nl2 => ?_
          have sl2 := U.same_new (o := .lst (ks.map V.int)) nl2
          walk_at "go"
          refine U.g_tupL (SqL.of upd_same) fun t nt => ?_
          have sT := U.same_new (o := .tup (ks.map V.int)) nt
          walk_at "go"
          refine ⟨by show 1 ≤ sizeLine; decide, fun u nu => ?_⟩
          have su := U.same_new (o := .lst [.ref t]) nu
          have s4T := ((s5.trans sl2).trans sT).trans su
          have ht : (upd (upd (upd H5 l2 (.lst (ks.map V.int))) t (.tup (ks.map V.int))) u (.lst [.ref t])) t = some (.tup (ks.map V.int)) := su _ _ upd_same
          have hu2 : (upd (upd (upd H5 l2 (.lst (ks.map V.int))) t (.tup (ks.map V.int))) u (.lst [.ref t])) u = some (.lst [.ref t]) := upd_same
          have hpT := hpe.same s4T
          have hfT := s4T _ _ hfe
          have hcvT := crs_ts (TS.of s4T) hcve
          have sbT := sbe.trans (SB.of s4T)
          generalize upd (upd (upd H5 l2 (.lst (ks.map V.int))) t (.tup (ks.map V.int))) u (.lst [.ref t]) = H6 at ht hu2 hpT hfT hcvT sbT ⊢
          refine U.g_cat hfT hu2 (by show _ + 1 ≤ _; omega) fun g ng => ?_
          have sg := U.same_new (o := .lst (cv ++ [.ref t])) ng
          have sz : s ≤ zs.length := by omega
          have kok := srt ndz zrg sz p1 p2
          have kl : ks.length = zs.length := p1.length_eq
          walk_at "go"
          refine U.g_tupL (SqL.of upd_same) fun r nr => ?_
          refine fin r (cv ++ [.ref t]) (nss ++ [ks]) _ nr ?_ (fun q hq => ?_) ?_ (hpT.same sg) (sbT.trans (SB.of sg))
          · rw [List.map_append]
            exact prd_snoc (crs_ts (TS.of sg) hcvT) ⟨t, rfl, sg _ _ ht, ints_all ks, by rw [List.length_map]; omega⟩
          · rcases List.mem_append.mp hq with hq | hq
            · exact cok q hq
            · rw [List.mem_singleton] at hq; subst hq; exact kok
          · rw [List.flatten_append]
            refine List.Perm.trans (List.Perm.append_left _ ?_) pz
            simpa using p1
        · have z0 : zs = [] := by
            cases zs with
            | nil => rfl
            | cons => cases c
          subst z0
          rw [List.append_nil] at pz
          walk_at "go"
          refine ⟨by decide, fun u nu => ?_⟩
          have su := U.same_new (o := .lst []) nu
          refine U.g_cat (su _ _ hfe) upd_same (by show _ + 0 ≤ _; omega) fun g ng => ?_
          rw [List.append_nil]
          have sg := U.same_new (o := .lst cv) ng
          have s4T := su.trans sg
          walk_at "go"
          refine U.g_tupL (SqL.of upd_same) fun r nr => ?_
          exact fin r cv nss _ nr (crs_ts (TS.of s4T) hcve) cok pz (hpe.same s4T) (sbe.trans (SB.of s4T))
end
end Toy

namespace LM
theorem lossP_bd {ns : List Int} (h : inB ns) {k : List Int} {z C : Int} (hz : -C ≤ z ∧ z ≤ C) : 0 ≤ lossP ns (k, z) ∧ lossP ns (k, z) ≤ (1000000 + C) * (k.length : Int) := by
  unfold lossP
  dsimp only
  induction k with
  | nil => simp
  | cons a r ih =>
    rw [List.map_cons, List.sum_cons, List.length_cons]
    have b := row_bd h a.toNat
    have g := ab_ge (rowF ns a.toNat - z)
    have l : ab (rowF ns a.toNat - z) ≤ 1000000 + C := by unfold ab; split <;> omega
    rw [show ((r.length + 1 : Nat) : Int) = (r.length : Int) + 1 by omega, Int.mul_add, Int.mul_one]
    omega
theorem lossL_bd {ns : List Int} (h : inB ns) {C : Int} : ∀ {nss : List (List Int)} {sh : List Int}, (∀ z ∈ sh, -C ≤ z ∧ z ≤ C) → 0 ≤ C → 0 ≤ lossL ns nss sh ∧ lossL ns nss sh ≤ (1000000 + C) * (nss.flatten.length : Int)
  | [], _, _, hC => ⟨Int.le_refl _, by show (0 : Int) ≤ _; simp⟩
  | k :: nss, [], _, hC => ⟨Int.le_refl _, by
      show (0 : Int) ≤ _
      exact Int.mul_nonneg (by omega) (by omega)⟩
  | k :: nss, z :: sh, hs, hC => by
    obtain ⟨i1, i2⟩ := lossL_bd h (C := C) (nss := nss) (sh := sh) (fun y hy => hs y (List.mem_cons_of_mem _ hy)) hC
    obtain ⟨p1, p2⟩ := lossP_bd h (k := k) (hs z List.mem_cons_self)
    have e : lossL ns (k :: nss) (z :: sh) = lossP ns (k, z) + lossL ns nss sh := by
      rw [lossL_eq, lossL_eq, List.zip_cons_cons, List.map_cons, List.sum_cons]
    rw [e, List.flatten_cons, List.length_append, show ((k.length + nss.flatten.length : Nat) : Int) = (k.length : Int) + (nss.flatten.length : Int) by omega, Int.mul_add]
    omega
end LM
namespace Toy
open PySem PySem.Spec PyProof.Rows L2 U M LM G QD KW
theorem forI_cut {σ : L2.St} {g : TG} {tb : TS} {D : Ends} {J : It} {H1 : Hp} (M : L2.St → Hp → Prop) (h1 : ∀ N : L2.St → Hp → Prop, (∀ σ' H', M σ' H' → N σ' H') → forI σ g tb { D with nx := N } J H1) (h2 : ∀ σ' H', M σ' H' → D.nx σ' H') : forI σ g tb D J H1 := h1 D.nx h2
theorem g_cutT {t : TT} {σ : L2.St} {H : Hp} {R : Bool → Hp → Prop} (P : Bool → Hp → Prop) (h1 : ∀ R : Bool → Hp → Prop, (∀ b H1, P b H1 → R b H1) → t σ H R) (h2 : ∀ b H1, P b H1 → R b H1) : t σ H R := h1 R h2
theorem tup_ne_pot {H : Hp} {p c : Addr} {n : Nat} {xs : List V} (h : PotAt H p n) (e : H c = some (.tup xs)) : c ≠ p := by
  obtain ⟨_, _, _, q, _⟩ := h
  exact ne_of e q (by intro z; cases z)
section
variable {P : Program} {w : World} {K : PySem.W.Frag} {mg : Str → Option Value} {base : Heap}
theorem sc__law_right : FnScope ["pot", "values", "row", "lap", "begin", "end", "low", "high", "best", "least", "parts", "shown", "due", "crowd", "one", "more", "place"] ["pot"] (defScope s__law_right) := ⟨rfl, rfl, rfl, by decide +kernel, rfl, by decide +kernel, by decide +kernel⟩
def sp_right : Sp := fun vs H Q _ => ∃ (p : Addr) (n : Nat), vs = [.ref p] ∧ PotAt H p (n + 300) ∧ ∀ H', PotAt H' p n → SB p H H' → Q (.bl true) H'
theorem ok__law_right (T : Tx K mg) : FnG P w K mg base 7 T.a__law_right T.fd__law_right ["pot"] sp_right := by
  refine okG T.F__law_right sc__law_right (fun vs H Q E h => ?_) (fun cdv A outer s H vs Q E hr hgd h => ?_)
  · obtain ⟨p, n, rfl, _⟩ := h
    rfl
  · obtain ⟨p, n, rfl, hp, kk⟩ := h
    have hu := hu_of hr
    have hu64 := hr.units
    refine ⟨_, (pss_cons (ps_set (i := 1) sc__law_right.nd rfl (Or.inr rfl) (pe_call (ok__law_line_values T) (hr.mono (by decide)) rfl T.m__law_line_values T.F__law_line_values.kp (b__law_line_values T) .nil pass0 (pa_cons (pv 0) (pa_cons (pe_int) pa_nil))))
        (pss_cons (ps_set (i := 2) sc__law_right.nd rfl (Or.inr rfl) (pe_callB (ST.cr_sortLT (K := K) rfl) (by rfl) T.n_sorted (by decide +kernel) (pa_cons (pv 1) pa_nil)))
        (pss_cons (ps_for PassesOwn.never rfl (pi_range1 (by rfl) T.n_range (pa_cons (pe_int) pa_nil)) (pg_name (i := 3) sc__law_right.nd rfl (Or.inl rfl)) (pss_cons (ps_if (pt_cmpR (op_uEq (K := K) rfl hu64) (pv 2) (pe_lst pa_nil) (nomark _)) (pss_one (ps_break)) pss_nil)
        (pss_cons (ps_set (i := 4) sc__law_right.nd rfl (Or.inl rfl) (pe_call (ok__law_take T) (hr.mono (by decide)) rfl T.m__law_take T.F__law_take.kp (b__law_take T) .nil pass0 (pa_cons (pv 0) (pa_cons (pe_callB (call_uLen (K := K) rfl) (by rfl) T.n_len (by decide +kernel) (pa_cons (pv 2) pa_nil)) pa_nil))))
        (pss_cons (ps_set (i := 5) sc__law_right.nd rfl (Or.inl rfl) (pe_callTy call_uInt (by rfl) T.n_int (by decide +kernel) (pa_cons (pe_op (op_uAdd (K := K) rfl) (pe_op (op_uAdd (K := K) rfl) (pv 4) (pe_int)) (pe_call (ok__law_take T) (hr.mono (by decide)) rfl T.m__law_take T.F__law_take.kp (b__law_take T) .nil pass0 (pa_cons (pv 0) (pa_cons (pe_op op_uSub (pe_callB (call_uLen (K := K) rfl) (by rfl) T.n_len (by decide +kernel) (pa_cons (pv 2) pa_nil)) (pv 4)) pa_nil)))) pa_nil)))
        (pss_cons (ps_asg (pe_call (ok__law_middles_of T) (hr.mono (by decide)) rfl T.m__law_middles_of T.F__law_middles_of.kp (b__law_middles_of T) .nil pass0 (pa_cons (pe_slice (sl_u (K := K) rfl) (pv 2) (po_some (pv 4)) (po_some (pv 5))) pa_nil)) (u_gtup (K := K) (n := 3) rfl rfl (pgs_cons (pg_name (i := 6) sc__law_right.nd rfl (Or.inl rfl)) (pgs_cons (pg_name (i := 7) sc__law_right.nd rfl (Or.inl rfl)) (pgs_cons (pg_name (i := 8) sc__law_right.nd rfl (Or.inl rfl)) pgs_nil)))))
        (pss_cons (ps_if (pt_cmpR (op_uNe (K := K) rfl hu64) (pe_callB (QD.call_rep (K := K) rfl hgd hu64) (by rfl) T.n_repr (by decide +kernel) (pa_cons (KW.pe_callK0 (ok_stretch_loss T) (hr.mono (by decide)) (by rfl) T.m_stretch_loss T.F_stretch_loss.kp (KW.kb0 (ks := ["end", "begin", "values"]) T.F_stretch_loss [2, 1, 0] (fun _ _ _ _ _ _ us hl => match us, hl with | [_, _, _], _ => rfl)) pass0 (pk_cons (pv 5) (pk_cons (pv 4) (pk_cons (pv 1) pk_nil)))) pa_nil)) (pe_callB (QD.call_rep (K := K) rfl hgd hu64) (by rfl) T.n_repr (by decide +kernel) (pa_cons (pv 8) pa_nil)) (nomark _)) (pss_one (ps_ret (pe_bl))) pss_nil)
        (pss_one (ps_if (pt_cmpR (op_uNe (K := K) rfl hu64) (pe_callB (QD.call_rep (K := K) rfl hgd hu64) (by rfl) T.n_repr (by decide +kernel) (pa_cons (KW.pe_callK0 (ok_middles T) (hr.mono (by decide)) (by rfl) T.m_middles T.F_middles.kp (KW.kb0 (ks := ["end", "begin", "values"]) T.F_middles [2, 1, 0] (fun _ _ _ _ _ _ us hl => match us, hl with | [_, _, _], _ => rfl)) pass0 (pk_cons (pv 5) (pk_cons (pv 4) (pk_cons (pv 1) pk_nil)))) pa_nil)) (pe_callB (QD.call_rep (K := K) rfl hgd hu64) (by rfl) T.n_repr (by decide +kernel) (pa_cons (pe_tup (pa_cons (pv 6) (pa_cons (pv 7) pa_nil))) pa_nil)) (nomark _)) (pss_one (ps_ret (pe_bl))) pss_nil))))))))
        (pss_cons (ps_set (i := 9) sc__law_right.nd rfl (Or.inl rfl) (pe_callTy call_uInt (by rfl) T.n_int (by decide +kernel) (pa_cons (pe_op (op_uAdd (K := K) rfl) (pe_int) (pe_call (ok__law_take T) (hr.mono (by decide)) rfl T.m__law_take T.F__law_take.kp (b__law_take T) .nil pass0 (pa_cons (pv 0) (pa_cons (pe_int) pa_nil)))) pa_nil)))
        (pss_cons (ps_if (PW.pt (pw_or (pt_cmpR (op_uEq (K := K) rfl hu64) (pe_callB (call_uLen (K := K) rfl) (by rfl) T.n_len (by decide +kernel) (pa_cons (pv 1) pa_nil)) (pe_int) (nomark _)) (pw_or1 (pt_cmpR op_uGe (pe_callB (call_uLen (K := K) rfl) (by rfl) T.n_len (by decide +kernel) (pa_cons (pv 1) pa_nil)) (pv 9) (nomark _))))) (pss_cons (ps_set (i := 10) sc__law_right.nd rfl (Or.inl rfl) (pe_call (ok__law_crowds T) (hr.mono (by decide)) rfl T.m__law_crowds T.F__law_crowds.kp (b__law_crowds T) .nil pass0 (pa_cons (pv 0) (pa_cons (pe_callB (call_uLen (K := K) rfl) (by rfl) T.n_len (by decide +kernel) (pa_cons (pv 1) pa_nil)) (pa_cons (pv 9) pa_nil)))))
        (pss_cons (ps_set (i := 11) sc__law_right.nd rfl (Or.inl rfl) (pe_callTy (call_uTuple (K := K) rfl) (by rfl) T.n_tuple (by decide +kernel) (pa_cons (pe_lc rfl sc__law_right.nd (u_tup (K := K) rfl (pv 10)) (blkOk_by (own := [("crowd", 13)]) (N := ["pot", "values", "row", "lap", "begin", "end", "low", "high", "best", "least", "parts", "shown", "due", "crowd", "one", "more", "place"]) (sc := defScope s__law_right) (by decide +kernel)) (fun _ _ _ _ _ => (pg_name (i := 13) sc__law_right.nd rfl (Or.inl rfl))) (fun _ _ _ _ _ => pts_nil) (fun _ _ _ _ _ => (pe_callTy call_uInt (by rfl) T.n_int (by decide +kernel) (pa_cons (pe_op (op_uAdd (K := K) rfl) (pe_call (ok__law_of T) (hr.mono (by decide)) rfl T.m__law_of T.F__law_of.kp (b__law_of T) .nil pass0 (pa_cons (pv 0) (pa_cons (pe_op (op_uAdd (K := K) rfl) (pv 2) (pe_lst (pa_cons (pe_int) pa_nil))) pa_nil))) (pe_call (ok__law_take T) (hr.mono (by decide)) rfl T.m__law_take T.F__law_take.kp (b__law_take T) .nil pass0 (pa_cons (pv 0) (pa_cons (pe_int) pa_nil)))) pa_nil)))) pa_nil)))
        (pss_cons (ps_set (i := 12) sc__law_right.nd rfl (Or.inl rfl) (pe_int))
        (pss_cons (ps_for PassesOwn.never rfl (ZT.pi_zipX (K := K) rfl (by rfl) T.n_zip (pa_cons (pv 10) (pa_cons (pv 11) pa_nil))) (u_gtup (K := K) (n := 2) rfl rfl (pgs_cons (pg_name (i := 13) sc__law_right.nd rfl (Or.inl rfl)) (pgs_cons (pg_name (i := 14) sc__law_right.nd rfl (Or.inr rfl)) pgs_nil))) (pss_one (ps_set (i := 12) sc__law_right.nd rfl (Or.inl rfl) (pe_op (op_uAdd (K := K) rfl) (pv 12) (pe_callB (call_uSum (K := K) rfl rfl) (by rfl) T.n_sum (by decide +kernel) (pa_cons (pe_lc rfl sc__law_right.nd (u_tup (K := K) rfl (pv 13)) (blkOk_by (own := [("place", 16)]) (N := ["pot", "values", "row", "lap", "begin", "end", "low", "high", "best", "least", "parts", "shown", "due", "crowd", "one", "more", "place"]) (sc := defScope s__law_right) (by decide +kernel)) (fun _ _ _ _ _ => (pg_name (i := 16) sc__law_right.nd rfl (Or.inl rfl))) (fun _ _ _ _ _ => pts_nil) (fun _ _ _ _ _ => (pe_callB call_uAbs (by rfl) T.n_abs (by decide +kernel) (pa_cons (pe_op op_uSub (pe_ix (ix_u (K := K) rfl) (pv 1) (pv 16) (fun _ _ => rfl)) (pv 14)) pa_nil)))) pa_nil))))))
        (pss_cons (ps_if (pt_cmpR (op_uNe (K := K) rfl hu64) (pe_callB (QD.call_rep (K := K) rfl hgd hu64) (by rfl) T.n_repr (by decide +kernel) (pa_cons (KW.pe_callK0 (ok_line_loss T) (hr.mono (by decide)) (by rfl) T.m_line_loss T.F_line_loss.kp (KW.kb0 (ks := ["shown", "crowds", "size", "values"]) T.F_line_loss [3, 2, 1, 0] (fun _ _ _ _ _ _ us hl => match us, hl with | [_, _, _, _], _ => rfl)) pass0 (pk_cons (pv 11) (pk_cons (pv 10) (pk_cons (pv 9) (pk_cons (pv 1) pk_nil))))) pa_nil)) (pe_callB (QD.call_rep (K := K) rfl hgd hu64) (by rfl) T.n_repr (by decide +kernel) (pa_cons (pe_callTy call_uInt (by rfl) T.n_int (by decide +kernel) (pa_cons (pv 12) pa_nil)) pa_nil)) (nomark _)) (pss_one (ps_ret (pe_bl))) pss_nil)
        (pss_cons (ps_set (i := 15) sc__law_right.nd rfl (Or.inl rfl) (pe_callTy call_uInt (by rfl) T.n_int (by decide +kernel) (pa_cons (pe_callB (call_uMax rfl) (by rfl) T.n_max (by decide +kernel) (pa_cons (pe_un op_uNeg (pe_op op_uPow (pe_int) (pe_int))) (pa_cons (pe_callB (call_uMin rfl) (by rfl) T.n_min (by decide +kernel) (pa_cons (pe_op op_uPow (pe_int) (pe_int)) (pa_cons (pe_op op_uSub (pe_op (op_uAdd (K := K) rfl) (pe_call (ok__law_of T) (hr.mono (by decide)) rfl T.m__law_of T.F__law_of.kp (b__law_of T) .nil pass0 (pa_cons (pv 0) (pa_cons (pe_op (op_uAdd (K := K) rfl) (pv 2) (pe_lst (pa_cons (pe_int) pa_nil))) pa_nil))) (pe_call (ok__law_take T) (hr.mono (by decide)) rfl T.m__law_take T.F__law_take.kp (b__law_take T) .nil pass0 (pa_cons (pv 0) (pa_cons (pe_int) pa_nil)))) (pe_int)) pa_nil))) pa_nil))) pa_nil)))
        (pss_one (ps_if (pt_cmpR op_notN (pe_call (ok__law_least T) (hr.mono (by decide)) rfl T.m__law_least T.F__law_least.kp (b__law_least T) .nil pass0 (pa_cons (pe_op (U.op_uAddA (K := K) rfl) (pv 1) (pe_tup (pa_cons (pv 15) pa_nil))) (pa_cons (pv 9) pa_nil))) pe_non (nomark _)) (pss_cons (ps_set (i := 12) sc__law_right.nd rfl (Or.inl rfl) (pe_op op_uSub (pe_call (ok__law_least T) (hr.mono (by decide)) rfl T.m__law_least T.F__law_least.kp (b__law_least T) .nil pass0 (pa_cons (pe_op (U.op_uAddA (K := K) rfl) (pv 1) (pe_tup (pa_cons (pv 15) pa_nil))) (pa_cons (pv 9) pa_nil))) (pe_call (ok__law_least T) (hr.mono (by decide)) rfl T.m__law_least T.F__law_least.kp (b__law_least T) .nil pass0 (pa_cons (pv 1) (pa_cons (pv 9) pa_nil)))))
        (pss_one (ps_if (pt_cmpR (op_uNe (K := K) rfl hu64) (pe_callB (QD.call_rep (K := K) rfl hgd hu64) (by rfl) T.n_repr (by decide +kernel) (pa_cons (KW.pe_callK0 (ok_one_more T) (hr.mono (by decide)) (by rfl) T.m_one_more T.F_one_more.kp (KW.kb0 (ks := ["value", "size", "values"]) T.F_one_more [2, 1, 0] (fun _ _ _ _ _ _ us hl => match us, hl with | [_, _, _], _ => rfl)) pass0 (pk_cons (pv 15) (pk_cons (pv 9) (pk_cons (pv 1) pk_nil)))) pa_nil)) (pe_callB (QD.call_rep (K := K) rfl hgd hu64) (by rfl) T.n_repr (by decide +kernel) (pa_cons (pe_callTy call_uInt (by rfl) T.n_int (by decide +kernel) (pa_cons (pv 12) pa_nil)) pa_nil)) (nomark _)) (pss_one (ps_ret (pe_bl))) pss_nil))) pss_nil)))))))) pss_nil)
        (pss_one (ps_ret (pe_bl)))))))), ?_⟩
    walk_at "st"
    walk_at "go"
    refine ⟨p, 20, n + 240, rfl, by decide, hp.le (by omega), fun b ns H1 nb hb hl hn hp1 s1 => ?_⟩
    walk_at "go"
    refine ST.g_sortLT (Or.inr (SqT.of hb)) fun row r pm up nr => ?_
    have hrow : Row ns row := ⟨pm, up⟩
    have rl := hrow.len
    have rb : ∀ n ∈ row, -1000000 ≤ n ∧ n ≤ 1000000 := fun n h => hn n (hrow.perm.mem_iff.mp h)
    have sr := U.same_new (o := .lst (row.map V.int)) nr
    have hr2 : (upd H1 r (.lst (row.map V.int))) r = some (.lst (row.map V.int)) := upd_same
    have hp2 := hp1.same sr
    have hb2 := sr _ _ hb
    have sp2 := s1.trans (SB.of sr)
    have rp : r ≠ p := pot_ne hp1 nr
    have bp : b ≠ p := tup_ne_pot hp2 hb2
    generalize upd H1 r (.lst (row.map V.int)) = H2 at sr hr2 hp2 hb2 sp2 ⊢
    walk_at "go"
    refine e_rng (by omega) (by omega) ?_
    refine forI_cut (fun σ' H' => ∃ (v3 v4 v5 v6 v7 v8 : Option V), σ' = [some (.ref p), some (.ref b), some (.ref r), v3, v4, v5, v6, v7, v8, none, none, none, none, none, none, none, none] ∧ PotAt H' p (n + 230) ∧ SB p H2 H') (fun N kN => ?_) ?_
    · refine forI_by walk_range (fun i σ' H' => ∃ (v3 v4 v5 v6 v7 v8 : Option V), σ' = [some (.ref p), some (.ref b), some (.ref r), v3, v4, v5, v6, v7, v8, none, none, none, none, none, none, none, none] ∧ PotAt H' p (n + 240 - 2 * i) ∧ SB p H2 H') ⟨none, none, none, none, none, none, rfl, hp2.le (by omega), SB.refl p H2⟩ (fun _ _ _ _ _ => trivial) ?ts ?td
      case td =>
        rintro σ' H' ⟨v3, v4, v5, v6, v7, v8, rfl, hp', s'⟩
        exact kN _ _ ⟨_, _, _, _, _, _, rfl, hp'.le (by omega), s'⟩
      case ts =>
        rintro i y σ' _ H' hi ⟨v3, v4, v5, v6, v7, v8, rfl, hp', s'⟩ ⟨rfl, rfl⟩
        have hi : i < 4 := by omega
        have hb' := s' _ _ hb2 bp
        have hr' := s' _ _ hr2 rp
        walk_at "go"
        refine ⟨by decide, fun e ne => ?_⟩
        have se := U.same_new (o := .lst []) ne
        refine g_eqL (ys := []) (SqL.of (se _ _ hr')) (SqL.of upd_same) ⟨_, rfl, U.g_2 (fun c => ?_) (fun c => ?_)⟩
        · walk_at "go"
          exact kN _ _ ⟨_, _, _, _, _, _, rfl, (hp'.same se).le (by omega), s'.trans (SB.of se)⟩
        · have l0 : 0 < row.length := by
            have c := of_decide_eq_false c
            exact List.length_pos_iff.mpr c
          have hpe := hp'.same se
          have hbe := se _ _ hb'
          have hre := se _ _ hr'
          have sbe := s'.trans (SB.of se)
          generalize upd H' e (.lst []) = H3 at hpe hbe hre sbe ⊢
          walk_at "go"
          refine U.g_lenL (Or.inl (SqL.of hre)) ?_
          walk_at "go"
          rw [List.length_map]
          refine ⟨p, row.length, n + 240 - 2 * i - 1, rfl, by omega, by omega, hpe.le (by omega), fun b0 H4 b00 b01 hp4 s4 => ?_⟩
          have hb4 := s4 _ _ hbe bp
          have hr4 := s4 _ _ hre rp
          obtain ⟨bg, rfl⟩ : ∃ bg : Nat, b0 = (bg : Int) := ⟨b0.toNat, by omega⟩
          walk_at "go"
          refine U.g_lenL (Or.inl (SqL.of hr4)) ?_
          walk_at "go"
          rw [List.length_map]
          refine ⟨p, (row.length : Int) - (bg : Int), n + 240 - 2 * (i + 1), rfl, by omega, by omega, hp4.le (by omega), fun e0 H5 e00 e01 hp5 s5 => ?_⟩
          have hb5 := s5 _ _ hb4 bp
          have hr5 := s5 _ _ hr4 rp
          have sb5 := (sbe.trans s4).trans s5
          obtain ⟨ed, eed, ed0, ed1⟩ : ∃ ed : Nat, (bg : Int) + 1 + e0 = (ed : Int) ∧ bg < ed ∧ ed ≤ row.length := ⟨bg + 1 + e0.toNat, by omega, by omega, by omega⟩
          walk_at "go"
          rw [eed]
          refine U.g_slL (SqL.of hr5) fun c nc => ?_
          rw [cut_mid (by rw [List.length_map]; omega) (by omega), ← List.map_drop, ← List.map_take]
          have sc := U.same_new (o := .lst (((row.drop bg).take (ed - bg)).map V.int)) nc
          have pl : ((row.drop bg).take (ed - bg)).length = ed - bg := by rw [List.length_take, List.length_drop]; omega
          walk_at "go"
          refine ⟨c, _, rfl, upd_same, (part_row up bg (ed - bg)).up, by omega, by omega, fun t H6 s6 ht => ?_⟩
          rw [pl, cs_part (by omega) (by omega), rowF_part row (by omega), rowF_part row (by omega)] at ht
          have hb6 := s6 _ _ (sc _ _ hb5)
          have hp6 := (hp5.same sc).same s6
          have sb6 := (sb5.trans (SB.of sc)).trans (SB.of s6)
          have e1 : bg + (ed - bg - 1) / 2 = (bg + ed - 1) / 2 := by omega
          have e2 : bg + (ed - bg) / 2 = (bg + ed) / 2 := by omega
          rw [e1, e2] at ht
          have cb : 0 ≤ cs (rowF row) bg ed ∧ cs (rowF row) bg ed ≤ 2000000000 := by
            refine ⟨cs_nonneg _ (by omega), ?_⟩
            have z := cs_bd (row := (row.drop bg).take (ed - bg)) (fun n hn => rb n (List.mem_of_mem_drop (List.mem_of_mem_take hn))) (ed - bg)
            rw [cs_part (by omega) (by omega)] at z
            omega
          walk_at "go"
          refine ⟨rfl, b, ns, row, bg, ed, rfl, hb6, by omega, hn, hrow, ed0, by omega, fun H7 s7 => ?_⟩
          walk_at "go"
          refine rep_I (by omega) (by omega) ?_
          walk_at "go"
          refine rep_I (by omega) (by omega) ?_
          walk_at "go"
          refine LM.ite_no (LM.ne_refl _) ?_
          walk_at "go"
          refine ⟨rfl, b, ns, row, bg, ed, rfl, s7 _ _ hb6, by omega, hn, hrow, ed0, by omega, fun t2 H8 s8 ht2 => ?_⟩
          have r1 := row_bd rb ((bg + ed - 1) / 2)
          have r2 := row_bd rb ((bg + ed) / 2)
          have rr : ∀ x ∈ [rowF row ((bg + ed - 1) / 2), rowF row ((bg + ed) / 2)], -10000000000 ≤ x ∧ x ≤ 10000000000 := fun x hx => by
            simp only [List.mem_cons, List.not_mem_nil, or_false] at hx
            rcases hx with rfl | rfl <;> omega
          walk_at "go"
          refine rep_tupI (ns := [rowF row ((bg + ed - 1) / 2), rowF row ((bg + ed) / 2)]) rr (by show 2 ≤ 1000; decide) (SqT.of ht2) ?_
          walk_at "go"
          refine ⟨by show 2 ≤ sizeLine; decide, fun t3 nt3 => ?_⟩
          have st3 := U.same_new (o := .tup [.int (rowF row ((bg + ed - 1) / 2)), .int (rowF row ((bg + ed) / 2))]) nt3
          walk_at "go"
          refine rep_tupI (ns := [rowF row ((bg + ed - 1) / 2), rowF row ((bg + ed) / 2)]) rr (by show 2 ≤ 1000; decide) (SqT.of upd_same) ?_
          walk_at "go"
          refine LM.ite_no (LM.ne_refl _) ?_
          walk_at "go"
          have s68 := (s7.trans s8).trans st3
          exact ⟨_, _, _, _, _, _, rfl, hp6.same s68, sb6.trans (SB.of s68)⟩
    rintro σ' H3 ⟨v3, v4, v5, v6, v7, v8, rfl, hp3, s3⟩
    have hb3 := s3 _ _ hb2 bp
    have hr3 := s3 _ _ hr2 rp
    have sp3 := sp2.trans s3
    dsimp only
    with_reducible refine U.g_seq ?_
    refine U.g_cutS (fun σ' H' => ∃ s : Nat, 1 ≤ s ∧ s ≤ 4 ∧ σ' = [some (.ref p), some (.ref b), some (.ref r), v3, v4, v5, v6, v7, v8, some (.int (s : Int)), none, none, none, none, none, none, none] ∧ PotAt H' p (n + 229) ∧ SB p H H' ∧ H' b = some (.tup (ns.map V.int)) ∧ H' r = some (.lst (row.map V.int))) (fun N kN => ?_) ?_
    · walk_at "go"
      refine ⟨p, 4, n + 229, rfl, by decide, by decide, hp3, fun l0 H4 l00 l01 hp4 s4 => ?_⟩
      obtain ⟨s, es, sl1, sl4⟩ : ∃ s : Nat, 1 + l0 = (s : Int) ∧ 1 ≤ s ∧ s ≤ 4 := ⟨1 + l0.toNat, by omega, by omega, by omega⟩
      walk_at "go"
      rw [es]
      exact kN _ _ ⟨s, sl1, sl4, rfl, hp4, sp3.trans s4, s4 _ _ hb3 bp, s4 _ _ hr3 rp⟩
    rintro σ' H4 ⟨s, sl1, sl4, rfl, hp4, sp4, hb4, hr4⟩
    dsimp only
    with_reducible refine U.g_seq ?_
    with_reducible refine U.g_ifS ?_
    refine g_cutT (fun c H' => H' = H4 ∧ (c = true → ns.length = 0 ∨ s ≤ ns.length)) (fun R kR => ?_) ?_
    · walk_at "go"
      refine U.g_lenL (Or.inr (SqT.of hb4)) ?_
      walk_at "go"
      rw [List.length_map, if_neg Bool.false_ne_true]
      refine U.g_2 (fun c => ?_) (fun c => ?_)
      · have c := V.int.inj (of_decide_eq_true c)
        exact kR _ _ ⟨rfl, fun _ => .inl (by omega)⟩
      · walk_at "go"
        refine U.g_lenL (Or.inr (SqT.of hb4)) ?_
        walk_at "go"
        rw [List.length_map]
        exact kR _ _ ⟨rfl, fun c => .inr (by have := of_decide_eq_true c; omega)⟩
    rintro c _ ⟨rfl, hns⟩
    refine U.g_2 (fun ec => ?_) (fun ec => ?_)
    · have hns := hns ec
      walk_at "go"
      refine U.g_lenL (Or.inr (SqT.of hb4)) ?_
      walk_at "go"
      rw [List.length_map]
      refine ⟨p, ns.length, s, n + 150, rfl, by omega, sl1, by omega, hns, hp4.le (by omega), fun t cv nss H5 nt ht hcv cok pm5 nl5 hp5 s5 => ?_⟩
      have hb5 := s5 _ _ hb4 bp
      have hr5 := s5 _ _ hr4 rp
      have sp5 := sp4.trans s5
      have lcv := prd_len hcv
      rw [List.length_map] at lcv
      have tp : t ≠ p := tup_ne_pot hp5 ht
      walk_at "go"
      refine e_tup (SqT.of ht) ?_
      refine lcI_by (walk_tup (K := K) (a := t) (xs := cv)) (by omega) fun Ea nE => ⟨fun i acc H' => ∃ sh : List Int, acc = sh.map V.int ∧ sh.length = i ∧ (∀ z ∈ sh, -1000010 ≤ z ∧ z ≤ 1000010) ∧ PotAt H' p (n + 150 - 2 * i) ∧ SB p H5 H', ⟨[], rfl, rfl, (fun _ h => by cases h), (hp5.new nE).le (by omega), (SB.refl p H5).new nE⟩, fun i acc H' _ ⟨_, _, _, _, _, s'⟩ => SqT.of (s' _ _ ht tp), ?turn, fun acc H6 hE ⟨sh, ea, shl, shb, hp6, s6⟩ => ?rest⟩
      case turn =>
        rintro i x acc _ H' A B hi hacc ⟨sh, rfl, shl, shb, hp', s'⟩ ⟨rfl, ex⟩ kA kB
        have Ep : Ea ≠ p := pot_ne hp5 nE
        have hr' := s' _ _ hr5 rp
        walk_at "go"
        refine ⟨rfl, ?_⟩
        walk_at "go"
        refine ⟨by decide, fun z nz => ?_⟩
        have sz := U.same_new (o := .lst [V.int 0]) nz
        refine U.g_cat (sz _ _ hr') upd_same (by rw [List.length_map]; show _ + 1 ≤ _; omega) fun c nc => ?_
        have sc := U.same_new (o := .lst (row.map V.int ++ [V.int 0])) nc
        have hcc : (upd (upd H' z (.lst [V.int 0])) c (.lst (row.map V.int ++ [V.int 0]))) c = some (.lst ((row ++ [0]).map V.int)) := by rw [upd_same, List.map_append]; rfl
        have szc := sz.trans sc
        have hpc := hp'.same szc
        have cp : c ≠ p := pot_ne (hp'.same sz) nc
        have haccc := szc _ _ hacc
        generalize upd (upd H' z (.lst [V.int 0])) c (.lst (row.map V.int ++ [V.int 0])) = H7 at hcc szc hpc haccc ⊢
        walk_at "go"
        refine ⟨p, .ref c, n + 150 - 2 * i - 1, rfl, hpc.le (by omega), Or.inl ⟨c, _, rfl, Or.inl (SqL.of hcc), by simp, by simp; omega, fun H8 s8 => Or.inl (SqL.of (s8 _ _ hcc cp)), fun j y H8 hy hp8 s8 => ?_⟩⟩
        obtain ⟨z1, hz1, rfl⟩ := mapI_at hy
        have zb : -1000000 ≤ z1 ∧ z1 ≤ 1000000 := by
          rcases List.mem_append.mp hz1 with h | h
          · exact rb z1 h
          · rw [List.mem_singleton] at h; subst h; decide
        walk_at "go"
        refine ⟨p, 4, n + 150 - 2 * (i + 1), rfl, by decide, by decide, hp8.le (by omega), fun q0 H9 q00 q01 hp9 s9 => ?_⟩
        walk_at "go"
        refine kA _ _ (s9 _ _ (s8 _ _ haccc Ep) Ep) ⟨sh ++ [z1 + q0], by rw [List.map_append]; rfl, by rw [List.length_append, shl]; rfl, fun y hy => ?_, hp9.put (Ne.symm Ep), ((s'.trans (SB.of szc)).trans (s8.trans s9)).mut nE⟩
        rcases List.mem_append.mp hy with h | h
        · exact shb y h
        · rw [List.mem_singleton] at h; subst h; omega
      case rest =>
        subst ea
        have hb6 := s6 _ _ hb5 bp
        have hr6 := s6 _ _ hr5 rp
        have ht6 := s6 _ _ ht tp
        have hcv6 := crs_ts (hp5.ts s6) hcv
        have sp6 := sp5.trans s6
        have shl : sh.length = nss.length := by omega
        walk_at "go"
        refine U.g_tupL (SqL.of hE) fun q nq => ?_
        have sq := U.same_new (o := .tup (sh.map V.int)) nq
        have hq7 : (upd H6 q (.tup (sh.map V.int))) q = some (.tup (sh.map V.int)) := upd_same
        have hb7 := sq _ _ hb6
        have hr7 := sq _ _ hr6
        have ht7 := sq _ _ ht6
        have hcv7 := crs_ts (TS.of sq) hcv6
        have sp7 := sp6.trans (SB.of sq)
        have hp7 := hp6.same sq
        generalize upd H6 q (.tup (sh.map V.int)) = H7 at hq7 hb7 hr7 ht7 hcv7 sp7 hp7 ⊢
        walk_at "go"
        refine ⟨t, q, true, true, cv, sh.map V.int, rfl, ZT.sq_t (SqT.of ht7), ZT.sq_t (SqT.of hq7), ?_⟩
        refine forI_by (ZT.walk_zipX (K := K) (t1 := true) (t2 := true) (a := t) (b := q) (xs := cv) (ys := sh.map V.int)) (fun i σ' H' => ∃ (v13 v14 v16 : Option V), σ' = [some (.ref p), some (.ref b), some (.ref r), v3, v4, v5, v6, v7, v8, some (.int (s : Int)), some (.ref t), some (.ref q), some (.int (lossT ns nss sh i)), v13, v14, none, v16] ∧ Same H7 H') ⟨none, none, none, rfl, Same.refl _⟩ (fun i σ' H' _ ⟨_, _, _, _, s'⟩ => ⟨ZT.sq_t (SqT.of (s' _ _ ht7)), ZT.sq_t (SqT.of (s' _ _ hq7))⟩) ?ts2 ?td2
        case ts2 =>
          rintro i y σ' H' H'' hi ⟨v13, v14, v16, rfl, s'⟩ ⟨u, a1, a2, rfl, nu, rfl, e1, e2⟩
          have sT := U.same_new (o := .tup [a1, a2]) nu
          obtain ⟨c, ec, cr⟩ := prd_at (crs_mono (s'.trans sT) hcv7) e1
          have e2 : (sh.map V.int)[i]? = some a2 := e2
          rw [List.getElem?_map] at ec e2
          cases en : nss[i]? with
          | none => rw [en] at ec; cases ec
          | some k =>
            rw [en] at ec
            cases ec
            obtain ⟨m, rfl, hm, _, ml⟩ := cr
            cases es : sh[i]? with
            | none => rw [es] at e2; cases e2
            | some z =>
              rw [es] at e2
              cases e2
              rw [List.length_map] at ml
              have kr := (cok k (List.mem_of_getElem? en)).2.1
              have hb8 := (s'.trans sT) _ _ hb7
              walk_at "go"
              refine e_tup (SqT.of hm) ?_
              refine lcI_tup (fun H' s' => SqT.of (s' _ _ hm)) (by rw [List.length_map]; omega) (fun v => match v with | .int x => some (.int (ab (rowF ns x.toNat - z))) | _ => none) (fun x H2 A B hx s2 kA kB => ?t1) fun L1 H8 nL1 s8 hL1 => ?c1
              case t1 =>
                obtain ⟨x, hxk, rfl⟩ := List.mem_map.mp hx
                obtain ⟨x0, x1⟩ := kr x hxk
                walk_at "go"
                refine ⟨rfl, ?_⟩
                walk_at "go"
                refine U.g_ix (Or.inr (SqT.of (s2 _ _ hb8))) (U.at_nat (show x = ((x.toNat : Nat) : Int) by omega) (show (ns.map V.int)[x.toNat]? = some (V.int (rowF ns x.toNat)) by rw [List.getElem?_map, rowF_at (by omega)]; rfl)) ?_
                walk_at "go"
                exact kA _ _ rfl (Same.refl _)
              have e3 : (k.map V.int).filterMap (fun v => match v with | .int x => some (V.int (ab (rowF ns x.toNat - z))) | _ => none) = (k.map fun x => ab (rowF ns x.toNat - z)).map V.int := by
                rw [List.filterMap_map, List.map_map, ← List.filterMap_eq_map]
                rfl
              rw [e3] at hL1
              walk_at "go"
              refine U.g_sum (SqL.of hL1) ?_
              walk_at "go"
              exact ⟨_, _, _, by rw [lossT_succ en es]; rfl, (s'.trans sT).trans s8⟩
        case td2 =>
          rintro σ' H8 ⟨v13, v14, v16, rfl, s8⟩
          rw [lossT_all (by rw [List.length_zip, List.length_map]; omega)]
          have hb8 := s8 _ _ hb7
          have hr8 := s8 _ _ hr7
          have ht8 := s8 _ _ ht7
          have hq8 := s8 _ _ hq7
          have hcv8 := crs_ts (TS.of s8) hcv7
          have hp8 := hp7.same s8
          have sp8 := sp7.trans (SB.of s8)
          have lb := lossL_bd hn (C := 1000010) (nss := nss) (sh := sh) shb (by decide)
          have fl := pm5.length_eq
          rw [rangeI_len] at fl
          rw [fl] at lb
          walk_at "go"
          refine ⟨rfl, b, t, q, ns, s, cv, nss, sh, rfl, hb8, by omega, hn, sl1, by omega, ht8, hcv8, hq8, shl, by omega, cok, pm5, fun H9 s9 => ?_⟩
          walk_at "go"
          refine rep_I (by omega) (by omega) ?_
          walk_at "go"
          refine rep_I (by omega) (by omega) ?_
          walk_at "go"
          refine LM.ite_no (LM.ne_refl _) ?_
          have hb9 := s9 _ _ hb8
          have hr9 := s9 _ _ hr8
          have hp9 := hp8.same s9
          have sp9 := sp8.trans (SB.of s9)
          walk_at "go"
          refine ⟨by decide, fun z nz => ?_⟩
          have sz := U.same_new (o := .lst [V.int 0]) nz
          refine U.g_cat (sz _ _ hr9) upd_same (by rw [List.length_map]; show _ + 1 ≤ _; omega) fun c nc => ?_
          have sc := U.same_new (o := .lst (row.map V.int ++ [V.int 0])) nc
          have hcc : (upd (upd H9 z (.lst [V.int 0])) c (.lst (row.map V.int ++ [V.int 0]))) c = some (.lst ((row ++ [0]).map V.int)) := by rw [upd_same, List.map_append]; rfl
          have szc := sz.trans sc
          have hpc := hp9.same szc
          have cp : c ≠ p := pot_ne (hp9.same sz) nc
          generalize upd (upd H9 z (.lst [V.int 0])) c (.lst (row.map V.int ++ [V.int 0])) = H10 at hcc szc hpc ⊢
          walk_at "go"
          refine ⟨p, .ref c, n + 5, rfl, hpc.le (by omega), Or.inl ⟨c, _, rfl, Or.inl (SqL.of hcc), by simp, by simp; omega, fun H11 s11 => Or.inl (SqL.of (s11 _ _ hcc cp)), fun j y H11 hy hp11 s11 => ?_⟩⟩
          obtain ⟨z1, hz1, rfl⟩ := mapI_at hy
          walk_at "go"
          refine ⟨p, 9, n + 4, rfl, by decide, by decide, hp11, fun q0 H12 q00 q01 hp12 s12 => ?_⟩
          have hb12 := s12 _ _ (s11 _ _ (szc _ _ hb9) bp) bp
          have sp12 := ((sp9.trans (SB.of szc)).trans s11).trans s12
          walk_at "go"
          have eM : ∃ m : Int, (if (if z1 + q0 - 4 < (10 : Int) ^ 6 then z1 + q0 - 4 else (10 : Int) ^ 6) > -(10 : Int) ^ 6 then if z1 + q0 - 4 < (10 : Int) ^ 6 then z1 + q0 - 4 else (10 : Int) ^ 6 else -(10 : Int) ^ 6) = m ∧ -1000000 ≤ m ∧ m ≤ 1000000 := by
            rw [show (10 : Int) ^ 6 = 1000000 from by decide +kernel]
            refine ⟨_, rfl, ?_, ?_⟩ <;> split <;> first | omega | (split <;> omega)
          obtain ⟨m, em, m0, m1⟩ := eM
          rw [em]
          obtain ⟨row2, hrow2⟩ := Row.ex (ns ++ [m])
          have rl2 := hrow2.len
          rw [List.length_append] at rl2
          have rl2 : row2.length = ns.length + 1 := rl2
          have rb2 : ∀ x ∈ row2, -1000000 ≤ x ∧ x ≤ 1000000 := fun x hx => by
            rcases List.mem_append.mp (hrow2.perm.mem_iff.mp hx) with h | h
            · exact hn x h
            · rw [List.mem_singleton] at h; subst h; exact ⟨m0, m1⟩
          refine ⟨by show 1 ≤ sizeLine; decide, fun u nu => ?_⟩
          have su := U.same_new (o := .tup [V.int m]) nu
          refine U.g_catH (su _ _ hb12) upd_same (by rw [List.length_map]; show _ + 1 ≤ _; omega) fun c2 H13 s13 hc2 => ?_
          have hc2 : H13 c2 = some (.tup ((ns ++ [m]).map V.int)) := by rw [hc2, List.map_append]; rfl
          have s12b := su.trans s13
          walk_at "go"
          refine ⟨c2, ns ++ [m], row2, s, rfl, Or.inr (SqT.of hc2), by rw [List.length_append]; show _ + 1 ≤ _; omega, hrow2, sl1, by omega, fun H14 s14 => ?_⟩
          have s12c := s12b.trans s14
          have hp14 := hp12.same s12c
          have hb14 := s12c _ _ hb12
          have sp14 := sp12.trans (SB.of s12c)
          cases hF2 : F (cs (rowF row2)) s row2.length with
          | none =>
            refine U.g_c ⟨rfl, _, rfl, U.g_F ?_⟩
            walk_at "go"
            exact kk _ (hp14.le (by omega)) sp14
          | some v =>
            refine U.g_c ⟨rfl, _, rfl, U.g_T ?_⟩
            obtain ⟨u1, hu1⟩ := F_one (c := cs (rowF row)) (s := s) sl1 (n := row.length) (by omega)
            have vb := F_bds rb2 sl1 (by omega) hF2
            have ub := F_bds rb sl1 (by omega) hu1
            have hs0 : ns.length = 0 → s = 1 := fun h0 => by
              obtain ⟨b0, _, hb0, _⟩ := F_mem sl1 (by omega) hF2
              omega
            walk_at "go"
            refine ⟨by show 1 ≤ sizeLine; decide, fun w nw => ?_⟩
            have sw := U.same_new (o := .tup [V.int m]) nw
            refine U.g_catH (sw _ _ hb14) upd_same (by rw [List.length_map]; show _ + 1 ≤ _; omega) fun c3 H15 s15 hc3 => ?_
            have hc3 : H15 c3 = some (.tup ((ns ++ [m]).map V.int)) := by rw [hc3, List.map_append]; rfl
            walk_at "go"
            refine ⟨c3, ns ++ [m], row2, s, rfl, Or.inr (SqT.of hc3), by rw [List.length_append]; show _ + 1 ≤ _; omega, hrow2, sl1, by omega, fun H16 s16 => ?_⟩
            rw [hF2]
            have s14b := (sw.trans s15).trans s16
            have hb16 := s14b _ _ hb14
            walk_at "go"
            refine ⟨b, ns, row, s, rfl, Or.inr (SqT.of hb16), by omega, hrow, sl1, by omega, fun H17 s17 => ?_⟩
            rw [hu1]
            refine U.g_subI ?_
            have s14c := s14b.trans s17
            walk_at "go"
            refine ⟨rfl, b, ns, row, row2, s, m, u1, v, rfl, s17 _ _ hb16, by omega, hn, m0, m1, sl1, by omega, hns, hs0, hrow, hrow2, hu1, hF2, fun H18 s18 => ?_⟩
            walk_at "go"
            refine rep_I (by omega) (by omega) ?_
            walk_at "go"
            refine rep_I (by omega) (by omega) ?_
            walk_at "go"
            refine LM.ite_no (LM.ne_refl _) ?_
            walk_at "go"
            exact kk _ ((hp14.same (s14c.trans s18)).le (by omega)) (sp14.trans (SB.of (s14c.trans s18)))
    · walk_at "go"
      exact kk _ (hp4.le (by omega)) sp4
end
end Toy

namespace Toy
open PySem PySem.Spec PyProof.Rows L2 U M LM G QD KW
section
variable {P : Program} {w : World} {K : PySem.W.Frag} {mg : Str → Option Value} {base : Heap}
theorem sc_law : FnScope ["script", "place", "pot", "lap"] ["script"] (defScope s_law) := ⟨rfl, rfl, rfl, by decide +kernel, rfl, by decide +kernel, by decide +kernel⟩
def sp_law (K : PySem.W.Frag) : Sp := fun vs H Q _ => ∃ (a : Addr) (ns : List Int), vs = [.ref a] ∧ SqL K H a (ns.map V.int) ∧ ns.length ≤ 63 ∧ ∀ H', Q (.bl true) H'
theorem ok_law (T : Tx K mg) : FnG P w K mg base 8 T.a_law T.fd_law ["script"] (sp_law K) := by
  refine okG T.F_law sc_law (fun vs H Q E h => ?_) (fun cdv A outer s H vs Q E hr hgd h => ?_)
  · obtain ⟨a, ns, rfl, _⟩ := h
    rfl
  · obtain ⟨a, ns, rfl, ha, hl, kk⟩ := h
    have hu := hu_of hr
    have hu64 := hr.units
    refine ⟨_, (pss_cons (ps_for PassesOwn.never rfl (u_list (K := K) rfl (pe_call (ok__law_cells T) (hr.mono (by decide)) rfl T.m__law_cells T.F__law_cells.kp (b__law_cells T) .nil pass0 (pa_cons (pv 0) (pa_cons (pe_int) pa_nil)))) (pg_name (i := 1) sc_law.nd rfl (Or.inl rfl)) (pss_cons (ps_set (i := 2) sc_law.nd rfl (Or.inr rfl) (pe_call (ok__law_pot T) (hr.mono (by decide)) rfl T.m__law_pot T.F__law_pot.kp (b__law_pot T) .nil pass0 (pa_cons (pv 0) (pa_cons (pv 1) pa_nil))))
        (pss_one (ps_if (pt_not (pt_val (pe_callB (call_uAll (K := K) rfl rfl) (by rfl) T.n_all (by decide +kernel) (pa_cons (pe_lc rfl sc_law.nd (pi_range1 (by rfl) T.n_range (pa_cons (pe_int) pa_nil)) (blkOk_by (own := [("lap", 3)]) (N := ["script", "place", "pot", "lap"]) (sc := defScope s_law) (by decide +kernel)) (fun _ _ _ _ _ => (pg_name (i := 3) sc_law.nd rfl (Or.inl rfl))) (fun _ _ _ _ _ => pts_nil) (fun _ _ _ _ _ => (G.pe_callG (ok__law_right T) (hr.mono (by decide)) hgd rfl T.m__law_right T.F__law_right.kp (b__law_right T) .nil (pa_cons (pv 2) pa_nil)))) pa_nil)))) (pss_one (ps_ret (pe_bl))) pss_nil))))
        (pss_one (ps_ret (pe_bl)))), ?_⟩
    walk_at "st"
    walk_at "go"
    refine ⟨a, ns, 2, rfl, ha, hl, by decide, by decide, fun q c nq c1 c2 => ?_⟩
    have sq := U.same_new (o := .lst (rgV 0 c)) nq
    have rl : (rgV 0 c).length = c := by simp [rgV]
    have hq : (upd H q (.lst (rgV 0 c))) q = some (.lst (rgV 0 c)) := upd_same
    generalize upd H q (.lst (rgV 0 c)) = H1 at sq hq ⊢
    refine e_list (SqL.of hq) ?_
    refine forI_by (walk_list (K := K) (a := q) (xs := rgV 0 c)) (fun i σ' H' => ∃ (v1 v2 v3 : Option V), σ' = [some (.ref a), v1, v2, v3] ∧ Same H1 H') ⟨none, none, none, rfl, Same.refl _⟩ (fun i σ' H' _ ⟨_, _, _, _, s⟩ => SqL.of (s _ _ hq)) ?ts ?td
    case td =>
      rintro σ' H' ⟨v1, v2, v3, rfl, s'⟩
      walk_at "go"
      exact kk _
    case ts =>
      rintro i y σ' _ H' hi ⟨v1, v2, v3, rfl, s'⟩ ⟨rfl, ey⟩
      obtain ⟨z, z0, z1, rfl⟩ : ∃ z : Int, 0 ≤ z ∧ z ≤ 100 ∧ y = .int z := by
        have hx := List.mem_of_getElem? ey
        simp only [rgV, List.mem_map, List.mem_range] at hx
        obtain ⟨j, hj, rfl⟩ := hx
        exact ⟨_, by omega, by omega, rfl⟩
      walk_at "go"
      refine ⟨a, ns, z, rfl, (sq.trans s').seq ha, z0, z1, fun p H3 np s3 pot => ?_⟩
      walk_at "go"
      refine e_rng (by omega) (by omega) ?_
      refine lcI_by walk_range (by decide) fun Ea nE => ⟨fun i acc H5 => acc = ((List.range i).map fun _ => true).map V.bl ∧ PotAt H5 p (900000 - 1000 * i) ∧ SB p H3 H5, ⟨rfl, (pot.new nE).le (by omega), SB.of (U.same_new nE)⟩, fun _ _ _ _ _ => trivial, ?turn, fun acc H5 hE ⟨e, pot5, s5⟩ => ?rest⟩
      case turn =>
        rintro i x acc H5 _ A B hi hE ⟨rfl, pot5, s5⟩ ⟨rfl, rfl⟩ kA kB
        have hi : i < 3 := by omega
        have Ep : Ea ≠ p := pot_ne pot nE
        walk_at "go"
        refine ⟨rfl, ?_⟩
        walk_at "go"
        refine ⟨p, 900000 - 1000 * (i + 1), rfl, pot5.le (by omega), fun H6 pot6 s6 => ?_⟩
        refine kA _ _ (s6 _ _ hE Ep) ⟨?_, pot6.put (Ne.symm Ep), (s5.trans s6).mut nE⟩
        rw [List.range_succ, List.map_append, List.map_append]
        rfl
      case rest =>
        subst e
        walk_at "go"
        refine U.g_allB (SqL.of hE) ?_
        rw [show (((List.range (3 : Int).toNat).map fun _ => true).all id) = true by decide]
        walk_at "go"
        exact ⟨_, _, _, rfl, fun c o e => s5 c o (s3 c o (s' c o e)) (ne_of_none (s' c o e) np)⟩
end
end Toy

namespace Toy
open PySem PySem.Spec L2 U M QD G
def mkoB (K : PySem.W.Frag) (C : Addr) : Bool := PySem.W.makesIn K C && (He.eqO (PySem.W.findIn K (.ref C) "__init__") (some (some (.builtin "object.__init__"))) && PySem.W.keepIn K (.ref C))
theorem mkoB_ok {K : PySem.W.Frag} {C : Addr} (h : mkoB K C = true) : ZV.MkO K C := ⟨(He.ba h).1, He.eqO_ok (He.ba (He.ba h).2).1, (He.ba (He.ba h).2).2⟩
def d_CrowdError___init__ : He.FnD := ⟨("CrowdError", some "__init__"), "__init__", "CrowdError.__init__", defArgs s_CrowdError___init__, defBody s_CrowdError___init__, defScope s_CrowdError___init__⟩
def d_is_integer : He.FnD := ⟨("is_integer", none), "is_integer", "is_integer", defArgs s_is_integer, defBody s_is_integer, defScope s_is_integer⟩
def d_is_number_below : He.FnD := ⟨("is_number_below", none), "is_number_below", "is_number_below", defArgs s_is_number_below, defBody s_is_number_below, defScope s_is_number_below⟩
def d_is_ascending : He.FnD := ⟨("is_ascending", none), "is_ascending", "is_ascending", defArgs s_is_ascending, defBody s_is_ascending, defScope s_is_ascending⟩
def d_is_lot_below : He.FnD := ⟨("is_lot_below", none), "is_lot_below", "is_lot_below", defArgs s_is_lot_below, defBody s_is_lot_below, defScope s_is_lot_below⟩
def d_is_tuple_of : He.FnD := ⟨("is_tuple_of", none), "is_tuple_of", "is_tuple_of", defArgs s_is_tuple_of, defBody s_is_tuple_of, defScope s_is_tuple_of⟩
def d_is_line_value : He.FnD := ⟨("is_line_value", none), "is_line_value", "is_line_value", defArgs s_is_line_value, defBody s_is_line_value, defScope s_is_line_value⟩
def d_Ladder___init__ : He.FnD := ⟨("Ladder", some "__init__"), "__init__", "Ladder.__init__", defArgs s_Ladder___init__, defBody s_Ladder___init__, defScope s_Ladder___init__⟩
def d_Ladder_loss : He.FnD := ⟨("Ladder", some "loss"), "loss", "Ladder.loss", defArgs s_Ladder_loss, defBody s_Ladder_loss, defScope s_Ladder_loss⟩
def d_Ladder_middles : He.FnD := ⟨("Ladder", some "middles"), "middles", "Ladder.middles", defArgs s_Ladder_middles, defBody s_Ladder_middles, defScope s_Ladder_middles⟩
def d_Ladder_first_losses : He.FnD := ⟨("Ladder", some "first_losses"), "first_losses", "Ladder.first_losses", defArgs s_Ladder_first_losses, defBody s_Ladder_first_losses, defScope s_Ladder_first_losses⟩
def d_Ladder_crowd : He.FnD := ⟨("Ladder", some "crowd"), "crowd", "Ladder.crowd", defArgs s_Ladder_crowd, defBody s_Ladder_crowd, defScope s_Ladder_crowd⟩
def d_ladder_of : He.FnD := ⟨("ladder_of", none), "ladder_of", "ladder_of", defArgs s_ladder_of, defBody s_ladder_of, defScope s_ladder_of⟩
def d_sized_ladder : He.FnD := ⟨("sized_ladder", none), "sized_ladder", "sized_ladder", defArgs s_sized_ladder, defBody s_sized_ladder, defScope s_sized_ladder⟩
def d_has_crowds : He.FnD := ⟨("has_crowds", none), "has_crowds", "has_crowds", defArgs s_has_crowds, defBody s_has_crowds, defScope s_has_crowds⟩
def d_check_stretch : He.FnD := ⟨("check_stretch", none), "check_stretch", "check_stretch", defArgs s_check_stretch, defBody s_check_stretch, defScope s_check_stretch⟩
def d_stretch_loss : He.FnD := ⟨("stretch_loss", none), "stretch_loss", "stretch_loss", defArgs s_stretch_loss, defBody s_stretch_loss, defScope s_stretch_loss⟩
def d_middles : He.FnD := ⟨("middles", none), "middles", "middles", defArgs s_middles, defBody s_middles, defScope s_middles⟩
def d_parts_places : He.FnD := ⟨("parts_places", none), "parts_places", "parts_places", defArgs s_parts_places, defBody s_parts_places, defScope s_parts_places⟩
def d_are_shown : He.FnD := ⟨("are_shown", none), "are_shown", "are_shown", defArgs s_are_shown, defBody s_are_shown, defScope s_are_shown⟩
def d_loss_shown : He.FnD := ⟨("loss_shown", none), "loss_shown", "loss_shown", defArgs s_loss_shown, defBody s_loss_shown, defScope s_loss_shown⟩
def d_line_loss : He.FnD := ⟨("line_loss", none), "line_loss", "line_loss", defArgs s_line_loss, defBody s_line_loss, defScope s_line_loss⟩
def d_crowded_ladder : He.FnD := ⟨("crowded_ladder", none), "crowded_ladder", "crowded_ladder", defArgs s_crowded_ladder, defBody s_crowded_ladder, defScope s_crowded_ladder⟩
def d_one_more : He.FnD := ⟨("one_more", none), "one_more", "one_more", defArgs s_one_more, defBody s_one_more, defScope s_one_more⟩
def d__law_pot : He.FnD := ⟨("_law_pot", none), "_law_pot", "_law_pot", defArgs s__law_pot, defBody s__law_pot, defScope s__law_pot⟩
def d__law_take : He.FnD := ⟨("_law_take", none), "_law_take", "_law_take", defArgs s__law_take, defBody s__law_take, defScope s__law_take⟩
def d__law_of : He.FnD := ⟨("_law_of", none), "_law_of", "_law_of", defArgs s__law_of, defBody s__law_of, defScope s__law_of⟩
def d__law_some : He.FnD := ⟨("_law_some", none), "_law_some", "_law_some", defArgs s__law_some, defBody s__law_some, defScope s__law_some⟩
def d__law_cells : He.FnD := ⟨("_law_cells", none), "_law_cells", "_law_cells", defArgs s__law_cells, defBody s__law_cells, defScope s__law_cells⟩
def d__law_line_values : He.FnD := ⟨("_law_line_values", none), "_law_line_values", "_law_line_values", defArgs s__law_line_values, defBody s__law_line_values, defScope s__law_line_values⟩
def d__law_crowd_cost : He.FnD := ⟨("_law_crowd_cost", none), "_law_crowd_cost", "_law_crowd_cost", defArgs s__law_crowd_cost, defBody s__law_crowd_cost, defScope s__law_crowd_cost⟩
def d__law_cut_costs : He.FnD := ⟨("_law_cut_costs", none), "_law_cut_costs", "_law_cut_costs", defArgs s__law_cut_costs, defBody s__law_cut_costs, defScope s__law_cut_costs⟩
def d__law_least : He.FnD := ⟨("_law_least", none), "_law_least", "_law_least", defArgs s__law_least, defBody s__law_least, defScope s__law_least⟩
def d__law_middles_of : He.FnD := ⟨("_law_middles_of", none), "_law_middles_of", "_law_middles_of", defArgs s__law_middles_of, defBody s__law_middles_of, defScope s__law_middles_of⟩
def d__law_crowds : He.FnD := ⟨("_law_crowds", none), "_law_crowds", "_law_crowds", defArgs s__law_crowds, defBody s__law_crowds, defScope s__law_crowds⟩
def d__law_right : He.FnD := ⟨("_law_right", none), "_law_right", "_law_right", defArgs s__law_right, defBody s__law_right, defScope s__law_right⟩
def d_law : He.FnD := ⟨("law", none), "law", "law", defArgs s_law, defBody s_law, defScope s_law⟩
def fnL : List He.FnD := [d_CrowdError___init__, d_is_integer, d_is_number_below, d_is_ascending, d_is_lot_below, d_is_tuple_of, d_is_line_value, d_Ladder___init__, d_Ladder_loss, d_Ladder_middles, d_Ladder_first_losses, d_Ladder_crowd, d_ladder_of, d_sized_ladder, d_has_crowds, d_check_stretch, d_stretch_loss, d_middles, d_parts_places, d_are_shown, d_loss_shown, d_line_loss, d_crowded_ladder, d_one_more, d__law_pot, d__law_take, d__law_of, d__law_some, d__law_cells, d__law_line_values, d__law_crowd_cost, d__law_cut_costs, d__law_least, d__law_middles_of, d__law_crowds, d__law_right, d_law]
def faL : List He.Fa := [.glo "is_integer", .glo "is_number_below", .glo "is_ascending", .glo "is_lot_below", .glo "is_tuple_of", .glo "is_line_value", .glo "ladder_of", .glo "sized_ladder", .glo "has_crowds", .glo "check_stretch", .glo "stretch_loss", .glo "middles", .glo "parts_places", .glo "are_shown", .glo "loss_shown", .glo "line_loss", .glo "crowded_ladder", .glo "one_more", .glo "_law_pot", .glo "_law_take", .glo "_law_of", .glo "_law_some", .glo "_law_cells", .glo "_law_line_values", .glo "_law_crowd_cost", .glo "_law_cut_costs", .glo "_law_least", .glo "_law_middles_of", .glo "_law_crowds", .glo "_law_right", .glo "law", .int "FARTHEST" 1000000, .int "MOST_SIZE" 200, .int "MOST_VALUES" 200, .free "abs", .free "all", .free "bool", .free "dict", .free "enumerate", .free "int", .free "isinstance", .free "len", .free "list", .free "max", .free "min", .free "range", .free "repr", .free "sorted", .free "sum", .free "tuple", .free "zip", .glo "Ladder", .cls "Ladder", .mkr "Ladder", .meth "Ladder" "loss", .meth "Ladder" "middles", .meth "Ladder" "first_losses", .meth "Ladder" "crowd", .noat "Ladder" "ascending", .noat "Ladder" "places", .noat "Ladder" "sums"]
def nmL : List Str := (["Ladder", "is_integer", "is_number_below", "is_ascending", "is_lot_below", "is_tuple_of", "is_line_value", "ladder_of", "sized_ladder", "has_crowds", "check_stretch", "stretch_loss", "middles", "parts_places", "are_shown", "loss_shown", "line_loss", "crowded_ladder", "one_more", "_law_pot", "_law_take", "_law_of", "_law_some", "_law_cells", "_law_line_values", "_law_crowd_cost", "_law_cut_costs", "_law_least", "_law_middles_of", "_law_crowds"] : List Str) ++ (["_law_right", "law", "FARTHEST", "MOST_SIZE", "MOST_VALUES", "CrowdError"] : List Str)
def xB (K : PySem.W.Frag) : Bool := (fnL.all fun d => PySem.W.keepIn K (.ref (He.fAd K d.at_)))
theorem mk_TxX {K : PySem.W.Frag} {mg : Str → Option Value} {h : Heap} (X : K.In h) (G : h.Ns mainGlobals mg) (c : He.SaysE faL fnL K) (x : xB K = true) : Nonempty (Tx K mg) := by
  have x1 := x
  have kk : ∀ (i : Nat) {d : He.FnD}, fnL[i]? = some d → PySem.W.keepIn K (.ref (He.fAd K d.at_)) = true := fun i d h => List.all_eq_true.mp x1 d (List.mem_of_getElem? h)
  obtain ⟨oc0, od0, sl0, kV0, dc0, pm0, an0, cd0, ct0, l0, c0⟩ := c.def_ 0 (d := d_CrowdError___init__) rfl
  obtain ⟨oc1, od1, sl1, kV1, dc1, pm1, an1, cd1, ct1, l1, c1⟩ := c.def_ 1 (d := d_is_integer) rfl
  obtain ⟨oc2, od2, sl2, kV2, dc2, pm2, an2, cd2, ct2, l2, c2⟩ := c.def_ 2 (d := d_is_number_below) rfl
  obtain ⟨oc3, od3, sl3, kV3, dc3, pm3, an3, cd3, ct3, l3, c3⟩ := c.def_ 3 (d := d_is_ascending) rfl
  obtain ⟨oc4, od4, sl4, kV4, dc4, pm4, an4, cd4, ct4, l4, c4⟩ := c.def_ 4 (d := d_is_lot_below) rfl
  obtain ⟨oc5, od5, sl5, kV5, dc5, pm5, an5, cd5, ct5, l5, c5⟩ := c.def_ 5 (d := d_is_tuple_of) rfl
  obtain ⟨oc6, od6, sl6, kV6, dc6, pm6, an6, cd6, ct6, l6, c6⟩ := c.def_ 6 (d := d_is_line_value) rfl
  obtain ⟨oc7, od7, sl7, kV7, dc7, pm7, an7, cd7, ct7, l7, c7⟩ := c.def_ 7 (d := d_Ladder___init__) rfl
  obtain ⟨oc8, od8, sl8, kV8, dc8, pm8, an8, cd8, ct8, l8, c8⟩ := c.def_ 8 (d := d_Ladder_loss) rfl
  obtain ⟨oc9, od9, sl9, kV9, dc9, pm9, an9, cd9, ct9, l9, c9⟩ := c.def_ 9 (d := d_Ladder_middles) rfl
  obtain ⟨oc10, od10, sl10, kV10, dc10, pm10, an10, cd10, ct10, l10, c10⟩ := c.def_ 10 (d := d_Ladder_first_losses) rfl
  obtain ⟨oc11, od11, sl11, kV11, dc11, pm11, an11, cd11, ct11, l11, c11⟩ := c.def_ 11 (d := d_Ladder_crowd) rfl
  obtain ⟨oc12, od12, sl12, kV12, dc12, pm12, an12, cd12, ct12, l12, c12⟩ := c.def_ 12 (d := d_ladder_of) rfl
  obtain ⟨oc13, od13, sl13, kV13, dc13, pm13, an13, cd13, ct13, l13, c13⟩ := c.def_ 13 (d := d_sized_ladder) rfl
  obtain ⟨oc14, od14, sl14, kV14, dc14, pm14, an14, cd14, ct14, l14, c14⟩ := c.def_ 14 (d := d_has_crowds) rfl
  obtain ⟨oc15, od15, sl15, kV15, dc15, pm15, an15, cd15, ct15, l15, c15⟩ := c.def_ 15 (d := d_check_stretch) rfl
  obtain ⟨oc16, od16, sl16, kV16, dc16, pm16, an16, cd16, ct16, l16, c16⟩ := c.def_ 16 (d := d_stretch_loss) rfl
  obtain ⟨oc17, od17, sl17, kV17, dc17, pm17, an17, cd17, ct17, l17, c17⟩ := c.def_ 17 (d := d_middles) rfl
  obtain ⟨oc18, od18, sl18, kV18, dc18, pm18, an18, cd18, ct18, l18, c18⟩ := c.def_ 18 (d := d_parts_places) rfl
  obtain ⟨oc19, od19, sl19, kV19, dc19, pm19, an19, cd19, ct19, l19, c19⟩ := c.def_ 19 (d := d_are_shown) rfl
  obtain ⟨oc20, od20, sl20, kV20, dc20, pm20, an20, cd20, ct20, l20, c20⟩ := c.def_ 20 (d := d_loss_shown) rfl
  obtain ⟨oc21, od21, sl21, kV21, dc21, pm21, an21, cd21, ct21, l21, c21⟩ := c.def_ 21 (d := d_line_loss) rfl
  obtain ⟨oc22, od22, sl22, kV22, dc22, pm22, an22, cd22, ct22, l22, c22⟩ := c.def_ 22 (d := d_crowded_ladder) rfl
  obtain ⟨oc23, od23, sl23, kV23, dc23, pm23, an23, cd23, ct23, l23, c23⟩ := c.def_ 23 (d := d_one_more) rfl
  obtain ⟨oc24, od24, sl24, kV24, dc24, pm24, an24, cd24, ct24, l24, c24⟩ := c.def_ 24 (d := d__law_pot) rfl
  obtain ⟨oc25, od25, sl25, kV25, dc25, pm25, an25, cd25, ct25, l25, c25⟩ := c.def_ 25 (d := d__law_take) rfl
  obtain ⟨oc26, od26, sl26, kV26, dc26, pm26, an26, cd26, ct26, l26, c26⟩ := c.def_ 26 (d := d__law_of) rfl
  obtain ⟨oc27, od27, sl27, kV27, dc27, pm27, an27, cd27, ct27, l27, c27⟩ := c.def_ 27 (d := d__law_some) rfl
  obtain ⟨oc28, od28, sl28, kV28, dc28, pm28, an28, cd28, ct28, l28, c28⟩ := c.def_ 28 (d := d__law_cells) rfl
  obtain ⟨oc29, od29, sl29, kV29, dc29, pm29, an29, cd29, ct29, l29, c29⟩ := c.def_ 29 (d := d__law_line_values) rfl
  obtain ⟨oc30, od30, sl30, kV30, dc30, pm30, an30, cd30, ct30, l30, c30⟩ := c.def_ 30 (d := d__law_crowd_cost) rfl
  obtain ⟨oc31, od31, sl31, kV31, dc31, pm31, an31, cd31, ct31, l31, c31⟩ := c.def_ 31 (d := d__law_cut_costs) rfl
  obtain ⟨oc32, od32, sl32, kV32, dc32, pm32, an32, cd32, ct32, l32, c32⟩ := c.def_ 32 (d := d__law_least) rfl
  obtain ⟨oc33, od33, sl33, kV33, dc33, pm33, an33, cd33, ct33, l33, c33⟩ := c.def_ 33 (d := d__law_middles_of) rfl
  obtain ⟨oc34, od34, sl34, kV34, dc34, pm34, an34, cd34, ct34, l34, c34⟩ := c.def_ 34 (d := d__law_crowds) rfl
  obtain ⟨oc35, od35, sl35, kV35, dc35, pm35, an35, cd35, ct35, l35, c35⟩ := c.def_ 35 (d := d__law_right) rfl
  obtain ⟨oc36, od36, sl36, kV36, dc36, pm36, an36, cd36, ct36, l36, c36⟩ := c.def_ 36 (d := d_law) rfl
  exact ⟨{
    a_CrowdError___init__ := He.fAd K ("CrowdError", some "__init__"), fd_CrowdError___init__ := _, F_CrowdError___init__ := fun_mk (st := s_CrowdError___init__) l0 c0 (kk 0 (d := d_CrowdError___init__) rfl),
    a_is_integer := He.fAd K ("is_integer", none), fd_is_integer := _, F_is_integer := fun_mk (st := s_is_integer) l1 c1 (kk 1 (d := d_is_integer) rfl),
    m_is_integer := He.glo_ok X G (c.fact 0 (f := .glo "is_integer") rfl),
    a_is_number_below := He.fAd K ("is_number_below", none), fd_is_number_below := _, F_is_number_below := fun_mk (st := s_is_number_below) l2 c2 (kk 2 (d := d_is_number_below) rfl),
    m_is_number_below := He.glo_ok X G (c.fact 1 (f := .glo "is_number_below") rfl),
    a_is_ascending := He.fAd K ("is_ascending", none), fd_is_ascending := _, F_is_ascending := fun_mk (st := s_is_ascending) l3 c3 (kk 3 (d := d_is_ascending) rfl),
    m_is_ascending := He.glo_ok X G (c.fact 2 (f := .glo "is_ascending") rfl),
    a_is_lot_below := He.fAd K ("is_lot_below", none), fd_is_lot_below := _, F_is_lot_below := fun_mk (st := s_is_lot_below) l4 c4 (kk 4 (d := d_is_lot_below) rfl),
    m_is_lot_below := He.glo_ok X G (c.fact 3 (f := .glo "is_lot_below") rfl),
    a_is_tuple_of := He.fAd K ("is_tuple_of", none), fd_is_tuple_of := _, F_is_tuple_of := fun_mk (st := s_is_tuple_of) l5 c5 (kk 5 (d := d_is_tuple_of) rfl),
    m_is_tuple_of := He.glo_ok X G (c.fact 4 (f := .glo "is_tuple_of") rfl),
    a_is_line_value := He.fAd K ("is_line_value", none), fd_is_line_value := _, F_is_line_value := fun_mk (st := s_is_line_value) l6 c6 (kk 6 (d := d_is_line_value) rfl),
    m_is_line_value := He.glo_ok X G (c.fact 5 (f := .glo "is_line_value") rfl),
    a_Ladder___init__ := He.fAd K ("Ladder", some "__init__"), fd_Ladder___init__ := _, F_Ladder___init__ := fun_mk (st := s_Ladder___init__) l7 c7 (kk 7 (d := d_Ladder___init__) rfl),
    a_Ladder_loss := He.fAd K ("Ladder", some "loss"), fd_Ladder_loss := _, F_Ladder_loss := fun_mk (st := s_Ladder_loss) l8 c8 (kk 8 (d := d_Ladder_loss) rfl),
    a_Ladder_middles := He.fAd K ("Ladder", some "middles"), fd_Ladder_middles := _, F_Ladder_middles := fun_mk (st := s_Ladder_middles) l9 c9 (kk 9 (d := d_Ladder_middles) rfl),
    a_Ladder_first_losses := He.fAd K ("Ladder", some "first_losses"), fd_Ladder_first_losses := _, F_Ladder_first_losses := fun_mk (st := s_Ladder_first_losses) l10 c10 (kk 10 (d := d_Ladder_first_losses) rfl),
    a_Ladder_crowd := He.fAd K ("Ladder", some "crowd"), fd_Ladder_crowd := _, F_Ladder_crowd := fun_mk (st := s_Ladder_crowd) l11 c11 (kk 11 (d := d_Ladder_crowd) rfl),
    a_ladder_of := He.fAd K ("ladder_of", none), fd_ladder_of := _, F_ladder_of := fun_mk (st := s_ladder_of) l12 c12 (kk 12 (d := d_ladder_of) rfl),
    m_ladder_of := He.glo_ok X G (c.fact 6 (f := .glo "ladder_of") rfl),
    a_sized_ladder := He.fAd K ("sized_ladder", none), fd_sized_ladder := _, F_sized_ladder := fun_mk (st := s_sized_ladder) l13 c13 (kk 13 (d := d_sized_ladder) rfl),
    m_sized_ladder := He.glo_ok X G (c.fact 7 (f := .glo "sized_ladder") rfl),
    a_has_crowds := He.fAd K ("has_crowds", none), fd_has_crowds := _, F_has_crowds := fun_mk (st := s_has_crowds) l14 c14 (kk 14 (d := d_has_crowds) rfl),
    m_has_crowds := He.glo_ok X G (c.fact 8 (f := .glo "has_crowds") rfl),
    a_check_stretch := He.fAd K ("check_stretch", none), fd_check_stretch := _, F_check_stretch := fun_mk (st := s_check_stretch) l15 c15 (kk 15 (d := d_check_stretch) rfl),
    m_check_stretch := He.glo_ok X G (c.fact 9 (f := .glo "check_stretch") rfl),
    a_stretch_loss := He.fAd K ("stretch_loss", none), fd_stretch_loss := _, F_stretch_loss := fun_mk (st := s_stretch_loss) l16 c16 (kk 16 (d := d_stretch_loss) rfl),
    m_stretch_loss := He.glo_ok X G (c.fact 10 (f := .glo "stretch_loss") rfl),
    a_middles := He.fAd K ("middles", none), fd_middles := _, F_middles := fun_mk (st := s_middles) l17 c17 (kk 17 (d := d_middles) rfl),
    m_middles := He.glo_ok X G (c.fact 11 (f := .glo "middles") rfl),
    a_parts_places := He.fAd K ("parts_places", none), fd_parts_places := _, F_parts_places := fun_mk (st := s_parts_places) l18 c18 (kk 18 (d := d_parts_places) rfl),
    m_parts_places := He.glo_ok X G (c.fact 12 (f := .glo "parts_places") rfl),
    a_are_shown := He.fAd K ("are_shown", none), fd_are_shown := _, F_are_shown := fun_mk (st := s_are_shown) l19 c19 (kk 19 (d := d_are_shown) rfl),
    m_are_shown := He.glo_ok X G (c.fact 13 (f := .glo "are_shown") rfl),
    a_loss_shown := He.fAd K ("loss_shown", none), fd_loss_shown := _, F_loss_shown := fun_mk (st := s_loss_shown) l20 c20 (kk 20 (d := d_loss_shown) rfl),
    m_loss_shown := He.glo_ok X G (c.fact 14 (f := .glo "loss_shown") rfl),
    a_line_loss := He.fAd K ("line_loss", none), fd_line_loss := _, F_line_loss := fun_mk (st := s_line_loss) l21 c21 (kk 21 (d := d_line_loss) rfl),
    m_line_loss := He.glo_ok X G (c.fact 15 (f := .glo "line_loss") rfl),
    a_crowded_ladder := He.fAd K ("crowded_ladder", none), fd_crowded_ladder := _, F_crowded_ladder := fun_mk (st := s_crowded_ladder) l22 c22 (kk 22 (d := d_crowded_ladder) rfl),
    m_crowded_ladder := He.glo_ok X G (c.fact 16 (f := .glo "crowded_ladder") rfl),
    a_one_more := He.fAd K ("one_more", none), fd_one_more := _, F_one_more := fun_mk (st := s_one_more) l23 c23 (kk 23 (d := d_one_more) rfl),
    m_one_more := He.glo_ok X G (c.fact 17 (f := .glo "one_more") rfl),
    a__law_pot := He.fAd K ("_law_pot", none), fd__law_pot := _, F__law_pot := fun_mk (st := s__law_pot) l24 c24 (kk 24 (d := d__law_pot) rfl),
    m__law_pot := He.glo_ok X G (c.fact 18 (f := .glo "_law_pot") rfl),
    a__law_take := He.fAd K ("_law_take", none), fd__law_take := _, F__law_take := fun_mk (st := s__law_take) l25 c25 (kk 25 (d := d__law_take) rfl),
    m__law_take := He.glo_ok X G (c.fact 19 (f := .glo "_law_take") rfl),
    a__law_of := He.fAd K ("_law_of", none), fd__law_of := _, F__law_of := fun_mk (st := s__law_of) l26 c26 (kk 26 (d := d__law_of) rfl),
    m__law_of := He.glo_ok X G (c.fact 20 (f := .glo "_law_of") rfl),
    a__law_some := He.fAd K ("_law_some", none), fd__law_some := _, F__law_some := fun_mk (st := s__law_some) l27 c27 (kk 27 (d := d__law_some) rfl),
    m__law_some := He.glo_ok X G (c.fact 21 (f := .glo "_law_some") rfl),
    a__law_cells := He.fAd K ("_law_cells", none), fd__law_cells := _, F__law_cells := fun_mk (st := s__law_cells) l28 c28 (kk 28 (d := d__law_cells) rfl),
    m__law_cells := He.glo_ok X G (c.fact 22 (f := .glo "_law_cells") rfl),
    a__law_line_values := He.fAd K ("_law_line_values", none), fd__law_line_values := _, F__law_line_values := fun_mk (st := s__law_line_values) l29 c29 (kk 29 (d := d__law_line_values) rfl),
    m__law_line_values := He.glo_ok X G (c.fact 23 (f := .glo "_law_line_values") rfl),
    a__law_crowd_cost := He.fAd K ("_law_crowd_cost", none), fd__law_crowd_cost := _, F__law_crowd_cost := fun_mk (st := s__law_crowd_cost) l30 c30 (kk 30 (d := d__law_crowd_cost) rfl),
    m__law_crowd_cost := He.glo_ok X G (c.fact 24 (f := .glo "_law_crowd_cost") rfl),
    a__law_cut_costs := He.fAd K ("_law_cut_costs", none), fd__law_cut_costs := _, F__law_cut_costs := fun_mk (st := s__law_cut_costs) l31 c31 (kk 31 (d := d__law_cut_costs) rfl),
    m__law_cut_costs := He.glo_ok X G (c.fact 25 (f := .glo "_law_cut_costs") rfl),
    a__law_least := He.fAd K ("_law_least", none), fd__law_least := _, F__law_least := fun_mk (st := s__law_least) l32 c32 (kk 32 (d := d__law_least) rfl),
    m__law_least := He.glo_ok X G (c.fact 26 (f := .glo "_law_least") rfl),
    a__law_middles_of := He.fAd K ("_law_middles_of", none), fd__law_middles_of := _, F__law_middles_of := fun_mk (st := s__law_middles_of) l33 c33 (kk 33 (d := d__law_middles_of) rfl),
    m__law_middles_of := He.glo_ok X G (c.fact 27 (f := .glo "_law_middles_of") rfl),
    a__law_crowds := He.fAd K ("_law_crowds", none), fd__law_crowds := _, F__law_crowds := fun_mk (st := s__law_crowds) l34 c34 (kk 34 (d := d__law_crowds) rfl),
    m__law_crowds := He.glo_ok X G (c.fact 28 (f := .glo "_law_crowds") rfl),
    a__law_right := He.fAd K ("_law_right", none), fd__law_right := _, F__law_right := fun_mk (st := s__law_right) l35 c35 (kk 35 (d := d__law_right) rfl),
    m__law_right := He.glo_ok X G (c.fact 29 (f := .glo "_law_right") rfl),
    a_law := He.fAd K ("law", none), fd_law := _, F_law := fun_mk (st := s_law) l36 c36 (kk 36 (d := d_law) rfl),
    m_law := He.glo_ok X G (c.fact 30 (f := .glo "law") rfl),
    m_FARTHEST := He.int_ok X G (c.fact 31 (f := .int "FARTHEST" 1000000) rfl),
    m_MOST_SIZE := He.int_ok X G (c.fact 32 (f := .int "MOST_SIZE" 200) rfl),
    m_MOST_VALUES := He.int_ok X G (c.fact 33 (f := .int "MOST_VALUES" 200) rfl),
    n_abs := He.free_ok X G (c.fact 34 (f := .free "abs") rfl),
    n_all := He.free_ok X G (c.fact 35 (f := .free "all") rfl),
    n_bool := He.free_ok X G (c.fact 36 (f := .free "bool") rfl),
    n_dict := He.free_ok X G (c.fact 37 (f := .free "dict") rfl),
    n_enumerate := He.free_ok X G (c.fact 38 (f := .free "enumerate") rfl),
    n_int := He.free_ok X G (c.fact 39 (f := .free "int") rfl),
    n_isinstance := He.free_ok X G (c.fact 40 (f := .free "isinstance") rfl),
    n_len := He.free_ok X G (c.fact 41 (f := .free "len") rfl),
    n_list := He.free_ok X G (c.fact 42 (f := .free "list") rfl),
    n_max := He.free_ok X G (c.fact 43 (f := .free "max") rfl),
    n_min := He.free_ok X G (c.fact 44 (f := .free "min") rfl),
    n_range := He.free_ok X G (c.fact 45 (f := .free "range") rfl),
    n_repr := He.free_ok X G (c.fact 46 (f := .free "repr") rfl),
    n_sorted := He.free_ok X G (c.fact 47 (f := .free "sorted") rfl),
    n_sum := He.free_ok X G (c.fact 48 (f := .free "sum") rfl),
    n_tuple := He.free_ok X G (c.fact 49 (f := .free "tuple") rfl),
    n_zip := He.free_ok X G (c.fact 50 (f := .free "zip") rfl),
    C_Ladder := He.ga K "Ladder", m_Ladder := He.glo_ok X G (c.fact 51 (f := .glo "Ladder") rfl),
    cl_Ladder := He.cls_ok (c.fact 52 (f := .cls "Ladder") rfl),
    M_Ladder := He.mkr_ok (c.fact 53 (f := .mkr "Ladder") rfl),
    me_Ladder_loss := He.meth_ok (c.fact 54 (f := .meth "Ladder" "loss") rfl),
    me_Ladder_middles := He.meth_ok (c.fact 55 (f := .meth "Ladder" "middles") rfl),
    me_Ladder_first_losses := He.meth_ok (c.fact 56 (f := .meth "Ladder" "first_losses") rfl),
    me_Ladder_crowd := He.meth_ok (c.fact 57 (f := .meth "Ladder" "crowd") rfl),
    na_Ladder_ascending := He.noat_ok (c.fact 58 (f := .noat "Ladder" "ascending") rfl),
    na_Ladder_places := He.noat_ok (c.fact 59 (f := .noat "Ladder" "places") rfl),
    na_Ladder_sums := He.noat_ok (c.fact 60 (f := .noat "Ladder" "sums") rfl) }⟩
abbrev R : PySem.W.OpenRow := PySem.W.OpenLaw.row PySem.Challenge.rw_alikecrowds_k25_stretches_losses_and_one
abbrev hk : PySem.W.Hook := HX.hookX nmL faL fnL xB
def ob (s : PySem.W.SharedT) : He.Al × Bool := HX.obsX nmL faL fnL xB (HandSHeadRun.getT s)
theorem ob_eq (s : PySem.W.SharedT) : ob s = hk.obs s.abs := HX.obsX_eq (HandSHeadRun.getT_eq s)
def looseL : List PySem.Str := (["_wall", "CrowdError", "BadValue", "BadValues", "TooMany", "BadSize", "BadStretch", "BadCrowds", "BadShown", "NoCrowds", "FARTHEST", "is_integer", "is_number_below", "is_ascending", "is_lot_below", "is_tuple_of", "is_line_value", "MOST_VALUES", "MOST_SIZE", "Ladder", "ladder_of", "sized_ladder", "has_crowds", "check_stretch", "stretch_loss", "middles", "parts_places", "are_shown", "loss_shown", "line_loss"] : List PySem.Str) ++ (["crowded_ladder", "one_more", "_law_pot", "_law_take", "_law_of", "_law_some", "_law_cells", "_law_line_values", "_law_crowd_cost", "_law_cut_costs", "_law_least", "_law_middles_of", "_law_crowds", "_law_right"] : List PySem.Str)
abbrev vw : Program := PySem.W.view R.prog [48]
theorem finX {l : PySem.W.OpenLaw} {w : World} {K : PySem.W.Frag} {mg : Str → Option Value} {fa : Addr} (hfa : mg "law" = some (.ref fa)) (t : Nonempty (Tx K mg)) :
    ∃ fd : FuncData, (∀ (s : Shared) (u : Value), BindsTo s fd ⟨[u], []⟩ [("script", u)]) ∧ ∀ base : Heap, K.In base → base.Ns mainGlobals mg → FnG l.prog w K mg base 8 fa fd ["script"] (sp_law K) := by
  obtain ⟨T⟩ := t
  have e := hfa.symm.trans T.m_law
  cases e
  refine ⟨T.fd_law, ?_, fun base _ _ => ok_law T⟩
  obtain ⟨oc, od, kV, doc, pm, an, cdv, ct, osl, e, _, _⟩ := T.F_law.ex
  rw [e]
  exact fun s v => .of_eq rfl
end Toy


namespace Toy
open PySem PySem.Spec
theorem run (w : World) : HandSHeadRun.RunEq R vw hk ob 12000 looseL w := by
  intro os
  kernel_rfl
end Toy


open PySem PySem.W PySem.Calls PyProof.Rows
theorem PySem.Challenge.cw_alikecrowds_k25_stretches_losses_and_one_holds : PySem.Challenge.rw_alikecrowds_k25_stretches_losses_and_one.Holds := by
  w_on; o_law
  refine HandSHeadRun.head_any (r := OpenLaw.row PySem.Challenge.rw_alikecrowds_k25_stretches_losses_and_one) (q := Toy.vw) (H := Toy.hk) (ob := Toy.ob) (M := 12000) (loose := Toy.looseL) (d := HandSHeadRun.topDef (OpenLaw.row PySem.Challenge.rw_alikecrowds_k25_stretches_losses_and_one).prog 48) (kwd := []) Toy.ob_eq
    (by kernel_rfl) (fun s => by kernel_rfl) Toy.run (by kernel_rfl) (by kernel_rfl) (by kernel_rfl) (by rfl) (by first | assumption | decide +kernel) (by decide +kernel) ⟨rfl, rfl, rfl, rfl, rfl, by decide +kernel⟩ ?hw ?hc
  case hw => w_witness2
  case hc =>
    refine HX.walkGE (l := PySem.Challenge.rw_alikecrowds_k25_stretches_losses_and_one) (n := 63) (k := 8) (x := "script") (sp := Toy.sp_law) rfl (by decide) (by kernel_rfl) ⟨rfl, by decide, by decide⟩ ?F ?S
    case S => exact fun K H a ns hl hS => ⟨a, ns, rfl, hS, hl, fun _ => rfl⟩
    case F =>
      intro w mg fa h Y G hmg0
      obtain ⟨K, KX, c, x⟩ := Y
      have hmg : mg ("law" : PySem.Str) = some (.ref fa) := by
        have e : (HandSHeadRun.topDef (OpenLaw.row PySem.Challenge.rw_alikecrowds_k25_stretches_losses_and_one).prog 48).name = ("law" : PySem.Str) := by kernel_rfl
        rw [← e]
        exact hmg0
      obtain ⟨fd, hb, hF⟩ := Toy.finX (l := PySem.Challenge.rw_alikecrowds_k25_stretches_losses_and_one) (w := w) hmg (Toy.mk_TxX KX G c x)
      exact ⟨K, fd, KX, hb, hF⟩

import PyProof.Rows.All
import Wide.All
import OpenK.AllK
import Wide.FinOn
import HandS.ForMost
import HandS.Exc
import HandS.ExcOwn
import HandS.WordsExc
import HandS.IsInst
import HandS.Wide
import HandS.Walk
import HandS.Conv
import HandS.Deep
import HandS.SetKeys
import HandS.ListItems
import HandS.FStr
import HandS.RaiseMore
import HandS.NoneIn
import KE.GoesZip
import KE.GoesMore
import KE.KDictWalk
import KE.GoesEnumKw
import HandS.MakeKw
import KE.KDictSum
import KE.KDictList
import HandS.RevTup
import HandS.More
import HandS.Set
import HandS.SetFor
import HandS.Strs
import HandS.DictComp
import PyProof.ReprRoads
import HandS.Defaults
import HandS.Head0
import HandS.Head1
import HandS.Head2
import HandS.HeadHook1
import HandS.Style
import KE.DataMinMax
import HandS.SortKw
import PySem.Challenge.RW_alikecrowds_k06_marks_finer_joined_least
set_option Elab.async false
set_option linter.all false
set_option maxRecDepth 100000
set_option maxHeartbeats 4000000
namespace U
open PySem PySem.Spec PyProof.Rows L2
/-! ### U: one rule for each sign of Python, whatever kinds of values stand beside it -/
section
variable {X : Cx}
theorem u_or {e : Expr} {t u : TE} (h1 : PE X e t) (h2 : PE X e u) : PE X e (fun σ H Q => t σ H Q ∨ u σ H Q) :=
  ⟨fun pins s σ H Q I h => h.elim (h1.run pins s σ H Q I) (h2.run pins s σ H Q I)⟩
theorem u_weak {e : Expr} {t u : TE} (h1 : PE X e t) (w : ∀ σ H Q, u σ H Q → t σ H Q) : PE X e u := ⟨fun pins s σ H Q I h => h1.run pins s σ H Q I (w σ H Q h)⟩
theorem u_constI {x : Str} {i : Int} {pos : Pos} (hg : Gl X x) (h : ∃ t, X.mg x = some (.int i t)) (hd : (x == ("__debug__" : Str)) = false := by decide) : PE X (.Name x pos) (tC (.int i)) := by
  obtain ⟨t, h⟩ := h
  exact pe_glob hg h ⟨t, rfl⟩ hd
theorem u_constS {x : Str} {z : Str} {pos : Pos} (hg : Gl X x) (h : ∃ t, X.mg x = some (.str z t)) (hd : (x == ("__debug__" : Str)) = false := by decide) : PE X (.Name x pos) (tC (.str z)) := by
  obtain ⟨t, h⟩ := h
  exact pe_glob hg h ⟨t, rfl⟩ hd
theorem u_ty {x : Str} {n : String} {pos : Pos} (hg : Gl X x) (hm : X.mg x = none) (hv : bootBuiltins x = some (.type n)) (hn : x ≠ "__name__" := by decide) (hd : (x == ("__debug__" : Str)) = false := by decide) : PE X (.Name x pos) (tC (.ty n)) := pe_bltn hg hm hv rfl hn hd
/-- x + y -/
def uAdd (K : PySem.W.Frag) : R2 := fun x y H Q => match x, y with
  | .int i, .int j => Q (.int (i + j)) H
  | .str i, .str j => i.length + j.length ≤ sizeLine ∧ Q (.str (i ++ j)) H
  | .ref a, .ref b => rCat (.ref a) (.ref b) H Q ∨ rCatT K (.ref a) (.ref b) H Q
  | _, _ => False
theorem op_uAdd0 : OpR X (binaryOp .Add) (uAdd X.K) := by
  intro pins s σ H x y u v Q I rx ry h
  cases x <;> cases y <;> first | exact False.elim h | skip
  case int.int i j => exact op_add pins s σ H _ _ u v Q I rx ry ⟨i, j, rfl, rfl, h⟩
  case str.str i j => exact op_add_str pins s σ H _ _ u v Q I rx ry ⟨i, j, rfl, rfl, h.1, h.2⟩
  case ref.ref a b => exact (OpR.or op_cat op_catT) pins s σ H _ _ u v Q I rx ry h
/-- x * y, x // y, x ** y -/
def uMul : R2 := fun x y H Q => match x, y with
  | .int i, .int j => (CMul i j ∨ CMulW i j) ∧ Q (.int (i * j)) H
  | _, _ => False
theorem op_uMul : OpR X (binaryOp .Mult) uMul := by
  intro pins s σ H x y u v Q I rx ry h
  cases x <;> cases y <;> first | exact False.elim h | skip
  case int.int i j =>
    rcases h.1 with c | c
    · exact op_mul pins s σ H _ _ u v Q I rx ry ⟨i, j, rfl, rfl, c, h.2⟩
    · exact op_mulW pins s σ H _ _ u v Q I rx ry ⟨i, j, rfl, rfl, c, h.2⟩
def uDiv : R2 := fun x y H Q => match x, y with
  | .int i, .int j => CDivW i j ∧ Q (.int (i / j)) H
  | _, _ => False
theorem op_uDiv : OpR X (binaryOp .FloorDiv) uDiv := by
  intro pins s σ H x y u v Q I rx ry h
  cases x <;> cases y <;> first | exact False.elim h | skip
  case int.int i j => exact op_fdivW pins s σ H _ _ u v Q I rx ry ⟨i, j, rfl, rfl, h.1, h.2⟩
def uMod : R2 := fun x y H Q => match x, y with
  | .int i, .int j => 0 < j ∧ Q (.int (i % j)) H
  | _, _ => False
theorem op_uMod : OpR X (binaryOp .Mod) uMod := by
  intro pins s σ H x y u v Q I rx ry h
  cases x <;> cases y <;> first | exact False.elim h | skip
  case int.int i j => exact op_mod pins s σ H _ _ u v Q I rx ry ⟨i, j, rfl, rfl, h.1, h.2⟩
def uPow : R2 := fun x y H Q => match x, y with
  | .int i, .int j => (0 ≤ j ∧ (Builtin.Int.intBits i : Int) * j ≤ 2 ^ 27) ∧ Q (.int (i ^ j.toNat)) H
  | _, _ => False
theorem op_uPow : OpR X (binaryOp .Pow) uPow := by
  intro pins s σ H x y u v Q I rx ry h
  cases x <;> cases y <;> first | exact False.elim h | skip
  case int.int i j =>
    obtain ⟨t, rfl⟩ := rx
    obtain ⟨t', rfl⟩ := ry
    exact pow_int h.1.1 h.1.2 ⟨.int (i ^ j.toNat), H, I.tok _, ⟨_, rfl⟩, h.2⟩
def uSub : R2 := fun x y H Q => match x, y with
  | .int i, .int j => Q (.int (i - j)) H
  | _, _ => False
theorem op_uSub : OpR X (binaryOp .Sub) uSub := by
  intro pins s σ H x y u v Q I rx ry h
  cases x <;> cases y <;> first | exact False.elim h | skip
  case int.int i j => exact op_sub pins s σ H _ _ u v Q I rx ry ⟨i, j, rfl, rfl, h⟩
def uNeg : V → Hp → VK → Prop := fun x H Q => match x with
  | .int i => Q (.int (-i)) H
  | _ => False
theorem op_uNeg : UnR X (unaryOp .USub) uNeg := by
  intro pins s σ H x v Q I rx h
  cases x <;> first | exact False.elim h | skip
  case int i => exact un_neg pins s σ H _ v Q I rx ⟨i, rfl, h⟩
/-- comparisons of whole numbers -/
def uCmp (p : Int → Int → Bool) : R2 := fun x y H Q => match x, y with
  | .int i, .int j => Q (.bl (p i j)) H
  | _, _ => False
theorem op_uLt : OpR X (compareOp .Lt) (uCmp fun i j => decide (i < j)) := by
  intro pins s σ H x y u v Q I rx ry h
  cases x <;> cases y <;> first | exact False.elim h | skip
  case int.int i j => exact op_lt pins s σ H _ _ u v Q I rx ry ⟨i, j, rfl, rfl, h⟩
theorem op_uLe : OpR X (compareOp .LtE) (uCmp fun i j => decide (i ≤ j)) := by
  intro pins s σ H x y u v Q I rx ry h
  cases x <;> cases y <;> first | exact False.elim h | skip
  case int.int i j => exact op_le pins s σ H _ _ u v Q I rx ry ⟨i, j, rfl, rfl, h⟩
theorem op_uGt : OpR X (compareOp .Gt) (uCmp fun i j => decide (j < i)) := by
  intro pins s σ H x y u v Q I rx ry h
  cases x <;> cases y <;> first | exact False.elim h | skip
  case int.int i j => exact op_gt pins s σ H _ _ u v Q I rx ry ⟨i, j, rfl, rfl, h⟩
theorem op_uGe : OpR X (compareOp .GtE) (uCmp fun i j => decide (j ≤ i)) := by
  intro pins s σ H x y u v Q I rx ry h
  cases x <;> cases y <;> first | exact False.elim h | skip
  case int.int i j => exact op_ge pins s σ H _ _ u v Q I rx ry ⟨i, j, rfl, rfl, h⟩
/-- x == y: scalars, else data at any depth -/
def uEq (K : PySem.W.Frag) (neg : Bool) : R2 := fun x y H Q =>
  (scal x y = true ∧ Q (.bl (if neg then !decide (x = y) else decide (x = y))) H) ∨ (∃ d e, Dp K H x d ∧ Dp K H y e ∧ SeqAt.shaped d = true ∧ SeqAt.shaped e = true ∧ Q (.bl (if neg then !PyData.eqv d e else PyData.eqv d e)) H)
theorem op_uEq0 (hu : X.A.units + 64 < cLine) : OpR X (compareOp .Eq) (uEq X.K false) := OpR.or op_eq (op_eqD hu)
theorem op_uNe0 (hu : X.A.units + 64 < cLine) : OpR X (compareOp .NotEq) (uEq X.K true) := OpR.or op_ne (op_neD hu)
/-- x[i] of a list, a tuple, a text -/
def uIx (K : PySem.W.Frag) : R2 := fun x y H Q => match x, y with
  | .ref p, .int i => (∃ xs v, (SqL K H p xs ∨ SqT K H p xs) ∧ atI xs i = some v ∧ Q v H)
  | .str z, .int i => z.length ≤ sizeLine ∧ ∃ c, atI z.cps.toList i = some c ∧ Q (.str ⟨#[c]⟩) H
  | _, _ => False
theorem ix_u0 : IxR X (uIx X.K) := by
  intro ea eb pins s σ H x y u v Q I rx ry h hs
  cases x <;> cases y <;> first | exact False.elim h | skip
  case ref.int p i =>
    obtain ⟨xs, v', h1 | h1, h2, q⟩ := h
    · exact ix_seq ea eb pins s σ H _ _ u v Q I rx ry (Or.inl ⟨p, xs, i, v', rfl, rfl, h1, h2, q⟩) hs
    · exact ix_seq ea eb pins s σ H _ _ u v Q I rx ry (Or.inr (Or.inl ⟨p, xs, i, v', rfl, rfl, h1, h2, q⟩)) hs
  case str.int z i =>
    obtain ⟨h1, c, h2, q⟩ := h
    exact ix_seq ea eb pins s σ H _ _ u v Q I rx ry (Or.inr (Or.inr ⟨z, i, c, rfl, rfl, h1, h2, q⟩)) hs
/-- x[lo:hi] -/
def uSl (K : PySem.W.Frag) : V → Option Int → Option Int → Hp → VK → Prop := fun x lo hi H Q => match x with
  | .ref a => (∃ xs, SqL K H a xs ∧ ∀ p, H p = none → Q (.ref p) (upd H p (.lst (cutV xs lo hi)))) ∨ rSlT K (.ref a) lo hi H Q
  | .str z => z.length ≤ sizeLine ∧ Q (.str (cutS z lo hi)) H
  | _ => False
theorem sl_u0 : SlR X (uSl X.K) := by
  intro pins s σ H x v vl vu lo hi sl Q I rx hs pl pu h
  cases x <;> first | exact False.elim h | skip
  case ref a =>
    rcases h with ⟨xs, h1, h2⟩ | h
    · exact sl_list pins s σ H _ v vl vu lo hi sl Q I rx hs pl pu ⟨a, xs, rfl, h1, h2⟩
    · exact sl_tup pins s σ H _ v vl vu lo hi sl Q I rx hs pl pu h
  case str z => exact sl_str pins s σ H _ v vl vu lo hi sl Q I rx hs pl pu ⟨z, rfl, h.1, h.2⟩
/-- len(x) -/
def uLen (K : PySem.W.Frag) : List V → Hp → VK → Prop := fun xs H Q => match xs with
  | [.str z] => z.length ≤ sizeLine ∧ Q (.int z.length) H
  | [.ref p] => (∃ ys, (SqL K H p ys ∨ SqT K H p ys) ∧ Q (.int ys.length) H) ∨ ∃ kvs, H p = some (.dK kvs) ∧ Q (.int kvs.length) H
  | _ => False
theorem call_uLen0 : CallR X (.builtin "len") (uLen X.K) := by
  intro pins s σ H xs us Q I r h
  match xs, h with
  | [.str z], h => exact call_len_str pins s σ H _ us Q I r ⟨z, rfl, h.1, h.2⟩
  | [.ref p], h =>
    rcases h with ⟨ys, h1, h2⟩ | ⟨kvs, h1, h2⟩
    · exact call_len_seq pins s σ H _ us Q I r ⟨p, ys, rfl, h1, h2⟩
    · exact call_lenD pins s σ H _ us Q I r ⟨p, kvs, rfl, h1, h2⟩
/-- int(x) -/
def uInt : List V → Hp → VK → Prop := fun xs H Q => match xs with
  | [.int i] => Q (.int i) H
  | [.bl k] => Q (.int (if k then 1 else 0)) H
  | [.str a] => ∃ n, PySem.intText? a = some n ∧ a.length ≤ 640 ∧ Q (.int n) H
  | _ => False
theorem call_uInt : CallR X (.type "int") uInt := by
  intro pins s σ H xs us Q I r h
  match xs, h with
  | [.int i], h => exact call_int1 pins s σ H _ us Q I r (Or.inl ⟨i, rfl, h⟩)
  | [.bl k], h => exact call_int1 pins s σ H _ us Q I r (Or.inr ⟨k, rfl, h⟩)
  | [.str a], ⟨n, h1, h2, q⟩ => exact call_int_str pins s σ H _ us Q I r ⟨a, n, rfl, h1, h2, q⟩
/-- str(x) -/
def uStr : List V → Hp → VK → Prop := fun xs H Q => match xs with
  | [.int i] => i.natAbs.log2 < 1920 ∧ Q (.str (toString i)) H
  | [.str a] => Q (.str a) H
  | _ => False
theorem call_uStr : CallR X (.type "str") uStr := by
  intro pins s σ H xs us Q I r h
  match xs, h with
  | [.int i], h => exact call_str_int pins s σ H _ us Q I r ⟨i, rfl, h.1, h.2⟩
  | [.str a], h => exact SkE.call_str_str pins s σ H _ us Q I r ⟨a, rfl, h⟩
/-- tuple(x), list(x) -/
def uTupC (K : PySem.W.Frag) : List V → Hp → VK → Prop := fun xs H Q => match xs with
  | [.ref p] => (∃ ys, SqL K H p ys ∧ ∀ l, H l = none → Q (.ref l) (upd H l (.tup ys))) ∨ (∃ ys, SqT K H p ys ∧ Q (.ref p) H)
  | _ => False
theorem call_uTuple0 : CallR X (.type "tuple") (uTupC X.K) := by
  intro pins s σ H xs us Q I r h
  match xs, h with
  | [.ref p], h =>
    rcases h with ⟨ys, h1, h2⟩ | ⟨ys, h1, h2⟩
    · exact call_tuple_of pins s σ H _ us Q I r ⟨p, ys, rfl, Or.inl ⟨h1, h2⟩⟩
    · exact call_tuple_of pins s σ H _ us Q I r ⟨p, ys, rfl, Or.inr ⟨h1, h2⟩⟩
def uLstC (K : PySem.W.Frag) : List V → Hp → VK → Prop := fun xs H Q => match xs with
  | [.ref p] => ∃ ys, (SqL K H p ys ∨ SqT K H p ys) ∧ ∀ l, H l = none → Q (.ref l) (upd H l (.lst ys))
  | _ => False
theorem call_uList0 : CallR X (.type "list") (uLstC X.K) := by
  intro pins s σ H xs us Q I r h
  match xs, h with
  | [.ref p], ⟨ys, h1, h2⟩ => exact call_list_of pins s σ H _ us Q I r ⟨p, ys, rfl, h1, h2⟩
/-- abs(i) -/
def uAbs : List V → Hp → VK → Prop := fun xs H Q => match xs with
  | [.int i] => Q (.int (if i < 0 then -i else i)) H
  | _ => False
theorem call_uAbs : CallR X (.builtin "abs") uAbs := by
  intro pins s σ H xs us Q I r h
  match xs, h with
  | [.int i], h => exact call_abs pins s σ H _ us Q I r ⟨i, rfl, h⟩
/-- min(i, j), max(i, j) -/
def uMM (f : Int → Int → Int) : List V → Hp → VK → Prop := fun xs H Q => match xs with
  | [.int i, .int j] => Q (.int (f i j)) H
  | _ => False
theorem call_uMin (hc : X.calm = true) : CallR X (.builtin "min") (uMM fun i j => if j < i then j else i) := by
  intro pins s σ H xs us Q I r h
  match xs, h with
  | [.int i, .int j], h => exact call_min2 hc pins s σ H _ us Q I r ⟨i, j, rfl, h⟩
theorem call_uMax (hc : X.calm = true) : CallR X (.builtin "max") (uMM fun i j => if j > i then j else i) := by
  intro pins s σ H xs us Q I r h
  match xs, h with
  | [.int i, .int j], h => exact call_max2 hc pins s σ H _ us Q I r ⟨i, j, rfl, h⟩
end
section
variable {X : Cx} {K : PySem.W.Frag}
/-! the same, K named: within a comprehension -/
theorem op_uAdd (hK : X.K = K) : OpR X (binaryOp .Add) (uAdd K) := by subst hK; exact op_uAdd0
theorem ix_u (hK : X.K = K) : IxR X (uIx K) := by subst hK; exact ix_u0
theorem sl_u (hK : X.K = K) : SlR X (uSl K) := by subst hK; exact sl_u0
theorem call_uLen (hK : X.K = K) : CallR X (.builtin "len") (uLen K) := by subst hK; exact call_uLen0
theorem op_uEq (hK : X.K = K) (hu : X.A.units + 64 < cLine) : OpR X (compareOp .Eq) (uEq K false) := by subst hK; exact op_uEq0 hu
theorem op_uNe (hK : X.K = K) (hu : X.A.units + 64 < cLine) : OpR X (compareOp .NotEq) (uEq K true) := by subst hK; exact op_uNe0 hu
theorem op_uIn (hK : X.K = K) : OpR X (compareOp .In) (rIn K false) := by subst hK; exact op_in_seq
theorem op_uNotIn (hK : X.K = K) : OpR X (compareOp .NotIn) (rIn K true) := by subst hK; exact op_notIn_seq
theorem call_uAll (hK : X.K = K) (hc : X.calm = true) : CallR X (.builtin "all") (rAll K) := by subst hK; exact cr_all hc
theorem call_uAny (hK : X.K = K) (hc : X.calm = true) : CallR X (.builtin "any") (rAny K) := by subst hK; exact cr_any hc
theorem call_uSum (hK : X.K = K) (hc : X.calm = true) : CallR X (.builtin "sum") (rSum K) := by subst hK; exact cr_sum hc
theorem call_uTuple (hK : X.K = K) : CallR X (.type "tuple") (uTupC K) := by subst hK; exact call_uTuple0
theorem call_uList (hK : X.K = K) : CallR X (.type "list") (uLstC K) := by subst hK; exact call_uList0
theorem call_uIsi (hK : X.K = K) : CallR X (.builtin "isinstance") (rIsi K) := by subst hK; exact call_isi
theorem u_fld {e : Expr} {ta : TE} {f : Str} {pos : Pos} (hK : X.K = K) (he : PE X e ta) (hb : attributeBase e f X.env (eval e X.env) = eval e X.env) : PE X (.Attribute e f pos) (tFld K ta f) := by subst hK; exact pe_fld he hb
theorem u_list {tg l : Expr} {tl : TE} (hK : X.K = K) (hl : PE X l tl) : PI X tg l (iList K tl) := by subst hK; exact pi_list hl
theorem u_tup {tg l : Expr} {tl : TE} (hK : X.K = K) (hl : PE X l tl) : PI X tg l (iTup K tl) := by subst hK; exact pi_tup hl
theorem u_gtup {es : List Expr} {k : Nat} {t : TGs} {n : Nat} {pos : Pos} (hK : X.K = K) (hc : X.calm = true) (h : PGs X es t) (hn : (assignEach es X.env).length = n := by rfl) (hst : (assignEach es X.env).findIdx? (·.1) = none := by rfl) : PG X (.Tuple es k pos) (gTup K n t) := by subst hK; exact pg_tup hc h hn hst
end
/-! ### heaps -/
theorem same_new {H : Hp} {p : Addr} {o : HO} (h : H p = none) : Same H (upd H p o) := fun a u e => by
  rw [upd_ne (ne_of_none e h)]
  exact e
theorem nb1 {H : Hp} {a b : Addr} {o : HO} (h : (upd H a o) b = none) : H b = none := by
  by_cases e : b = a
  · subst e; rw [upd_same] at h; cases h
  · rw [upd_ne e] at h; exact h
theorem nb2 {H : Hp} {a b : Addr} {o : HO} (h : (upd H a o) b = none) : b ≠ a := fun e => by
  subst e; rw [upd_same] at h; cases h
/-- all that was tracked stays, but what stands at p -/
def SB (p : Addr) (H H' : Hp) : Prop := ∀ b o, H b = some o → b ≠ p → H' b = some o
theorem SB.refl (p : Addr) (H : Hp) : SB p H H := fun _ _ h _ => h
theorem SB.trans {p : Addr} {H H1 H2 : Hp} (a : SB p H H1) (b : SB p H1 H2) : SB p H H2 := fun c o h n => b c o (a c o h n) n
theorem SB.of {p : Addr} {H H' : Hp} (a : Same H H') : SB p H H' := fun c o h _ => a c o h
theorem SB.new {p a : Addr} {H H' : Hp} {o : HO} (s : SB p H H') (h : H' a = none) : SB p H (L2.upd H' a o) := fun c u e n => same_new h c u (s c u e n)
theorem SB.mut {p a : Addr} {H H' : Hp} {o : HO} (s : SB p H H') (h : H a = none) : SB p H (L2.upd H' a o) := fun c u e n => by
  rw [upd_ne (ne_of_none e h)]
  exact s c u e n
theorem SB.upd {p : Addr} {H : Hp} {o : HO} : SB p H (L2.upd H p o) := fun c u h n => by rw [L2.upd_ne n]; exact h
theorem SB.put {p : Addr} {H H' : Hp} {o : HO} (a : SB p H H') : SB p H (L2.upd H' p o) := fun c u h n => by rw [upd_ne n]; exact a c u h n
theorem get_same {H : Hp} {a : Addr} {o u : HO} (e : o = u) : (upd H a o) a = some u := by rw [upd_same, e]
theorem get_new {H : Hp} {p a : Addr} {o u : HO} (h : H p = none) (ha : H a = some u) : (upd H p o) a = some u := same_new h a u ha
theorem get_ne {H : Hp} {p a : Addr} {o : HO} {r : Option HO} (h : a ≠ p) (ha : H a = r) : (upd H p o) a = r := by rw [upd_ne h]; exact ha
/-! ### the reading's steps, each by its own lemma (goal on the right) -/
section
variable {σ : L2.St} {H : Hp} {Q : VK} {D : Ends} {K : PySem.W.Frag}
theorem g_var {i : Nat} {v : V} (h : σ[i]? = some (some v)) (q : Q v H) : tVar i σ H Q := ⟨v, h, q⟩
theorem g_c {v : V} (q : Q v H) : tC v σ H Q := q
theorem g_op {r : R2} {ta tb : TE} (q : ta σ H fun x H1 => tb σ H1 fun y H2 => r x y H2 Q) : tOp r ta tb σ H Q := q
theorem g_un {r : V → Hp → VK → Prop} {ta : TE} (q : ta σ H fun x H1 => r x H1 Q) : tUn r ta σ H Q := q
theorem g_nil {R : List V → Hp → Prop} (q : R [] H) : tNil σ H R := q
theorem g_cons {ta : TE} {t : TA} {R : List V → Hp → Prop} (q : ta σ H fun x H1 => t σ H1 fun xs H2 => R (x :: xs) H2) : tCons ta t σ H R := q
theorem g_cb {r : List V → Hp → VK → Prop} {t : TA} (q : t σ H fun vs H1 => r vs H1 Q) : tCB r t σ H Q := q
theorem g_call {sp : Sp} {dvs : List V} {E : XK} {t : TA} (q : t σ H fun vs H1 => sp (vs ++ dvs) H1 Q E) : tCall sp dvs E t σ H Q := q
theorem g_seq {t u : TS} (q : t { D with nx := u D } σ H) : tSeq t u D σ H := q
theorem g_next (q : D.nx σ H) : tNext D σ H := q
theorem g_asg {te : TE} {g : TG} (q : te σ H fun x H1 => g x σ H1 D.nx) : tAsg te g D σ H := q
theorem g_name {i : Nat} {v : V} {R : L2.St → Hp → Prop} (q : R (σ.set i (some v)) H) : gName i v σ H R := q
theorem g_ret {te : TE} (q : te σ H D.rt) : tRet te D σ H := q
theorem g_drop {te : TE} (q : te σ H fun _ H1 => D.nx σ H1) : tDrop te D σ H := q
theorem g_ifS {c : TT} {t u : TS} (q : c σ H fun b H1 => if b = true then t D σ H1 else u D σ H1) : tIfS c t u D σ H := q
theorem g_if {c : TT} {ta tb : TE} (q : c σ H fun b H1 => if b = true then ta σ H1 Q else tb σ H1 Q) : tIf c ta tb σ H Q := q
theorem g_test {t : TE} {R : Bool → Hp → Prop} (q : t σ H fun x H' => ∃ k, x = .bl k ∧ R k H') : tTest t σ H R := q
theorem g_B {t : TE} {R : Bool → Hp → Prop} (q : t σ H fun x H' => ∃ k, x = .bl k ∧ R k H') : tB t σ H R := q
theorem g_and {t u : TT} {R : Bool → Hp → Prop} (q : t σ H fun c H1 => if c = true then u σ H1 R else R false H1) : tAnd t u σ H R := q
theorem g_or {t u : TT} {R : Bool → Hp → Prop} (q : t σ H fun c H1 => if c = true then R true H1 else u σ H1 R) : tOr t u σ H R := q
theorem g_not {t : TT} {R : Bool → Hp → Prop} (q : t σ H fun c H1 => R (!c) H1) : tNot t σ H R := q
theorem g_andV {ta tb : TE} (q : ta σ H fun x H1 => ∃ c, x = .bl c ∧ if c = true then tb σ H1 Q else Q (.bl false) H1) : tAndV ta tb σ H Q := q
theorem g_orV {ta tb : TE} (q : ta σ H fun x H1 => ∃ c, x = .bl c ∧ if c = true then Q (.bl true) H1 else tb σ H1 Q) : tOrV ta tb σ H Q := q
theorem g_notV {ta : TE} (q : ta σ H fun x H1 => ∃ c, x = .bl c ∧ Q (.bl (!c)) H1) : tNotV ta σ H Q := q
theorem g_addI {i j : Int} (q : Q (.int (i + j)) H) : uAdd K (.int i) (.int j) H Q := q
theorem g_addS {i j : Str} (h : i.length + j.length ≤ sizeLine) (q : Q (.str (i ++ j)) H) : uAdd K (.str i) (.str j) H Q := ⟨h, q⟩
theorem g_subI {i j : Int} (q : Q (.int (i - j)) H) : uSub (.int i) (.int j) H Q := q
theorem g_negI {i : Int} (q : Q (.int (-i)) H) : uNeg (.int i) H Q := q
theorem g_cmpI {p : Int → Int → Bool} {i j : Int} (q : Q (.bl (p i j)) H) : uCmp p (.int i) (.int j) H Q := q
theorem g_intI {i : Int} (q : Q (.int i) H) : uInt [.int i] H Q := q
theorem g_intB {k : Bool} (q : Q (.int (if k then 1 else 0)) H) : uInt [.bl k] H Q := q
theorem g_absI {i : Int} (q : Q (.int (if i < 0 then -i else i)) H) : uAbs [.int i] H Q := q
theorem g_mmI {f : Int → Int → Int} {i j : Int} (q : Q (.int (f i j)) H) : uMM f [.int i, .int j] H Q := q
theorem g_bl {b : Bool} {R : Bool → Hp → Prop} (q : R b H) : ∃ k, V.bl b = .bl k ∧ R k H := ⟨b, rfl, q⟩
theorem g_blP {b : Bool} {R : Bool → Prop} (q : R b) : ∃ k, V.bl b = .bl k ∧ R k := ⟨b, rfl, q⟩
theorem g_eqS {x y : V} {n : Bool} (h : scal x y = true) (q : Q (.bl (if n then !decide (x = y) else decide (x = y))) H) : uEq K n x y H Q := Or.inl ⟨h, q⟩
theorem g_modI {i j : Int} (h : 0 < j) (q : Q (.int (i % j)) H) : uMod (.int i) (.int j) H Q := ⟨h, q⟩
theorem g_divI {i j : Int} (h : CDivW i j) (q : Q (.int (i / j)) H) : uDiv (.int i) (.int j) H Q := ⟨h, q⟩
theorem g_mulI {i j : Int} (h : CMul i j ∨ CMulW i j) (q : Q (.int (i * j)) H) : uMul (.int i) (.int j) H Q := ⟨h, q⟩
theorem g_powI {i j : Int} (h : 0 ≤ j ∧ (Builtin.Int.intBits i : Int) * j ≤ 2 ^ 27) (q : Q (.int (i ^ j.toNat)) H) : uPow (.int i) (.int j) H Q := ⟨h, q⟩
theorem g_ix {p : Addr} {xs : List V} {i : Int} {v : V} (h1 : SqL K H p xs ∨ SqT K H p xs) (h2 : atI xs i = some v) (q : Q v H) : uIx K (.ref p) (.int i) H Q := ⟨xs, v, h1, h2, q⟩
theorem g_lst {ta : TA} (q : ta σ H fun xs H1 => xs.length ≤ sizeLine ∧ ∀ p, H1 p = none → Q (.ref p) (upd H1 p (.lst xs))) : tLst ta σ H Q := q
theorem g_tup {ta : TA} (q : ta σ H fun xs H1 => xs.length ≤ sizeLine ∧ ∀ p, H1 p = none → Q (.ref p) (upd H1 p (.tup xs))) : tTup ta σ H Q := q
theorem g_sub {to ti : TE} {t : TSet} {v : V} {R : L2.St → Hp → Prop} (q : to σ H fun o H1 => ti σ H1 fun i H2 => t o i v H2 fun H3 => R σ H3) : gSub to ti t v σ H R := q
theorem g_setL {p : Addr} {xs : List V} {k : Int} {j : Nat} {v : V} {R : Hp → Prop} (h : H p = some (.lst xs)) (e : ixN xs.length k = some j) (q : R (upd H p (.lst (xs.set j v)))) : rSetL (.ref p) (.int k) v H R := ⟨p, xs, k, j, rfl, rfl, h, e, q⟩
theorem g_ixS {z : Str} {i : Int} {c : Nat} (h : z.length ≤ sizeLine) (e : atI z.cps.toList i = some c) (q : Q (.str ⟨#[c]⟩) H) : uIx K (.str z) (.int i) H Q := ⟨h, c, e, q⟩
theorem g_T {A B : Prop} (h : A) : if true = true then A else B := iteT h
theorem g_F {A B : Prop} (h : B) : if false = true then A else B := iteF h
theorem g_nT {A B : Prop} (h : B) : if (!true) = true then A else B := iteF h
theorem g_nF {A B : Prop} (h : A) : if (!false) = true then A else B := iteT h
theorem g_2 {b : Bool} {A B : Prop} (h1 : b = true → A) (h2 : b = false → B) : if b = true then A else B := by
  cases b with
  | true => exact iteT (h1 rfl)
  | false => exact iteF (h2 rfl)
theorem intBits_le {i : Int} {n : Nat} (h : i.natAbs < 2 ^ n) : Builtin.Int.intBits i ≤ n := by
  unfold Builtin.Int.intBits
  split
  · exact Nat.zero_le _
  · rename_i hn
    have h0 : i.natAbs ≠ 0 := fun z => hn (by simp [Int.natAbs_eq_zero.mp z])
    exact (Nat.log2_lt h0).mpr h
theorem g_pow3 {i : Int} (h0 : 0 ≤ i) (h : i < 2 ^ 100) (q : Q (.int (i ^ (3 : Int).toNat)) H) : uPow (.int i) (.int 3) H Q := by
  refine ⟨⟨by decide, ?_⟩, q⟩
  have z : Builtin.Int.intBits i ≤ 100 := intBits_le (by omega)
  have : ((Builtin.Int.intBits i : Nat) : Int) ≤ 100 := by exact_mod_cast z
  omega
theorem g_ix5 {p : Addr} {a b c d e k : Int} (h : SqL K H p [.int a, .int b, .int c, .int d, .int e]) (ha : ∀ v ∈ [a, b, c, d, e], (0 : Int) < v ∧ v < 2 ^ 32) (h0 : 0 ≤ k) (h5 : k < 5) (q : ∀ v : Int, 0 < v → v < 2 ^ 32 → Q (.int v) H) : uIx K (.ref p) (.int k) H Q := by
  have : k = 0 ∨ k = 1 ∨ k = 2 ∨ k = 3 ∨ k = 4 := by omega
  rcases this with rfl | rfl | rfl | rfl | rfl
  · exact g_ix (Or.inl h) rfl (q _ (ha a (by simp)).1 (ha a (by simp)).2)
  · exact g_ix (Or.inl h) rfl (q _ (ha b (by simp)).1 (ha b (by simp)).2)
  · exact g_ix (Or.inl h) rfl (q _ (ha c (by simp)).1 (ha c (by simp)).2)
  · exact g_ix (Or.inl h) rfl (q _ (ha d (by simp)).1 (ha d (by simp)).2)
  · exact g_ix (Or.inl h) rfl (q _ (ha e (by simp)).1 (ha e (by simp)).2)
theorem bnd_ckk {C k : Int} (h0 : 0 ≤ C) (h1 : C ≤ 2 ^ 20) (k0 : 0 ≤ k) (k1 : k ≤ 2 ^ 20) : 0 ≤ C * k * k ∧ C * k * k ≤ 2 ^ 60 := by
  have a1 : 0 ≤ C * k := Int.mul_nonneg h0 k0
  have a2 : C * k ≤ 2 ^ 20 * 2 ^ 20 := Int.mul_le_mul h1 k1 k0 (by decide)
  refine ⟨Int.mul_nonneg a1 k0, ?_⟩
  have a3 : C * k * k ≤ 2 ^ 20 * 2 ^ 20 * 2 ^ 20 := Int.mul_le_mul a2 k1 k0 (by decide)
  exact a3
theorem g_powB {s C k e : Int} (s0 : 0 ≤ s) (s1 : s < 2 ^ 61) (c0 : 0 ≤ C) (c1 : C ≤ 2 ^ 20) (k0 : 0 ≤ k) (k1 : k ≤ 2 ^ 20) (e0 : 0 ≤ e) (e1 : e ≤ 2 ^ 20) (q : Q (.int ((s + C * k * k + e) ^ (3 : Int).toNat)) H) : uPow (.int (s + C * k * k + e)) (.int 3) H Q := by
  obtain ⟨b0, b1⟩ := bnd_ckk c0 c1 k0 k1
  exact g_pow3 (by omega) (by omega) q
theorem at_nat {α : Type} {xs : List α} {z : Int} {j : Nat} {v : α} (e : z = (j : Int)) (h : xs[j]? = some v) : atI xs z = some v := by
  rw [e]
  exact atI_nat h
theorem g_mulB {i : Int} {b : Bool} (q : Q (.int (i * (if b = true then 1 else 0))) H) : uMul (.int i) (.int (if b = true then 1 else 0)) H Q := ⟨Or.inl (Or.inr (by cases b <;> decide)), q⟩
theorem g_powL {i j : Int} (h : decide (0 ≤ j ∧ (Builtin.Int.intBits i : Int) * j ≤ 2 ^ 27) = true) (q : Q (.int (i ^ j.toNat)) H) : uPow (.int i) (.int j) H Q := ⟨of_decide_eq_true h, q⟩
theorem g_modL {i j : Int} (h : decide (0 < j) = true) (q : Q (.int (i % j)) H) : uMod (.int i) (.int j) H Q := ⟨of_decide_eq_true h, q⟩
theorem g_sum {p : Addr} {ns : List Int} (h : SqL K H p (ns.map V.int)) (q : Q (.int ns.sum) H) : rSum K [.ref p] H Q := ⟨p, ns, rfl, h, q⟩
theorem mulB_bd {x : Int} {b : Bool} {M : Int} (h0 : 0 ≤ x) (h1 : x < M) : 0 ≤ x * (if b = true then 1 else 0) ∧ x * (if b = true then 1 else 0) < M := by
  cases b
  · simp; omega
  · simp; omega
theorem cut1 (ns : List Int) : cutV (ns.map V.int) none (some 1) = (ns.take 1).map V.int := by
  cases ns <;> rfl
theorem g_cut {t : TE} (P : V → Hp → Prop) (h1 : ∀ R : VK, (∀ v H1, P v H1 → R v H1) → t σ H R) (h2 : ∀ v H1, P v H1 → Q v H1) : t σ H Q := h1 Q h2
theorem g_cutS {t : TS} (M : L2.St → Hp → Prop) (h1 : ∀ N : L2.St → Hp → Prop, (∀ σ' H', M σ' H' → N σ' H') → t { D with nx := N } σ H) (h2 : ∀ σ' H', M σ' H' → D.nx σ' H') : t D σ H := h1 D.nx h2
theorem g_lrg {te : L2.St → Hp → (Int → Int → Hp → Prop) → Prop} (q : te σ H fun a b H1 => RgOk a b ∧ ∀ q, H1 q = none → Q (.ref q) (upd H1 q (.lst (rgV a b)))) : tLstRg te σ H Q := q
theorem g_rg1 {ta : TE} {R : Int → Int → Hp → Prop} (q : ta σ H fun x H1 => ∃ n, x = .int n ∧ R 0 n H1) : tRg1 ta σ H R := q
theorem g_intE {i : Int} {R : Int → Prop} (q : R i) : ∃ n, V.int i = .int n ∧ R n := ⟨i, rfl, q⟩
theorem g_sl {r : V → Option Int → Option Int → Hp → VK → Prop} {te : TE} {tl th : TO} (q : te σ H fun x H1 => tl σ H1 fun l H2 => th σ H2 fun u H3 => r x l u H3 Q) : tSl r te tl th σ H Q := q
theorem g_noP {R : Option Int → Hp → Prop} (q : R none H) : tNoPart σ H R := q
theorem g_part {t : TE} {R : Option Int → Hp → Prop} (q : t σ H fun x H1 => ∃ i, x = .int i ∧ R (some i) H1) : tPart t σ H R := q
theorem g_slL {a : Addr} {xs : List V} {lo hi : Option Int} (h : SqL K H a xs) (q : ∀ p, H p = none → Q (.ref p) (upd H p (.lst (cutV xs lo hi)))) : uSl K (.ref a) lo hi H Q := Or.inl ⟨xs, h, q⟩
theorem g_slS {z : Str} {lo hi : Option Int} (h : z.length ≤ sizeLine) (q : Q (.str (cutS z lo hi)) H) : uSl K (.str z) lo hi H Q := ⟨h, q⟩
theorem log2_small {i : Int} (h : -(2 ^ 64) < i) (h' : i < 2 ^ 64) : i.natAbs.log2 < 1920 := by
  by_cases h0 : i.natAbs = 0
  · rw [h0]; decide
  · exact Nat.lt_of_lt_of_le ((Nat.log2_lt h0).mpr (show i.natAbs < 2 ^ 64 by omega)) (by decide)
theorem g_strI {i : Int} (h : -(2 ^ 64) < i ∧ i < 2 ^ 64) (q : Q (.str (toString i)) H) : uStr [.int i] H Q := ⟨log2_small h.1 h.2, q⟩
theorem g_strS {a : Str} (q : Q (.str a) H) : uStr [.str a] H Q := q
theorem g_mulL {i j : Int} (h : -(2 ^ 64) < i ∧ i < 2 ^ 64) (q : Q (.int (i * j)) H) : uMul (.int i) (.int j) H Q := ⟨Or.inl (Or.inl h), q⟩
theorem g_mulR {i j : Int} (h : -(2 ^ 64) < j ∧ j < 2 ^ 64) (q : Q (.int (i * j)) H) : uMul (.int i) (.int j) H Q := ⟨Or.inl (Or.inr h), q⟩
theorem g_divP {i j : Int} (h0 : 0 < j) (h1 : j < 2 ^ 62) (q : Q (.int (i / j)) H) : uDiv (.int i) (.int j) H Q := ⟨wide_div h0 (b := 62) (by omega) (by decide) (by decide), q⟩
theorem g_tupL {p : Addr} {ys : List V} (h : SqL K H p ys) (q : ∀ l, H l = none → Q (.ref l) (upd H l (.tup ys))) : uTupC K [.ref p] H Q := Or.inl ⟨ys, h, q⟩
theorem g_tupT {p : Addr} {ys : List V} (h : SqT K H p ys) (q : Q (.ref p) H) : uTupC K [.ref p] H Q := Or.inr ⟨ys, h, q⟩
theorem g_lstC {p : Addr} {ys : List V} (h : SqL K H p ys ∨ SqT K H p ys) (q : ∀ l, H l = none → Q (.ref l) (upd H l (.lst ys))) : uLstC K [.ref p] H Q := ⟨ys, h, q⟩
theorem g_allB {p : Addr} {bs : List Bool} (h : SqL K H p (bs.map V.bl)) (q : Q (.bl (bs.all id)) H) : rAll K [.ref p] H Q := ⟨p, bs, rfl, h, q⟩
theorem g_lenL {p : Addr} {ys : List V} (h : SqL K H p ys ∨ SqT K H p ys) (q : Q (.int ys.length) H) : uLen K [.ref p] H Q := Or.inl ⟨ys, h, q⟩
theorem g_lenS {z : Str} (h : z.length ≤ sizeLine) (q : Q (.int z.length) H) : uLen K [.str z] H Q := ⟨h, q⟩
end
end U
namespace U
open PySem PySem.Spec PyProof.Rows L2
section
variable {σ : L2.St} {H : Hp} {Q : VK} {D : Ends} {K : PySem.W.Frag}
/-- one turn of a comprehension; acc: what was made so far, at E; A, B: what is to be reached with an item, without -/
def LcT (E : Addr) (n : Nat) (Y : Nat → Hp → V → Hp → Prop) (Pv : Nat → List V → Hp → Prop) (σ : L2.St) (vs : List Nat) (g : TG) (tt : TT) (te : TE) : Prop :=
  ∀ i x acc H' H'' (A : VK) (B : Hp → Prop), i < n → H' E = some (.lst acc) → Pv i acc H' → Y i H' x H'' →
    (∀ y H4, H4 E = some (.lst acc) → Pv (i + 1) (acc ++ [y]) (upd H4 E (.lst (acc ++ [y]))) → A y H4) → (∀ H3, H3 E = some (.lst acc) → Pv (i + 1) acc H3 → B H3) →
    g x (wipe σ vs) H'' fun σ2 H2 => wipe σ2 vs = wipe σ vs ∧ tt σ2 H2 fun b H3 => if b = true then te σ2 H3 A else B H3
theorem lc_gen {J : It} {n : Nat} {G : Hp → Prop} {Y : Nat → Hp → V → Hp → Prop} (w : Walk J n G Y) (hn : n ≤ 1000000) {g : TG} {tt : TT} {te : TE} {vs : List Nat} {H1 : Hp} {E : Addr} {Qd : Hp → Prop} (Pv : Nat → List V → Hp → Prop) (h0 : Pv 0 [] (upd H1 E (.lst []))) (hG : ∀ i acc H', i ≤ n → Pv i acc H' → G H')
    (hs : LcT E n Y Pv σ vs g tt te)
    (hd : ∀ acc H', H' E = some (.lst acc) → Pv n acc H' → Qd H') :
    ∃ W : Nat → Nat → Hp → Prop, (∃ m, W 0 m (upd H1 E (.lst []))) ∧ ∀ i m H, W i m H →
      (J.stop i H ∧ Qd H) ∨ (J.go i H ∧ ∃ Nx : Hp → Prop, (∀ H', Nx H' → ∃ m', m' < m ∧ W (i + 1) m' H') ∧ ∀ x H', J.yld i H x H' → g x (wipe σ vs) H' fun σ2 H2 => wipe σ2 vs = wipe σ vs ∧ tt σ2 H2 fun b H3 =>
        if b = true then te σ2 H3 fun y H4 => ∃ acc, H4 E = some (.lst acc) ∧ acc.length < sizeLine ∧ Nx (upd H4 E (.lst (acc ++ [y]))) else Nx H3) := by
  refine lc_it w (fun i H' => ∃ acc, H' E = some (.lst acc) ∧ acc.length ≤ i ∧ Pv i acc H') ⟨[], upd_same, Nat.le_refl _, h0⟩ (fun i H' hi ⟨acc, _, _, p⟩ => hG i acc H' hi p) (fun i x H' H'' hi ⟨acc, ha, hl, p⟩ y => ?_) fun H' ⟨acc, ha, _, p⟩ => hd acc H' ha p
  have h : (1000000 : Nat) < sizeLine := by decide
  refine hs i x acc H' H'' _ _ hi ha p y (fun v H4 q1 q2 => ⟨acc, q1, by omega, acc ++ [v], upd_same, by rw [List.length_append]; show acc.length + 1 ≤ i + 1; omega, q2⟩) fun H3 q1 q2 => ⟨acc, q1, by omega, q2⟩
/-- what a comprehension, a for asks of the thing that is walked -/
def lcI (σ : L2.St) (vs : List Nat) (g : TG) (tt : TT) (te : TE) (Q : VK) (J : It) (H1 : Hp) : Prop := ∀ E, H1 E = none → ∃ W : Nat → Nat → Hp → Prop, (∃ m, W 0 m (upd H1 E (.lst []))) ∧ ∀ i m H, W i m H → (J.stop i H ∧ Q (.ref E) H) ∨ (J.go i H ∧ ∃ Nx : Hp → Prop, (∀ H', Nx H' → ∃ m', m' < m ∧ W (i + 1) m' H') ∧ ∀ x H', J.yld i H x H' → g x (wipe σ vs) H' fun σ2 H2 => wipe σ2 vs = wipe σ vs ∧ tt σ2 H2 fun b H3 => if b = true then te σ2 H3 fun y H4 => ∃ acc, H4 E = some (.lst acc) ∧ acc.length < sizeLine ∧ Nx (upd H4 E (.lst (acc ++ [y]))) else Nx H3)
def forI (σ : L2.St) (g : TG) (tb : TS) (D : Ends) (J : It) (H1 : Hp) : Prop := ∃ W : Nat → Nat → L2.St → Hp → Prop, (∃ m, W 0 m σ H1) ∧ ∀ i m σ H, W i m σ H → (J.stop i H ∧ D.nx σ H) ∨ (J.go i H ∧ ∃ N : L2.St → Hp → Prop, (∀ σ' H', N σ' H' → ∃ m', m' < m ∧ W (i + 1) m' σ' H') ∧ ∀ x H', J.yld i H x H' → g x σ H' fun σ2 H2 => tb { D with nx := N, ct := N, bk := D.nx } σ2 H2)
section
variable {g : TG} {tt : TT} {te tl : TE} {ta : TA} {tb : TS} {vs : List Nat} {wi : TI}
theorem g_lc (q : wi σ H fun J H1 => lcI σ vs g tt te Q J H1) : tLc wi g tt te vs σ H Q := q
theorem g_for (q : wi σ H fun J H1 => forI σ g tb D J H1) : tFor wi g tb D σ H := q
/-- the shapes of walks -/
theorem g_iList {R : It → Hp → Prop} (q : tl σ H fun x H1 => ∃ a, x = .ref a ∧ (∃ xs, SqL K H1 a xs) ∧ R (Itl K a) H1) : iList K tl σ H R := q
theorem g_iTup {R : It → Hp → Prop} (q : tl σ H fun x H1 => ∃ a, x = .ref a ∧ (∃ xs, SqT K H1 a xs) ∧ R (Itt K a) H1) : iTup K tl σ H R := q
theorem g_iRng1 {R : It → Hp → Prop} (q : ta σ H fun vs H1 => ∃ j : Int, vs = [.int j] ∧ -(2 ^ 62) ≤ j ∧ j < 2 ^ 62 ∧ R (Itr 0 j.toNat) H1) : iRng1 ta σ H R := q
theorem g_iStr {R : It → Hp → Prop} (q : tl σ H fun v H1 => ∃ x, v = .str x ∧ R (Its x) H1) : iStr tl σ H R := q
theorem g_iEnum {R : It → Hp → Prop} (q : ta σ H fun vs H1 => ∃ a xs, vs = [.ref a] ∧ SqL K H1 a xs ∧ R (Ite K a) H1) : iEnum K ta σ H R := q
theorem g_iVals {R : It → Hp → Prop} (q : tl σ H fun x H1 => ∃ d o kvs, x = .ref d ∧ H1 d = some (.frz o (.dK kvs)) ∧ R (Itd d o kvs) H1) : iVals tl σ H R := q
theorem e_list {a : Addr} {xs : List V} {R : It → Hp → Prop} (h : SqL K H a xs) (q : R (Itl K a) H) : ∃ b, V.ref a = .ref b ∧ (∃ xs, SqL K H b xs) ∧ R (Itl K b) H := ⟨a, rfl, ⟨xs, h⟩, q⟩
theorem e_tup {a : Addr} {xs : List V} {R : It → Hp → Prop} (h : SqT K H a xs) (q : R (Itt K a) H) : ∃ b, V.ref a = .ref b ∧ (∃ xs, SqT K H b xs) ∧ R (Itt K b) H := ⟨a, rfl, ⟨xs, h⟩, q⟩
theorem e_rng {j : Int} {R : It → Hp → Prop} (h : j ≤ 1000000) (h0 : -1000000 ≤ j) (q : R (Itr 0 j.toNat) H) : ∃ i : Int, [V.int j] = [.int i] ∧ -(2 ^ 62) ≤ i ∧ i < 2 ^ 62 ∧ R (Itr 0 i.toNat) H := ⟨j, rfl, by omega, by omega, q⟩
theorem e_str {x : Str} {R : It → Hp → Prop} (q : R (Its x) H) : ∃ z, V.str x = .str z ∧ R (Its z) H := ⟨x, rfl, q⟩
theorem e_enum {a : Addr} {xs : List V} {R : It → Hp → Prop} (h : SqL K H a xs) (q : R (Ite K a) H) : ∃ b ys, [V.ref a] = [.ref b] ∧ SqL K H b ys ∧ R (Ite K b) H := ⟨a, xs, rfl, h, q⟩
theorem e_vals {d : Addr} {o : Obj} {kvs : List (Key × V)} {R : It → Hp → Prop} (h : H d = some (.frz o (.dK kvs))) (q : R (Itd d o kvs) H) : ∃ d' o' kvs', V.ref d = .ref d' ∧ H d' = some (.frz o' (.dK kvs')) ∧ R (Itd d' o' kvs') H := ⟨d, o, kvs, rfl, h, q⟩
/-- a comprehension, a for, over any walk -/
theorem lcI_by {J : It} {n : Nat} {G : Hp → Prop} {Y : Nat → Hp → V → Hp → Prop} (w : Walk J n G Y) (hn : n ≤ 1000000) (h : ∀ E, H E = none → ∃ Pv, Pv 0 [] (upd H E (.lst [])) ∧ (∀ i acc H', i ≤ n → Pv i acc H' → G H') ∧ LcT E n Y Pv σ vs g tt te ∧ ∀ acc H', H' E = some (.lst acc) → Pv n acc H' → Q (.ref E) H') : lcI σ vs g tt te Q J H := fun E hE =>
  let ⟨Pv, p0, p1, p2, p3⟩ := h E hE
  lc_gen w hn Pv p0 p1 p2 p3
theorem forI_by {J : It} {n : Nat} {G : Hp → Prop} {Y : Nat → Hp → V → Hp → Prop} (w : Walk J n G Y) (Pv : Nat → L2.St → Hp → Prop) (h0 : Pv 0 σ H) (hG : ∀ i σ H, i ≤ n → Pv i σ H → G H)
    (hs : ∀ i x σ H H', i < n → Pv i σ H → Y i H x H' → g x σ H' fun σ2 H2 => tb { D with nx := Pv (i + 1), ct := Pv (i + 1), bk := D.nx } σ2 H2) (hd : ∀ σ H, Pv n σ H → D.nx σ H) : forI σ g tb D J H := for_it w Pv h0 hG hs hd
end
theorem same_mut {H H' : Hp} {a : Addr} {o : HO} (s : Same H H') (h : H a = none) : Same H (upd H' a o) := fun c u e => by
  rw [upd_ne (ne_of_none e h)]
  exact s c u e
/-- a comprehension that leaves all that stood: f tells what turn i gives -/
theorem lcI_same {g : TG} {tt : TT} {te : TE} {vs : List Nat} {J : It} {n : Nat} {G : Hp → Prop} {Y : Nat → Hp → V → Hp → Prop} (w : Walk J n G Y) (hn : n ≤ 1000000) (f : Nat → Option V) (hG : ∀ H', Same H H' → G H') (hY : ∀ i H' x H'', Y i H' x H'' → Same H' H'')
    (turn : ∀ i x H' H'' (A : VK) (B : Hp → Prop), i < n → Same H H' → Y i H' x H'' → (∀ y H4, f i = some y → Same H'' H4 → A y H4) → (f i = none → ∀ H3, Same H'' H3 → B H3) →
      g x (wipe σ vs) H'' fun σ2 H2 => wipe σ2 vs = wipe σ vs ∧ tt σ2 H2 fun b H3 => if b = true then te σ2 H3 A else B H3)
    (k : ∀ E H', H E = none → Same H H' → H' E = some (.lst ((List.range n).filterMap f)) → Q (.ref E) H') : lcI σ vs g tt te Q J H := by
  refine lcI_by w hn fun E hE => ⟨fun i acc H' => Same H H' ∧ acc = (List.range i).filterMap f, ⟨same_new hE, rfl⟩, fun i acc H' _ p => hG H' p.1, ?_, fun acc H' ha ⟨s, e⟩ => k E H' hE s (by rw [ha, e])⟩
  intro i x acc H' H'' A B hi ha ⟨s, e⟩ y kA kB
  have s' := hY i H' x H'' y
  refine turn i x H' H'' A B hi s y (fun v H4 ev s4 => kA v H4 (s4 _ _ (s' _ _ ha)) ⟨same_mut (s.trans (s'.trans s4)) hE, ?_⟩) fun en H3 s3 => kB H3 (s3 _ _ (s' _ _ ha)) ⟨s.trans (s'.trans s3), ?_⟩
  · rw [List.range_succ, List.filterMap_append, ← e]
    simp [ev]
  · rw [List.range_succ, List.filterMap_append, ← e]
    simp [en]
theorem range_fm {α β : Type} (h : α → Option β) : ∀ xs : List α, (List.range xs.length).filterMap (fun i => (xs[i]?).bind h) = xs.filterMap h := by
  intro xs
  induction xs with
  | nil => rfl
  | cons a r ih =>
    rw [List.length_cons, List.range_succ_eq_map, List.filterMap_cons, List.filterMap_map, List.filterMap_cons]
    have e : ((fun i => ((a :: r)[i]?).bind h) ∘ Nat.succ) = fun i => (r[i]?).bind h := by funext i; simp
    rw [e, ih]
    rfl
/-- .. over a list: h tells what an item gives -/
theorem lcI_list {g : TG} {tt : TT} {te : TE} {vs : List Nat} {a : Addr} {xs : List V} (hx : SqL K H a xs) (hn : xs.length ≤ 1000000) (h : V → Option V)
    (turn : ∀ x H' (A : VK) (B : Hp → Prop), x ∈ xs → Same H H' → (∀ y H4, h x = some y → Same H' H4 → A y H4) → (h x = none → ∀ H3, Same H' H3 → B H3) →
      g x (wipe σ vs) H' fun σ2 H2 => wipe σ2 vs = wipe σ vs ∧ tt σ2 H2 fun b H3 => if b = true then te σ2 H3 A else B H3)
    (k : ∀ E H', H E = none → Same H H' → H' E = some (.lst (xs.filterMap h)) → Q (.ref E) H') : lcI σ vs g tt te Q (Itl K a) H := by
  refine lcI_same walk_list hn (fun i => (xs[i]?).bind h) (fun H' s => s.seq hx) (fun i H' x H'' y => by rw [y.1]; exact Same.refl _) (fun i x H' H'' A B hi s y kA kB => ?_) fun E H' e s q => k E H' e s (by rw [q, range_fm])
  obtain ⟨rfl, ex⟩ := y
  exact turn x H'' A B (List.mem_of_getElem? ex) s (fun v H4 ev s4 => kA v H4 (by rw [ex]; exact ev) s4) fun en H3 s3 => kB (by rw [ex]; exact en) H3 s3
/-- .. over range(j) -/
theorem lcI_rng {g : TG} {tt : TT} {te : TE} {vs : List Nat} {n : Nat} (hn : n ≤ 1000000) (f : Nat → Option V)
    (turn : ∀ i H' (A : VK) (B : Hp → Prop), i < n → Same H H' → (∀ y H4, f i = some y → Same H' H4 → A y H4) → (f i = none → ∀ H3, Same H' H3 → B H3) →
      g (.int (i : Int)) (wipe σ vs) H' fun σ2 H2 => wipe σ2 vs = wipe σ vs ∧ tt σ2 H2 fun b H3 => if b = true then te σ2 H3 A else B H3)
    (k : ∀ E H', H E = none → Same H H' → H' E = some (.lst ((List.range n).filterMap f)) → Q (.ref E) H') : lcI σ vs g tt te Q (Itr 0 n) H := by
  refine lcI_same walk_range hn f (fun _ _ => trivial) (fun i H' x H'' y => by rw [y.1]; exact Same.refl _) (fun i x H' H'' A B hi s y kA kB => ?_) k
  obtain ⟨rfl, rfl⟩ := y
  dsimp only
  rw [Int.zero_add]
  exact turn i H'' A B hi s kA kB
theorem g_cont (q : D.ct σ H) : tCont D σ H := q
theorem g_yes {R : Bool → Hp → Prop} (q : R true H) : tYes σ H R := q
/-! ### dicts, methods of lists and texts -/
section
variable {ty td tv to te tx : TE} {t : TA} {tt : TT}
theorem g_dnotin (q : ty σ H fun y H1 => td σ H1 fun x H2 => ∃ a o, x = .ref a ∧ DGet H2 a y o ∧ Q (.bl (!o.isSome)) H2) : tDNotIn ty td σ H Q := q
theorem g_din (q : ty σ H fun y H1 => td σ H1 fun x H2 => ∃ a o, x = .ref a ∧ DGet H2 a y o ∧ Q (.bl o.isSome) H2) : tDIn ty td σ H Q := q
theorem g_dget (q : td σ H fun x H1 => ty σ H1 fun y H2 => ∃ a v, x = .ref a ∧ DGet H2 a y (some v) ∧ Q v H2) : tDGet td ty σ H Q := q
theorem g_dput (q : tv σ H fun v H1 => td σ H1 fun x H2 => ty σ H2 fun y H3 => ∃ a H4, x = .ref a ∧ DPut H3 a y v H4 ∧ D.nx σ H4) : sDPut td ty tv D σ H := q
theorem g_bm {T : String} {r : V → List V → Hp → VK → Prop} (q : to σ H fun x H1 => tyV K T x H1 ∧ t σ H1 fun xs H2 => r x xs H2 Q) : tBM K T r to t σ H Q := q
theorem g_bm0 {T : String} {r : V → List V → Hp → VK → Prop} (q : to σ H fun x H1 => tyV K T x H1 ∧ r x [] H1 Q) : tBM0 K T r to σ H Q := q
theorem g_gtup {n : Nat} {g : TGs} {a : Addr} {xs : List V} {R : L2.St → Hp → Prop} (h : SqT K H a xs) (e : xs.length = n) (q : g xs σ H R) : gTup K n g (.ref a) σ H R := ⟨a, xs, rfl, h, e, q⟩
theorem g_gcons {g : TG} {u : TGs} {v : V} {r : List V} {R : L2.St → Hp → Prop} (q : g v σ H fun σ' H' => u r σ' H' R) : gCons g u (v :: r) σ H R := ⟨v, r, rfl, q⟩
theorem g_gnil {R : L2.St → Hp → Prop} (q : R σ H) : gNil [] σ H R := ⟨rfl, q⟩
theorem g_par {i j : Nat} {ta : TA} (q : ta σ H fun vs H1 => ∃ v w, vs = [v, w] ∧ D.nx ((σ.set i (some v)).set j (some w)) H1) : tPar i j ta D σ H := q
theorem e_two {v w : V} {R : V → V → Prop} (q : R v w) : ∃ x y, [v, w] = [x, y] ∧ R x y := ⟨v, w, rfl, q⟩
theorem g_disp {trs : List (TE × TE)} (q : ∀ p, H p = none → tPairs trs σ (upd H p (.dK [])) fun ps H2 => H2 p = some (.dK []) ∧ ∃ kvs : List (Key × V), ps = kvs.map (fun kv => (kV kv.1, kv.2)) ∧ kvs.length ≤ 15 ∧ Q (.ref p) (upd H2 p (.dK (mergeK [] kvs)))) : tDisp trs σ H Q := q
theorem g_pcons {tk tv : TE} {r : List (TE × TE)} {R : List (V × V) → Hp → Prop} (q : tk σ H fun x H1 => tv σ H1 fun y H2 => tPairs r σ H2 fun ps H3 => R ((x, y) :: ps) H3) : tPairs ((tk, tv) :: r) σ H R := q
theorem g_pnil {R : List (V × V) → Hp → Prop} (q : R [] H) : tPairs [] σ H R := q
theorem e_non {R : Prop} (q : R) : V.non = V.non ∧ R := ⟨rfl, q⟩
theorem g_ext {l b : Addr} {xs zs : List V} (h : H l = some (.lst xs)) (hb : H b = some (.lst zs)) (hl : xs.length + zs.length ≤ 1000000) (q : Q .non (upd H l (.lst (xs ++ zs)))) : rExtend (.ref l) [.ref b] H Q := ⟨l, b, xs, zs, rfl, rfl, h, hb, Nat.le_trans hl (by decide), q⟩
theorem g_m1 {r : V → List V → Hp → VK → Prop} (q : to σ H fun x H1 => (∃ a, x = .str a) ∧ te σ H1 fun y H2 => r x [y] H2 Q) : tM1 r to te σ H Q := q
theorem e_strE {z : Str} {R : Prop} (q : R) : (∃ a, V.str z = .str a) ∧ R := ⟨⟨z, rfl⟩, q⟩
theorem e_join {l : Addr} {z : Str} (ys : List Str) {R : Str → List Str → Prop} (h : SqL K H l (ys.map V.str)) (hz : (ys.map (·.length)).sum + ys.length * z.length ≤ 16777216) (q : R z ys) :
    ∃ a p, ∃ ys : List Str, V.str z = .str a ∧ [V.ref l] = [.ref p] ∧ (SqL K H p (ys.map V.str) ∨ SqT K H p (ys.map V.str)) ∧ (ys.map (·.length)).sum + ys.length * a.length ≤ 16777216 ∧ R a ys := ⟨z, l, ys, rfl, rfl, Or.inl h, hz, q⟩
/-- a comprehension over a tuple -/
theorem lcI_tup {g : TG} {tt : TT} {te : TE} {vs : List Nat} {a : Addr} {xs : List V} (hx : ∀ H', Same H H' → SqT K H' a xs) (hn : xs.length ≤ 1000000) (h : V → Option V)
    (turn : ∀ x H' (A : VK) (B : Hp → Prop), x ∈ xs → Same H H' → (∀ y H4, h x = some y → Same H' H4 → A y H4) → (h x = none → ∀ H3, Same H' H3 → B H3) →
      g x (wipe σ vs) H' fun σ2 H2 => wipe σ2 vs = wipe σ vs ∧ tt σ2 H2 fun b H3 => if b = true then te σ2 H3 A else B H3)
    (k : ∀ E H', H E = none → Same H H' → H' E = some (.lst (xs.filterMap h)) → Q (.ref E) H') : lcI σ vs g tt te Q (Itt K a) H := by
  refine lcI_same walk_tup hn (fun i => (xs[i]?).bind h) (fun H' s => hx H' s) (fun i H' x H'' y => by rw [y.1]; exact Same.refl _) (fun i x H' H'' A B hi s y kA kB => ?_) fun E H' e s q => k E H' e s (by rw [q, range_fm])
  obtain ⟨rfl, ex⟩ := y
  exact turn x H'' A B (List.mem_of_getElem? ex) s (fun v H4 ev s4 => kA v H4 (by rw [ex]; exact ev) s4) fun en H3 s3 => kB (by rw [ex]; exact en) H3 s3
theorem g_chain {r r' : R2} {ta tb tc : TE} (q : ta σ H fun x H1 => tb σ H1 fun y H2 => r x y H2 fun z H3 => ∃ k, z = .bl k ∧ (if k = true then tc σ H3 fun w' H4 => r' y w' H4 Q else Q (.bl false) H3)) : tChain r r' ta tb tc σ H Q := q
theorem e_isi {x : V} {t n : String} {b : Bool} (h : TyX K H x (.type t)) (k : kitB t n = some b) (q : Q (.bl b) H) : rIsi K [x, .ty n] H Q := ⟨x, _, _, _, b, rfl, ClsV.ty n, h, kit_ty k, q⟩
theorem ty_int {i : Int} : TyX K H (.int i) (.type "int") := .base (.int i)
theorem ty_str {s : Str} : TyX K H (.str s) (.type "str") := .base (.str s)
theorem ty_bl {b : Bool} : TyX K H (.bl b) (.type "bool") := .base (.bl b)
theorem ty_non : TyX K H .non (.type "NoneType") := .base .non
theorem ty_tup {a : Addr} {xs : List V} (h : H a = some (.tup xs)) : TyX K H (.ref a) (.type "tuple") := .base (.tup h)
theorem ty_list {a : Addr} {xs : List V} (h : H a = some (.lst xs)) : TyX K H (.ref a) (.type "list") := .base (.lst h)
theorem g_inS {c : Nat} {z : Str} {R : Bool → Hp → Prop} (q : R (decide (c ∈ z.cps.toList)) H) : ∃ (c' : Nat) (z' : Str), V.str ⟨#[c]⟩ = .str ⟨#[c']⟩ ∧ V.str z = .str z' ∧ ∃ k, V.bl (decide (c' ∈ z'.cps.toList)) = .bl k ∧ R k H := ⟨c, z, rfl, rfl, _, rfl, q⟩
theorem g_dnewK (q : ∀ d, H d = none → Q (.ref d) (upd H d (.dK []))) : tDNewK σ H Q := q
theorem e_dinS {d : Addr} {kvs : List (Key × V)} {n : Str} {R : Option V → Prop} (h : H d = some (.dK kvs)) (q : R (valV kvs (Sum.inr n))) : ∃ a o, V.ref d = .ref a ∧ DGet H a (.str n) o ∧ R o := ⟨d, _, rfl, DGet.k (k := Sum.inr n) h, q⟩
theorem e_dgetS {d : Addr} {kvs : List (Key × V)} {n : Str} {v : V} {R : V → Prop} (h : H d = some (.dK kvs)) (e : valV kvs (Sum.inr n) = some v) (q : R v) : ∃ a v, V.ref d = .ref a ∧ DGet H a (.str n) (some v) ∧ R v := ⟨d, v, rfl, by rw [← e]; exact DGet.k (k := Sum.inr n) h, q⟩
theorem e_dputS {d : Addr} {kvs : List (Key × V)} {n : Str} {v : V} {R : Hp → Prop} (h : H d = some (.dK kvs)) (hl : kvs.length ≤ 1000000) (q : R (upd H d (.dK (putK kvs (Sum.inr n) v)))) : ∃ a H4, V.ref d = .ref a ∧ DPut H a (.str n) v H4 ∧ R H4 := ⟨d, _, rfl, DPut.k (k := Sum.inr n) h (Nat.lt_of_le_of_lt hl (by decide)), q⟩
theorem g_appL {l : Addr} {xs : List V} {y : V} (h : H l = some (.lst xs)) (hl : xs.length ≤ 1000000) (q : Q .non (upd H l (.lst (xs ++ [y])))) : rAppend (.ref l) [y] H Q := ⟨l, xs, y, rfl, rfl, h, Nat.lt_of_le_of_lt hl (by decide), q⟩
theorem ty_lst {l : Addr} {xs : List V} {R : Prop} (h : H l = some (.lst xs)) (q : R) : tyV K "list" (.ref l) H ∧ R := ⟨Or.inl ⟨rfl, _, SqL.of h⟩, q⟩
end
end
end U
namespace M
open PySem L2
/-! ### names -/
def sign (c : Nat) : Bool := (decide (48 ≤ c) && decide (c ≤ 57)) || (decide (97 ≤ c) && decide (c ≤ 122))
def isName (s : Str) : Bool := decide (1 ≤ s.length) && decide (s.length ≤ 12) && s.cps.toList.all sign
theorem isName_of {s : Str} (h1 : 1 ≤ s.length) (h2 : s.length ≤ 12) (h3 : ∀ c ∈ s.cps.toList, sign c = true) : isName s = true := by
  unfold isName
  rw [decide_eq_true h1, decide_eq_true h2, List.all_eq_true.mpr h3] <;> rfl
theorem isName_out {s : Str} (h : isName s = true) : 1 ≤ s.length ∧ s.length ≤ 12 ∧ ∀ c ∈ s.cps.toList, sign c = true := by
  unfold isName at h
  rw [Bool.and_eq_true, Bool.and_eq_true] at h
  exact ⟨of_decide_eq_true h.1.1, of_decide_eq_true h.1.2, List.all_eq_true.mp h.2⟩
theorem len_list (s : Str) : s.cps.toList.length = s.length := Array.length_toList
theorem app_list (a b : Str) : (a ++ b).cps.toList = a.cps.toList ++ b.cps.toList := by
  show (a.cps ++ b.cps).toList = _
  rw [Array.toList_append]
theorem len_app (a b : Str) : (a ++ b).length = a.length + b.length := by
  rw [← len_list, app_list, List.length_append, len_list, len_list]
theorem str_ext {a b : Str} (h : a.cps.toList = b.cps.toList) : a = b := by
  cases a; cases b
  congr 1
  exact Array.ext' h
def isNameV (v : V) : Bool := match v with
  | .str s => isName s
  | _ => false
def intIn (a b : Int) (v : V) : Bool := match v with
  | .int i => decide (a ≤ i) && decide (i ≤ b)
  | _ => false
theorem isNameV_out {v : V} (h : isNameV v = true) : ∃ s, v = .str s ∧ isName s = true := by
  cases v <;> first | exact ⟨_, rfl, h⟩ | cases h
theorem intIn_out {a b : Int} {v : V} (h : intIn a b v = true) : ∃ i, v = .int i ∧ a ≤ i ∧ i ≤ b := by
  cases v <;> first | (rename_i i; have h : (decide (a ≤ i) && decide (i ≤ b)) = true := h; rw [Bool.and_eq_true] at h; exact ⟨i, rfl, of_decide_eq_true h.1, of_decide_eq_true h.2⟩) | cases h
theorem all_at {α : Type} {xs : List α} {f : α → Bool} (h : xs.all f = true) {j : Nat} {y : α} (e : xs[j]? = some y) : f y = true := List.all_eq_true.mp h y (List.mem_of_getElem? e)
/-- a dict of True by names -/
def known (ns : List Str) : List (Key × V) := ns.map fun s => (Sum.inr s, V.bl true)
theorem known_val (ns : List Str) (s : Str) : (valV (known ns) (Sum.inr s)).isSome = decide (s ∈ ns) := by
  induction ns with
  | nil => rfl
  | cons a r ih =>
    unfold known
    rw [List.map_cons]
    by_cases h : a = s
    · rw [valV_pos (by rw [h])]
      simp [h]
    · rw [valV_neg (by intro z; exact h (Sum.inr.inj z))]
      have ih' : (valV (r.map fun s => ((Sum.inr s : Key), V.bl true)) (Sum.inr s)).isSome = decide (s ∈ r) := ih
      rw [ih']
      have : s ≠ a := fun z => h z.symm
      simp [this]
theorem known_put {ns : List Str} {s : Str} (h : s ∉ ns) : putK (known ns) (Sum.inr s) (V.bl true) = known (ns ++ [s]) := by
  have h1 : valV (known ns) (Sum.inr s) = none := by
    have h2 := known_val ns s
    rw [decide_eq_false h] at h2
    cases e : valV (known ns) (Sum.inr s : Key) with
    | none => rfl
    | some v => rw [e] at h2; cases h2
  rw [putK_new _ h1]
  unfold known
  rw [List.map_append]
  rfl
/-- 'q' + str(i) -/
def qn (i : Nat) : Str := ("q" : Str) ++ (toString (i : Int) : Str)
theorem qn_all : (List.range 120).all (fun i => isName (qn i) && decide (("q" : Str).length + (toString (i : Int) : Str).length ≤ 12)) = true := by decide +kernel
theorem qn_ok {i : Nat} (h : i < 120) : isName (qn i) = true ∧ ("q" : Str).length + (toString (i : Int) : Str).length ≤ 12 := by
  have z := List.all_eq_true.mp qn_all i (List.mem_range.mpr h)
  rw [Bool.and_eq_true] at z
  exact ⟨z.1, of_decide_eq_true z.2⟩
theorem qn_nodup : ((List.range 120).map qn).Nodup := by decide +kernel
theorem qn_nd {n : Nat} (h : n ≤ 120) : ((List.range n).map qn).Nodup := by
  obtain ⟨k, e⟩ : ∃ k, (120 : Nat) = n + k := ⟨120 - n, by omega⟩
  have z := qn_nodup
  rw [e, List.range_add, List.map_append, List.nodup_append] at z
  exact z.1
theorem pigeon {α : Type} [DecidableEq α] : ∀ {l m : List α}, l.Nodup → (∀ x ∈ l, x ∈ m) → l.length ≤ m.length
  | [], _, _, _ => Nat.zero_le _
  | a :: r, m, nd, h => by
    have ha : a ∈ m := h a List.mem_cons_self
    have hr : ∀ x ∈ r, x ∈ m.erase a := fun x hx => (List.mem_erase_of_ne (fun e => by subst e; exact (List.nodup_cons.mp nd).1 hx)).mpr (h x (List.mem_cons_of_mem _ hx))
    have ih := pigeon (List.nodup_cons.mp nd).2 hr
    rw [List.length_erase_of_mem ha] at ih
    have : 0 < m.length := List.length_pos_of_mem ha
    rw [List.length_cons]
    omega
def notIn (ns : List Str) (v : V) : Option V := match v with
  | .str x => if x ∈ ns then none else some (.str x)
  | _ => none
theorem rest_first {ns : List Str} {n : Nat} (hl : ns.length < n) (hn : n ≤ 120) : ∃ r t, ((List.range n).filterMap fun i => some (V.str (qn i))).filterMap (notIn ns) = .str r :: t ∧ r ∉ ns ∧ isName r = true := by
  have ex : ∃ i, i < n ∧ qn i ∉ ns := by
    refine Classical.byContradiction fun no => ?_
    have : ∀ x ∈ (List.range n).map qn, x ∈ ns := fun x hx => by
      obtain ⟨i, hi, rfl⟩ := List.mem_map.mp hx
      exact Classical.byContradiction fun q => no ⟨i, List.mem_range.mp hi, q⟩
    have := pigeon (qn_nd hn) this
    rw [List.length_map, List.length_range] at this
    omega
  obtain ⟨i, hi, hq⟩ := ex
  have mem : V.str (qn i) ∈ ((List.range n).filterMap fun i => some (V.str (qn i))).filterMap (notIn ns) := by
    rw [List.mem_filterMap]
    exact ⟨V.str (qn i), List.mem_filterMap.mpr ⟨i, List.mem_range.mpr hi, rfl⟩, by show (if qn i ∈ ns then none else some (V.str (qn i))) = _; rw [if_neg hq]⟩
  cases e : ((List.range n).filterMap fun i => some (V.str (qn i))).filterMap (notIn ns) with
  | nil => rw [e] at mem; cases mem
  | cons v t =>
    have hv : v ∈ ((List.range n).filterMap fun i => some (V.str (qn i))).filterMap (notIn ns) := by rw [e]; exact List.mem_cons_self
    obtain ⟨u, hu, hv⟩ := List.mem_filterMap.mp hv
    obtain ⟨j, hj, hu⟩ := List.mem_filterMap.mp hu
    cases hu
    have hv : (if qn j ∈ ns then none else some (V.str (qn j))) = some v := hv
    by_cases c : qn j ∈ ns
    · rw [if_pos c] at hv; cases hv
    · rw [if_neg c] at hv
      cases hv
      exact ⟨qn j, t, rfl, c, (qn_ok (by have := List.mem_range.mp hj; omega)).1⟩
abbrev words : List V := [V.str "row", V.str "none", V.str "line", V.str "kinds", V.str "person", V.str "column", V.str "kind", V.str "0", V.str "abcdefghijkl"]
/-! ### registers as data -/
structure Knd where
  col : Str
  name : Str
  up : Option Str
  loss : Int
def upV : Option Str → V
  | none => .non
  | some s => .str s
def kindV (k : Knd) : List V := [.str k.col, .str k.name, upV k.up, .int k.loss]
/-- the kinds of one column, as they are drawn -/
inductive KOk (c : Str) : List Knd → Prop
  | nil : KOk c []
  | top {n : Str} {l : Int} (h : isName n = true) (hn : n ≠ "none") (h0 : 0 ≤ l) (h1 : l ≤ 1000000) : KOk c [⟨c, n, none, l⟩]
  | more {ks : List Knd} {o : Knd} {n : Str} {l : Int} (k : KOk c ks) (ho : o ∈ ks) (h : isName n = true) (hn : n ≠ "none") (nd : n ∉ ks.map (·.name)) (h0 : 0 ≤ l) (h1 : l ≤ o.loss) : KOk c (ks ++ [⟨c, n, some o.name, l⟩])
theorem KOk.loss {c : Str} {ks : List Knd} (k : KOk c ks) : ∀ o ∈ ks, 0 ≤ o.loss ∧ o.loss ≤ 1000000 := by
  induction k with
  | nil => intro o h; cases h
  | top h hn h0 h1 => intro o h; rw [List.mem_singleton] at h; subst h; exact ⟨h0, h1⟩
  | more k ho h hn nd h0 h1 ih =>
    intro o' h'
    rcases List.mem_append.mp h' with h' | h'
    · exact ih o' h'
    · rw [List.mem_singleton] at h'; subst h'
      have := ih _ ho
      exact ⟨h0, by show _ ≤ _; simp only; omega⟩
/-- tuples at their addresses -/
def TupAt (H : Hp) (v : V) (xs : List V) : Prop := ∃ a, v = .ref a ∧ H a = some (.tup xs)
abbrev TupL (H : Hp) : List V → List (List V) → Prop := Paired (TupAt H)
/-- all tuples stay -/
def TS (H H' : Hp) : Prop := ∀ a xs, H a = some (.tup xs) → H' a = some (.tup xs)
theorem TS.refl (H : Hp) : TS H H := fun _ _ h => h
theorem TS.trans {H H1 H2 : Hp} (a : TS H H1) (b : TS H1 H2) : TS H H2 := fun c o h => b c o (a c o h)
theorem TS.of {H H' : Hp} (s : Same H H') : TS H H' := fun a xs h => s a _ h
theorem TS.new {H : Hp} {p : Addr} {o : HO} (h : H p = none) : TS H (upd H p o) := TS.of (U.same_new h)
theorem TS.lst {H : Hp} {p : Addr} {o : HO} {xs : List V} (h : H p = some (.lst xs)) : TS H (upd H p o) := fun a ys e => by
  rw [upd_ne (ne_of e h (by intro z; cases z))]
  exact e
theorem TS.dK {H : Hp} {p : Addr} {o : HO} {xs : List (Key × V)} (h : H p = some (.dK xs)) : TS H (upd H p o) := fun a ys e => by
  rw [upd_ne (ne_of e h (by intro z; cases z))]
  exact e
theorem TS.ins {H : Hp} {p C dx : Addr} {o : HO} {fs : List (Str × V)} (h : H p = some (.ins C dx fs)) : TS H (upd H p o) := fun a ys e => by
  rw [upd_ne (ne_of e h (by intro z; cases z))]
  exact e
theorem TupAt.mono {H H' : Hp} {v : V} {xs : List V} (t : TS H H') (h : TupAt H v xs) : TupAt H' v xs := let ⟨a, e, h⟩ := h; ⟨a, e, t a xs h⟩
theorem TupL.mono {H H' : Hp} (t : TS H H') : ∀ {vs : List V} {xs : List (List V)}, TupL H vs xs → TupL H' vs xs
  | _, _, .nil => .nil
  | _, _, .cons a r => .cons (a.mono t) (TupL.mono t r)
theorem prd_at {α β : Type} {R : α → β → Prop} : ∀ {xs : List α} {ys : List β} {i : Nat} {x : α}, Paired R xs ys → xs[i]? = some x → ∃ y, ys[i]? = some y ∧ R x y
  | _, _, _, _, .nil, h => by simp at h
  | _, _, 0, _, .cons a _, h => by simp at h; subst h; exact ⟨_, rfl, a⟩
  | _, _, i + 1, x, .cons _ r, h => by
    obtain ⟨y, e, q⟩ := prd_at (i := i) r (by simpa using h)
    exact ⟨y, by simpa using e, q⟩
theorem prd_at2 {α β : Type} {R : α → β → Prop} : ∀ {xs : List α} {ys : List β} {i : Nat} {y : β}, Paired R xs ys → ys[i]? = some y → ∃ x, xs[i]? = some x ∧ R x y
  | _, _, _, _, .nil, h => by simp at h
  | _, _, 0, _, .cons a _, h => by simp at h; subst h; exact ⟨_, rfl, a⟩
  | _, _, i + 1, y, .cons _ r, h => by
    obtain ⟨x, e, q⟩ := prd_at2 (i := i) r (by simpa using h)
    exact ⟨x, by simpa using e, q⟩
theorem prd_len {α β : Type} {R : α → β → Prop} {xs : List α} {ys : List β} (p : Paired R xs ys) : xs.length = ys.length := Paired.length p
/-- names but none -/
def notNone (v : V) : Option V := match v with
  | .str x => if x = "none" then none else some (.str x)
  | _ => none
theorem notNone_map (ns : List Str) : (ns.map V.str).filterMap notNone = (ns.filter fun x : Str => !decide (x = "none")).map V.str := by
  induction ns with
  | nil => rfl
  | cons a r ih =>
    rw [List.map_cons, List.filterMap_cons]
    have e : notNone (.str a) = if a = "none" then none else some (.str a) := rfl
    rw [e]
    by_cases h : a = "none"
    · rw [if_pos h, List.filter_cons, if_neg (by rw [decide_eq_true h]; decide)]
      exact ih
    · rw [if_neg h, List.filter_cons, if_pos (by rw [decide_eq_false h]; rfl), List.map_cons, ← ih]
theorem notNone_len : ∀ {ns : List Str}, ns.Nodup → ns.length ≤ (ns.filter fun x : Str => !decide (x = "none")).length + 1
  | [], _ => Nat.zero_le _
  | a :: r, nd => by
    obtain ⟨h1, h2⟩ := List.nodup_cons.mp nd
    by_cases h : a = "none"
    · rw [List.filter_cons, if_neg (by rw [decide_eq_true h]; decide)]
      have : (r.filter fun x : Str => !decide (x = "none")) = r := List.filter_eq_self.mpr fun x hx => by
        have : x ≠ "none" := fun e => h1 (by rw [h, ← e]; exact hx)
        rw [decide_eq_false this]; rfl
      rw [this]
      exact Nat.le_refl _
    · rw [List.filter_cons, if_pos (by rw [decide_eq_false h]; rfl), List.length_cons, List.length_cons]
      have := notNone_len h2
      omega
theorem cut_take (xs : List V) (m : Nat) : cutV xs none (some (m : Int)) = xs.take m := by
  unfold cutV
  rw [HT.sIx_none, HT.sIx_nat, List.drop_zero, Nat.sub_zero]
  rw [Nat.min_def]
  split
  · rfl
  · rw [List.take_of_length_le (Nat.le_refl _), List.take_of_length_le (by omega)]
end M
namespace M
open PySem L2
/-! ### a register as data, and as it lies in the heap of a law -/
structure Reg where
  cols : List (Str × Bool)
  kinds : List Knd
  persons : List (Str × List V)
def wordOf (b : Bool) : Str := if b then "kinds" else "line"
def colV (c : Str × Bool) : List V := [.str c.1, .str (wordOf c.2)]
def PerAt (H : Hp) (v : V) (p : Str × List V) : Prop := ∃ a b, v = .ref a ∧ H a = some (.tup [.str p.1, .ref b]) ∧ H b = some (.tup p.2)
abbrev PerL (H : Hp) : List V → List (Str × List V) → Prop := Paired (PerAt H)
theorem PerL.mono {H H' : Hp} (t : TS H H') : ∀ {vs : List V} {xs : List (Str × List V)}, PerL H vs xs → PerL H' vs xs
  | _, _, .nil => .nil
  | _, _, .cons ⟨a, b, e, h1, h2⟩ r => .cons ⟨a, b, e, t a _ h1, t b _ h2⟩ (PerL.mono t r)
def valOk (R : Reg) (c : Str × Bool) (v : V) : Prop := if c.2 = true then ∃ k ∈ R.kinds, k.col = c.1 ∧ v = .str k.name else ∃ z : Int, v = .int z ∧ -1000000 ≤ z ∧ z ≤ 1000000
/-- the names of a column's kinds -/
def kindNames (R : Reg) (c : Str) : List Str := (R.kinds.filter fun k => decide (k.col = c)).map (·.name)
structure ColsOk (cs : List (Str × Bool)) : Prop where
  pos : 1 ≤ cs.length
  four : cs.length ≤ 4
  nd : (cs.map (·.1)).Nodup
  nm : ∀ c ∈ cs, isName c.1 = true
structure KindsOk (cs : List (Str × Bool)) (ks : List Knd) : Prop where
  each : ∀ c ∈ cs, c.2 = true → KOk c.1 (ks.filter fun k => decide (k.col = c.1)) ∧ 1 ≤ (ks.filter fun k => decide (k.col = c.1)).length ∧ (ks.filter fun k => decide (k.col = c.1)).length ≤ 60
  of : ∀ k ∈ ks, (k.col, true) ∈ cs
structure RegOk (R : Reg) : Prop where
  cols : ColsOk R.cols
  kinds : KindsOk R.cols R.kinds
  pl : R.persons.length ≤ 60
  pn : (R.persons.map (·.1)).Nodup
  pk : ∀ p ∈ R.persons, isName p.1 = true ∧ Paired (valOk R) R.cols p.2
def ownD (lc lk lp : Addr) : List (Key × V) := [(Sum.inr "columns", .ref lc), (Sum.inr "kinds", .ref lk), (Sum.inr "persons", .ref lp)]
/-- the law's own register: a dict of three lists -/
structure OwnX (H : Hp) (o lc lk lp : Addr) (R : Reg) : Prop where
  d : H o = some (.dK (ownD lc lk lp))
  c : ∃ cv, H lc = some (.lst cv) ∧ TupL H cv (R.cols.map colV)
  k : ∃ kv, H lk = some (.lst kv) ∧ TupL H kv (R.kinds.map kindV)
  p : ∃ pv, H lp = some (.lst pv) ∧ PerL H pv R.persons
def OwnAt (H : Hp) (o : Addr) (R : Reg) : Prop := ∃ lc lk lp, OwnX H o lc lk lp R
theorem own_c (lc lk lp : Addr) : valV (ownD lc lk lp) (Sum.inr "columns") = some (.ref lc) := by rfl
theorem own_k (lc lk lp : Addr) : valV (ownD lc lk lp) (Sum.inr "kinds") = some (.ref lk) := by
  unfold ownD
  rw [valV_neg (by intro z; exact absurd (Sum.inr.inj z) (by decide +kernel)), valV_pos rfl]
theorem own_p (lc lk lp : Addr) : valV (ownD lc lk lp) (Sum.inr "persons") = some (.ref lp) := by
  unfold ownD
  rw [valV_neg (by intro z; exact absurd (Sum.inr.inj z) (by decide +kernel)), valV_neg (by intro z; exact absurd (Sum.inr.inj z) (by decide +kernel)), valV_pos rfl]
theorem TupL.refs {H : Hp} {vs : List V} {xs : List (List V)} (h : TupL H vs xs) : ∀ v ∈ vs, ∃ a, v = .ref a := by
  intro v hv
  obtain ⟨i, hi⟩ := List.getElem?_of_mem hv
  obtain ⟨y, _, a, e, _⟩ := prd_at h hi
  exact ⟨a, e⟩
theorem PerL.refs {H : Hp} {vs : List V} {xs : List (Str × List V)} (h : PerL H vs xs) : ∀ v ∈ vs, ∃ a, v = .ref a := by
  intro v hv
  obtain ⟨i, hi⟩ := List.getElem?_of_mem hv
  obtain ⟨y, _, a, b, e, _⟩ := prd_at h hi
  exact ⟨a, e⟩
theorem ne_pot {H : Hp} {p l : Addr} {vs : List V} {x y z : Int} (hp : H p = some (.lst [.int x, .int y, .int z])) (hl : H l = some (.lst vs)) (h : ∀ v ∈ vs, ∃ a, v = .ref a) : l ≠ p := by
  intro e
  subst e
  rw [hp] at hl
  cases hl
  obtain ⟨a, e⟩ := h (.int x) List.mem_cons_self
  cases e
theorem kindNames_mem {R : Reg} {c : Str} {n : Str} (h : n ∈ kindNames R c) : ∃ k ∈ R.kinds, k.col = c ∧ n = k.name := by
  obtain ⟨k, hk, rfl⟩ := List.mem_map.mp h
  rw [List.mem_filter] at hk
  exact ⟨k, hk.1, of_decide_eq_true hk.2, rfl⟩
theorem own_merge (lc lk lp : Addr) : mergeK [] (ownD lc lk lp) = ownD lc lk lp := by
  have n1 : ¬ ((Sum.inr ("columns" : Str) : Key) = (Sum.inr ("kinds" : Str) : Key)) := by intro z; exact absurd (Sum.inr.inj z) (by decide +kernel)
  have n2 : ¬ ((Sum.inr ("columns" : Str) : Key) = (Sum.inr ("persons" : Str) : Key)) := by intro z; exact absurd (Sum.inr.inj z) (by decide +kernel)
  have n3 : ¬ ((Sum.inr ("kinds" : Str) : Key) = (Sum.inr ("persons" : Str) : Key)) := by intro z; exact absurd (Sum.inr.inj z) (by decide +kernel)
  have e1 : putK [] (Sum.inr ("columns" : Str) : Key) (V.ref lc) = [((Sum.inr ("columns" : Str) : Key), V.ref lc)] := putK_new _ valV_nil
  have e2 : putK [((Sum.inr ("columns" : Str) : Key), V.ref lc)] (Sum.inr ("kinds" : Str)) (V.ref lk) = [((Sum.inr ("columns" : Str) : Key), V.ref lc), (Sum.inr ("kinds" : Str), V.ref lk)] := putK_new _ (by rw [valV_neg n1, valV_nil])
  have e3 : putK [((Sum.inr ("columns" : Str) : Key), V.ref lc), (Sum.inr ("kinds" : Str), V.ref lk)] (Sum.inr ("persons" : Str)) (V.ref lp) = ownD lc lk lp := putK_new _ (by rw [valV_neg n2, valV_neg n3, valV_nil])
  show putK (putK (putK [] (Sum.inr ("columns" : Str) : Key) (V.ref lc)) (Sum.inr ("kinds" : Str)) (V.ref lk)) (Sum.inr ("persons" : Str)) (V.ref lp) = ownD lc lk lp
  rw [e1, e2, e3]
theorem KOk_col {c : Str} {ks : List Knd} (k : KOk c ks) : ∀ o ∈ ks, o.col = c := by
  induction k with
  | nil => intro o h; cases h
  | top => intro o h; rw [List.mem_singleton] at h; subst h; rfl
  | more k ho h hn nd h0 h1 ih =>
    intro o' h'
    rcases List.mem_append.mp h' with h' | h'
    · exact ih o' h'
    · rw [List.mem_singleton] at h'; subst h'; rfl
/-- one column's kinds more -/
theorem KindsOk.more {cs : List (Str × Bool)} {ks ks' : List Knd} {c : Str × Bool} (K : KindsOk cs ks) (nd : ((cs ++ [c]).map (·.1)).Nodup) (hc : c.2 = true) (ok : KOk c.1 ks') (h1 : 1 ≤ ks'.length) (h2 : ks'.length ≤ 60) : KindsOk (cs ++ [c]) (ks ++ ks') := by
  have hne : ∀ d ∈ cs, d.1 ≠ c.1 := fun d hd e => by
    rw [List.map_append, List.nodup_append] at nd
    exact nd.2.2 d.1 (List.mem_map_of_mem hd) c.1 (by simp) e
  have col := KOk_col ok
  refine ⟨fun d hd h => ?_, fun k hk => ?_⟩
  · rcases List.mem_append.mp hd with hd | hd
    · have : (ks'.filter fun k => decide (k.col = d.1)) = [] := List.filter_eq_nil_iff.mpr fun k hk => by
        rw [col k hk]
        intro z
        exact hne d hd (of_decide_eq_true z).symm
      rw [List.filter_append, this, List.append_nil]
      exact K.each d hd h
    · rw [List.mem_singleton] at hd
      subst hd
      have e1 : (ks.filter fun k => decide (k.col = d.1)) = [] := List.filter_eq_nil_iff.mpr fun k hk => by
        intro z
        exact hne _ (K.of k hk) (of_decide_eq_true z)
      have e2 : (ks'.filter fun k => decide (k.col = d.1)) = ks' := List.filter_eq_self.mpr fun k hk => decide_eq_true (col k hk)
      rw [List.filter_append, e1, e2, List.nil_append]
      exact ⟨ok, h1, h2⟩
  · rcases List.mem_append.mp hk with hk | hk
    · exact List.mem_append_left _ (K.of k hk)
    · refine List.mem_append_right _ ?_
      rw [List.mem_singleton, col k hk, ← hc]
/-- a column without kinds more -/
theorem KindsOk.line {cs : List (Str × Bool)} {ks : List Knd} {c : Str × Bool} (K : KindsOk cs ks) (hc : c.2 = false) : KindsOk (cs ++ [c]) ks := by
  refine ⟨fun d hd h => ?_, fun k hk => List.mem_append_left _ (K.of k hk)⟩
  rcases List.mem_append.mp hd with hd | hd
  · exact K.each d hd h
  · rw [List.mem_singleton] at hd; subst hd; rw [hc] at h; cases h
/-! ### data at any depth -/
def vD : V → PyData
  | .int i => .int i
  | .str s => .str s
  | .bl b => .bool b
  | _ => .none
def flat2 : V → Bool
  | .int _ => true
  | .str s => PyData.canLay0 (.str s)
  | .non => true
  | .bl _ => true
  | _ => false
theorem vD_dp {K : PySem.W.Frag} {H : Hp} {v : V} (h : flat2 v = true) : Dp K H v (vD v) := by
  cases v <;> first | exact Dp.non | exact Dp.bl _ | exact Dp.int _ | exact Dp.str _ | cases h
theorem vD_lay {v : V} (h : flat2 v = true) : (vD v).canLay0 = true := by
  cases v <;> first | rfl | exact h | cases h
theorem vD_depth {v : V} (h : flat2 v = true) : (vD v).depth = 0 := by
  cases v <;> first | rfl | cases h
theorem vDs_dp {K : PySem.W.Frag} {H : Hp} : ∀ {vs : List V}, vs.all flat2 = true → DpAll K H vs (vs.map vD)
  | [], _ => .nil
  | v :: r, h => by
    rw [List.all_cons, Bool.and_eq_true] at h
    exact .cons (vD_dp h.1) (vDs_dp h.2)
theorem lay_all : ∀ {ds : List PyData}, (∀ d ∈ ds, d.canLay0 = true) → PyData.canLayAll0 ds = true
  | [], _ => rfl
  | d :: r, h => by
    show (d.canLay0 && PyData.canLayAll0 r) = true
    rw [h d List.mem_cons_self, lay_all fun x hx => h x (List.mem_cons_of_mem _ hx)] <;> rfl
theorem depth_all {m : Nat} : ∀ {ds : List PyData}, (∀ d ∈ ds, d.depth ≤ m) → PyData.depthAll ds ≤ m
  | [], _ => Nat.zero_le _
  | d :: r, h => by
    show max d.depth (PyData.depthAll r) ≤ m
    exact Nat.max_le.mpr ⟨h d List.mem_cons_self, depth_all fun x hx => h x (List.mem_cons_of_mem _ hx)⟩
theorem flats_lay {vs : List V} (h : vs.all flat2 = true) : PyData.canLayAll0 (vs.map vD) = true := lay_all fun d hd => by
  obtain ⟨v, hv, rfl⟩ := List.mem_map.mp hd
  exact vD_lay (List.all_eq_true.mp h v hv)
theorem flats_depth {vs : List V} (h : vs.all flat2 = true) : PyData.depthAll (vs.map vD) ≤ 0 := depth_all fun d hd => by
  obtain ⟨v, hv, rfl⟩ := List.mem_map.mp hd
  rw [vD_depth (List.all_eq_true.mp h v hv)]
  exact Nat.le_refl _
def perD (p : Str × List V) : PyData := .tuple [.str p.1, .tuple (p.2.map vD)]
def perFlat (p : Str × List V) : Prop := PyData.canLay0 (.str p.1) = true ∧ p.2.all flat2 = true
theorem isName_lay {s : Str} (h : isName s = true) : PyData.canLay0 (.str s) = true := by
  show (s.cps.all (· < 0x110000)) = true
  rw [← Array.all_toList]
  refine List.all_eq_true.mpr fun c hc => ?_
  have := (isName_out h).2.2 c hc
  unfold sign at this
  refine decide_eq_true ?_
  simp only [Bool.or_eq_true, Bool.and_eq_true, decide_eq_true_eq] at this
  omega
theorem per_dp {K : PySem.W.Frag} {H : Hp} {v : V} {p : Str × List V} (h : PerAt H v p) (f : perFlat p) : Dp K H v (perD p) := by
  obtain ⟨a, b, rfl, h1, h2⟩ := h
  exact Dp.tup (SqT.of h1) (.cons (Dp.str _) (.cons (Dp.tup (SqT.of h2) (vDs_dp f.2)) .nil))
theorem pers_dp {K : PySem.W.Frag} {H : Hp} : ∀ {vs : List V} {ps : List (Str × List V)}, PerL H vs ps → (∀ p ∈ ps, perFlat p) → DpAll K H vs (ps.map perD)
  | _, _, .nil, _ => .nil
  | _, _, .cons a r, f => .cons (per_dp a (f _ List.mem_cons_self)) (pers_dp r fun p hp => f p (List.mem_cons_of_mem _ hp))
theorem per_lay {p : Str × List V} (f : perFlat p) : (perD p).canLay0 = true := by
  show (PyData.canLay0 (.str p.1) && ((PyData.canLayAll0 (p.2.map vD)) && true)) = true
  rw [f.1, flats_lay f.2] <;> rfl
theorem per_depth {p : Str × List V} (f : perFlat p) : (perD p).depth ≤ 3 := by
  have := flats_depth f.2
  simp only [perD, PyData.depth, PyData.depthAll]
  omega
theorem pers_shaped {ps : List (Str × List V)} (f : ∀ p ∈ ps, perFlat p) : SeqAt.shaped (.list (ps.map perD)) = true := by
  unfold SeqAt.shaped
  rw [Bool.and_eq_true]
  refine ⟨lay_all fun d hd => ?_, decide_eq_true ?_⟩
  · obtain ⟨p, hp, rfl⟩ := List.mem_map.mp hd
    exact per_lay (f p hp)
  · have : PyData.depthAll (ps.map perD) ≤ 3 := depth_all fun d hd => by
      obtain ⟨p, hp, rfl⟩ := List.mem_map.mp hd
      exact per_depth (f p hp)
    simp only [PyData.depth]
    omega
theorem valOk_flat {R : Reg} {c : Str × Bool} {v : V} (hk : ∀ k ∈ R.kinds, isName k.name = true) (h : valOk R c v) : flat2 v = true := by
  unfold valOk at h
  split at h
  · obtain ⟨k, h1, _, rfl⟩ := h
    exact isName_lay (hk k h1)
  · obtain ⟨z, rfl, _⟩ := h
    rfl
theorem valsOk_flat {R : Reg} (hk : ∀ k ∈ R.kinds, isName k.name = true) : ∀ {cs : List (Str × Bool)} {vs : List V}, Paired (valOk R) cs vs → vs.all flat2 = true
  | _, _, .nil => rfl
  | _, _, .cons a r => by rw [List.all_cons, valOk_flat hk a, valsOk_flat hk r] <;> rfl
theorem KOk_name {c : Str} {ks : List Knd} (k : KOk c ks) : ∀ o ∈ ks, isName o.name = true ∧ o.name ≠ "none" := by
  induction k with
  | nil => intro o h; cases h
  | top h hn => intro o h'; rw [List.mem_singleton] at h'; subst h'; exact ⟨h, hn⟩
  | more k ho h hn nd h0 h1 ih =>
    intro o' h'
    rcases List.mem_append.mp h' with h' | h'
    · exact ih o' h'
    · rw [List.mem_singleton] at h'; subst h'; exact ⟨h, hn⟩
theorem KindsOk.name {cs : List (Str × Bool)} {ks : List Knd} (K : KindsOk cs ks) : ∀ k ∈ ks, isName k.name = true ∧ k.name ≠ "none" := fun k hk => by
  have hc := K.of k hk
  have ok := (K.each _ hc rfl).1
  exact KOk_name ok k (List.mem_filter.mpr ⟨hk, decide_eq_true rfl⟩)
/-! ### the text of a register -/
def upS (o : Option Str) : Str := o.getD "none"
def vS : V → Str
  | .int z => (toString z : Str)
  | .str s => s
  | _ => ""
def colLine (c : Str × Bool) : Str := ((("column " : Str) ++ c.1) ++ (" " : Str)) ++ wordOf c.2
def kindWords (k : Knd) : List Str := ["kind", k.col, k.name, upS k.up, (toString k.loss : Str)]
def perWords (p : Str × List V) : List Str := ("person" : Str) :: p.1 :: p.2.map vS
def regLines (R : Reg) : List Str := R.cols.map colLine ++ (R.kinds.map fun k => Txt.join " " (kindWords k)) ++ R.persons.map fun p => Txt.join " " (perWords p)
def regText (R : Reg) : Str := Txt.join "\n" (regLines R)
theorem int_len {z : Int} (h0 : -1000000 ≤ z) (h1 : z ≤ 1000000) : (toString z : Str).length ≤ 30 := by
  have e := int_text_length_le10 (a := z) (k := 7) (by decide) (by omega)
  show (Str.ofString (toString z)).length ≤ 30
  rw [ofString_length]
  omega
theorem wordOf_len (b : Bool) : (wordOf b).length ≤ 5 := by cases b <;> decide +kernel
theorem sum_le {α : Type} {f : α → Nat} {m : Nat} : ∀ {xs : List α}, (∀ x ∈ xs, f x ≤ m) → (xs.map f).sum ≤ xs.length * m
  | [], _ => Nat.zero_le _
  | a :: r, h => by
    rw [List.map_cons, List.sum_cons, List.length_cons, Nat.succ_mul]
    have h1 := h a List.mem_cons_self
    have h2 := sum_le (xs := r) fun x hx => h x (List.mem_cons_of_mem _ hx)
    omega
end M
namespace M
open PySem L2
/-! ### the scales of the program -/
def wayOf (ps : List (Str × List Str)) (n : Str) : List Str := (ps.lookup n).getD []
def wayStep (ps : List (Str × List Str)) (k : Knd) : List Str := k.name :: match k.up with
  | none => []
  | some u => wayOf ps u
/-- each kind with the way up from it, in their order -/
def ways (ks : List Knd) : List (Str × List Str) := ks.foldl (fun ps k => ps ++ [(k.name, wayStep ps k)]) []
theorem ways_snoc (ks : List Knd) (k : Knd) : ways (ks ++ [k]) = ways ks ++ [(k.name, wayStep (ways ks) k)] := by
  unfold ways
  rw [List.foldl_append]
  rfl
theorem snoc_ind {α : Type} {p : List α → Prop} (h0 : p []) (h1 : ∀ l a, p l → p (l ++ [a])) : ∀ l, p l := fun l => by
  have h : ∀ m : List α, p m.reverse := fun m => by
    induction m with
    | nil => exact h0
    | cons a r ih => rw [List.reverse_cons]; exact h1 _ _ ih
  have := h l.reverse
  rwa [List.reverse_reverse] at this
theorem ways_names (ks : List Knd) : (ways ks).map (·.1) = ks.map (·.name) := by
  induction ks using snoc_ind with
  | h0 => rfl
  | h1 l a ih => rw [ways_snoc, List.map_append, List.map_append, ih]; rfl
theorem ways_len (ks : List Knd) : (ways ks).length = ks.length := by
  have := congrArg List.length (ways_names ks)
  rwa [List.length_map, List.length_map] at this
theorem lookup_mem {α β : Type} [BEq α] [LawfulBEq α] {k : α} {v : β} : ∀ {ps : List (α × β)}, ps.lookup k = some v → (k, v) ∈ ps
  | [], h => by cases h
  | (j, w) :: r, h => by
    rw [List.lookup_cons] at h
    cases e : k == j with
    | true =>
      rw [e] at h
      cases h
      rw [eq_of_beq e]
      exact List.mem_cons_self
    | false =>
      rw [e] at h
      exact List.mem_cons_of_mem _ (lookup_mem h)
theorem wayOf_in (ps : List (Str × List Str)) (n : Str) : wayOf ps n = [] ∨ (n, wayOf ps n) ∈ ps := by
  unfold wayOf
  cases e : ps.lookup n with
  | none => exact .inl rfl
  | some w => exact .inr (lookup_mem e)
theorem ways_wlen (ks : List Knd) : ∀ p ∈ ways ks, p.2.length ≤ ks.length := by
  induction ks using snoc_ind with
  | h0 => intro p h; cases h
  | h1 l a ih =>
    intro p h
    rw [ways_snoc] at h
    rw [List.length_append]
    rcases List.mem_append.mp h with h | h
    · have := ih p h; omega
    · rw [List.mem_singleton] at h
      subst h
      show (a.name :: _).length ≤ l.length + 1
      rw [List.length_cons]
      cases e : a.up with
      | none => exact Nat.succ_le_succ (Nat.zero_le _)
      | some u =>
        show (wayOf (ways l) u).length + 1 ≤ _
        rcases wayOf_in (ways l) u with h | h
        · rw [h]; exact Nat.succ_le_succ (Nat.zero_le _)
        · have : (wayOf (ways l) u).length ≤ l.length := ih _ h
          omega
theorem wayOf_len (ks : List Knd) (n : Str) : (wayOf (ways ks) n).length ≤ ks.length := by
  rcases wayOf_in (ways ks) n with h | h
  · rw [h]; exact Nat.zero_le _
  · exact ways_wlen ks _ h
def WayAt (H : Hp) (kv : Key × V) (p : Str × List Str) : Prop := kv.1 = Sum.inr p.1 ∧ TupAt H kv.2 (p.2.map V.str)
theorem g_lenD {K : PySem.W.Frag} {H : Hp} {Q : VK} {d : Addr} {kvs : List (Key × V)} (h : H d = some (.dK kvs)) (q : Q (.int kvs.length) H) : U.uLen K [.ref d] H Q := Or.inr ⟨kvs, h, q⟩
theorem g_sfld {K : PySem.W.Frag} {σ : L2.St} {H : Hp} {D : Ends} {ta tv : TE} {f : Str} (q : tv σ H fun y H1 => ta σ H1 fun x H2 => ∃ a C dx fs, x = .ref a ∧ H2 a = some (.ins C dx fs) ∧ Cls K C ∧ NoAttr K C f ∧ fs.length < 1000 ∧ D.nx σ (upd H2 a (.ins C dx (putF f y fs)))) : sFld K ta tv f D σ H := q
theorem g_fld {K : PySem.W.Frag} {σ : L2.St} {H : Hp} {Q : VK} {ta : TE} {f : Str} (q : ta σ H fun x H1 => ∃ a C dx fs v, x = .ref a ∧ H1 a = some (.ins C dx fs) ∧ Cls K C ∧ NoAttr K C f ∧ fs.lookup f = some v ∧ Q v H1) : tFld K ta f σ H Q := q
def lossD (ks : List Knd) : List (Key × V) := ks.map fun k => (Sum.inr k.name, V.int k.loss)
theorem val_paired {H : Hp} {n : Str} : ∀ {kvs : List (Key × V)} {ps : List (Str × List Str)}, Paired (WayAt H) kvs ps →
    ((n ∉ ps.map (·.1) ∧ valV kvs (Sum.inr n) = none) ∨ (n ∈ ps.map (·.1) ∧ ∃ v, valV kvs (Sum.inr n) = some v ∧ TupAt H v ((wayOf ps n).map V.str)))
  | _, _, .nil => .inl ⟨by simp, valV_nil⟩
  | (k, v) :: kvs, (m, w) :: ps, .cons ⟨e, t⟩ r => by
    have e : k = Sum.inr m := e
    subst e
    by_cases c : n = m
    · subst c
      refine .inr ⟨by simp, v, valV_pos rfl, ?_⟩
      have : wayOf ((n, w) :: ps) n = w := by unfold wayOf; rw [List.lookup_cons_self]; rfl
      rw [this]
      exact t
    · have nk : ¬ ((Sum.inr m : Key) = Sum.inr n) := fun z => c (Sum.inr.inj z).symm
      have eq : wayOf ((m, w) :: ps) n = wayOf ps n := by
        unfold wayOf
        rw [List.lookup_cons, show (n == m) = false from beq_false_of_ne c]
      rw [valV_neg nk, eq]
      rcases val_paired (n := n) r with ⟨h1, h2⟩ | ⟨h1, h2⟩
      · exact .inl ⟨by simp only [List.map_cons, List.mem_cons, not_or]; exact ⟨c, h1⟩, h2⟩
      · exact .inr ⟨List.mem_cons_of_mem _ h1, h2⟩
theorem lk_fst {k : Str} {v : V} {r : List (Str × V)} : ((k, v) :: r).lookup k = some v := by rw [List.lookup_cons_self]
theorem lk_nxt {k j : Str} {v : V} {r : List (Str × V)} (h : (k == j) = false) : ((j, v) :: r).lookup k = r.lookup k := by rw [List.lookup_cons, h]
theorem lk_nil2 {k a b : Str} {x y : V} (h1 : (k == a) = false) (h2 : (k == b) = false) : [(a, x), (b, y)].lookup k = none := by rw [lk_nxt h1, lk_nxt h2]; rfl
/-- a tree of kinds at a: its dict at dx, its ways up at u, its losses at l -/
structure TreeX (CT : Addr) (H : Hp) (a dx u l : Addr) (ks : List Knd) : Prop where
  hi : H a = some (.ins CT dx [("ups", .ref u), ("losses", .ref l)])
  hu : ∃ kvs, H u = some (.dK kvs) ∧ Paired (WayAt H) kvs (ways ks)
  hl : H l = some (.dK (lossD ks))
  hn : l ≠ u
theorem TreeX.ups {K : PySem.W.Frag} {CT : Addr} {H : Hp} {a dx u l : Addr} {ks : List Knd} (tr : TreeX CT H a dx u l ks) (c : Cls K CT) (n : NoAttr K CT "ups") {R : V → Prop} (q : R (.ref u)) :
    ∃ a' C dx fs v, V.ref a = .ref a' ∧ H a' = some (.ins C dx fs) ∧ Cls K C ∧ NoAttr K C "ups" ∧ fs.lookup ("ups" : Str) = some v ∧ R v := ⟨a, CT, dx, _, _, rfl, tr.hi, c, n, lk_fst, q⟩
theorem TreeX.losses {K : PySem.W.Frag} {CT : Addr} {H : Hp} {a dx u l : Addr} {ks : List Knd} (tr : TreeX CT H a dx u l ks) (c : Cls K CT) (n : NoAttr K CT "losses") {R : V → Prop} (q : R (.ref l)) :
    ∃ a' C dx fs v, V.ref a = .ref a' ∧ H a' = some (.ins C dx fs) ∧ Cls K C ∧ NoAttr K C "losses" ∧ fs.lookup ("losses" : Str) = some v ∧ R v := ⟨a, CT, dx, _, _, rfl, tr.hi, c, n, (lk_nxt (by decide +kernel)).trans lk_fst, q⟩
theorem TreeX.looks {CT : Addr} {H : Hp} {a dx u l : Addr} {ks : List Knd} (tr : TreeX CT H a dx u l ks) (n : Str) : ∃ kvs, H u = some (.dK kvs) ∧ kvs.length = ks.length ∧ (valV kvs (Sum.inr n)).isSome = decide (n ∈ ks.map (·.name)) ∧ (n ∈ ks.map (·.name) → ∃ v, valV kvs (Sum.inr n) = some v ∧ TupAt H v ((wayOf (ways ks) n).map V.str)) := by
  obtain ⟨kvs, e, p⟩ := tr.hu
  refine ⟨kvs, e, by rw [prd_len p, ways_len], ?_⟩
  rw [← ways_names]
  rcases val_paired (n := n) p with ⟨h1, h2⟩ | ⟨h1, v, h2, h3⟩
  · exact ⟨by rw [h2, decide_eq_false h1]; rfl, fun z => absurd z h1⟩
  · exact ⟨by rw [h2, decide_eq_true h1]; rfl, fun _ => ⟨v, h2, h3⟩⟩
theorem WayAt.mono {H H' : Hp} (t : TS H H') {kv : Key × V} {p : Str × List Str} (h : WayAt H kv p) : WayAt H' kv p := ⟨h.1, h.2.mono t⟩
theorem prd_snoc {α β : Type} {R : α → β → Prop} {a : α} {b : β} : ∀ {xs : List α} {ys : List β}, Paired R xs ys → R a b → Paired R (xs ++ [a]) (ys ++ [b])
  | _, _, .nil, h => .cons h .nil
  | _, _, .cons p r, h => .cons p (prd_snoc r h)
theorem prd_mono {α β : Type} {R S : α → β → Prop} (h : ∀ a b, R a b → S a b) : ∀ {xs : List α} {ys : List β}, Paired R xs ys → Paired S xs ys
  | _, _, .nil => .nil
  | _, _, .cons p r => .cons (h _ _ p) (prd_mono h r)
theorem TreeX.mono {CT a dx u l : Addr} {ks : List Knd} {H H' : Hp} (s : Same H H') (h : TreeX CT H a dx u l ks) : TreeX CT H' a dx u l ks :=
  ⟨s _ _ h.hi, let ⟨kvs, e, p⟩ := h.hu; ⟨kvs, s _ _ e, prd_mono (fun _ _ => WayAt.mono (TS.of s)) p⟩, s _ _ h.hl, h.hn⟩
/-- a scale: of a line, of a column of kinds -/
def ScaleAt (CL CT : Addr) (H : Hp) (v : V) (c : Str × Bool) (ks : List Knd) : Prop :=
  if c.2 = true then ∃ a dx u l, v = .ref a ∧ TreeX CT H a dx u l ks else ∃ a dx, v = .ref a ∧ H a = some (.ins CL dx [])
theorem ScaleAt.mono {CL CT : Addr} {H H' : Hp} {v : V} {c : Str × Bool} {ks : List Knd} (s : Same H H') (h : ScaleAt CL CT H v c ks) : ScaleAt CL CT H' v c ks := by
  unfold ScaleAt at h ⊢
  split at h
  · rename_i e
    rw [if_pos e]
    obtain ⟨a, dx, u, l, rfl, t⟩ := h
    exact ⟨a, dx, u, l, rfl, t.mono s⟩
  · rename_i e
    rw [if_neg e]
    obtain ⟨a, dx, rfl, t⟩ := h
    exact ⟨a, dx, rfl, s _ _ t⟩
/-- the kinds of a column -/
abbrev ksOf (ks : List Knd) (c : Str) : List Knd := ks.filter fun k => decide (k.col = c)
/-- the dict of the scales of the columns -/
def ScalesAt (CL CT : Addr) (H : Hp) (kvs : List (Key × V)) (cs : List (Str × Bool)) (ks : List Knd) : Prop :=
  Paired (fun kv c => kv.1 = Sum.inr c.1 ∧ ScaleAt CL CT H kv.2 c (ksOf ks c.1)) kvs cs
theorem ScalesAt.mono {CL CT : Addr} {H H' : Hp} {kvs : List (Key × V)} {cs : List (Str × Bool)} {ks : List Knd} (s : Same H H') (h : ScalesAt CL CT H kvs cs ks) : ScalesAt CL CT H' kvs cs ks :=
  prd_mono (fun _ _ q => ⟨q.1, q.2.mono s⟩) h
def isKind (ks : List Knd) (v : V) : Bool := match v with
  | .str n => decide (n ∈ ks.map (·.name))
  | _ => false
theorem TreeX.lock {CT : Addr} {H H' : Hp} {a dx u l d : Addr} {ks : List Knd} {kvs : List (Key × V)} {k : Key} {od : Obj} (hd : H d = some (.dK kvs)) (hx : (k, V.ref a) ∈ kvs) (h : TreeX CT H a dx u l ks) (s : Same (upd H d (.frz od (.dK kvs))) H') : TreeX CT H' a dx u l ks := by
  have ts : TS H H' := fun c xs e => s _ _ ((upd_ne (fun z => by rw [z, hd] at e; cases e)).trans e)
  refine ⟨s _ _ ((upd_ne (fun z => by rw [← z, h.hi] at hd; cases hd)).trans h.hi), ?_, ?_, h.hn⟩
  · obtain ⟨kvs', e, p⟩ := h.hu
    refine ⟨kvs', s _ _ ((upd_ne fun z => ?_).trans e), prd_mono (fun _ _ => WayAt.mono ts) p⟩
    rw [z, hd] at e
    cases e
    obtain ⟨i, hi⟩ := List.getElem?_of_mem hx
    obtain ⟨y, _, _, a', e', t⟩ := prd_at p hi
    cases e'
    rw [h.hi] at t
    cases t
  · refine s _ _ ((upd_ne fun z => ?_).trans h.hl)
    have e := h.hl
    rw [z, hd] at e
    cases e
    obtain ⟨k', _, e'⟩ := List.mem_map.mp hx
    cases e'
theorem ScaleAt.lock {CL CT : Addr} {H H' : Hp} {d : Addr} {c : Str × Bool} {ks : List Knd} {kvs : List (Key × V)} {k : Key} {x : V} {od : Obj} (hd : H d = some (.dK kvs)) (hx : (k, x) ∈ kvs) (h : ScaleAt CL CT H x c ks) (s : Same (upd H d (.frz od (.dK kvs))) H') : ScaleAt CL CT H' x c ks := by
  unfold ScaleAt at h ⊢
  split at h
  · rename_i e
    rw [if_pos e]
    obtain ⟨a, dx, u, l, rfl, t⟩ := h
    exact ⟨a, dx, u, l, rfl, t.lock hd hx s⟩
  · rename_i e
    rw [if_neg e]
    obtain ⟨a, dx, rfl, t⟩ := h
    exact ⟨a, dx, rfl, s _ _ ((upd_ne (fun z => by rw [← z, t] at hd; cases hd)).trans t)⟩
/-- what is a value of a column -/
def isVal (c : Str × Bool) (ks : List Knd) (v : V) : Bool := if c.2 = true then isKind ks v else intIn (-1000000) 1000000 v
/-- None, a truth value, an int, a text -/
def plainV : V → Bool
  | .non => true
  | .bl _ => true
  | .int _ => true
  | .str s => decide (s.length ≤ 1000000)
  | _ => false
def valsStand (cs : List (Str × Bool)) (ks : List Knd) (vals : List V) : Bool := decide (vals.length = cs.length) && (cs.zip vals).all fun p => isVal p.1 (ksOf ks p.1.1) p.2
theorem plain_int {K : PySem.W.Frag} {H : Hp} {v : V} (h : plainV v = true) (h2 : ∀ z, v ≠ .int z) : ∃ (t : String) (b1 b2 : Bool), TyX K H v (.type t) ∧ kitB t "int" = some b1 ∧ kitB t "bool" = some b2 ∧ (b1 && !b2) = false := by
  cases v with
  | non => exact ⟨"NoneType", false, false, U.ty_non, by decide +kernel, by decide +kernel, rfl⟩
  | bl b => exact ⟨"bool", true, true, U.ty_bl, by decide +kernel, by decide +kernel, rfl⟩
  | int z => exact absurd rfl (h2 z)
  | str s => exact ⟨"str", false, false, U.ty_str, by decide +kernel, by decide +kernel, rfl⟩
  | _ => cases h
theorem plain_str {K : PySem.W.Frag} {H : Hp} {v : V} (h : plainV v = true) (h2 : ∀ z, v ≠ .str z) : ∃ (t : String), TyX K H v (.type t) ∧ kitB t "str" = some false := by
  cases v with
  | non => exact ⟨"NoneType", U.ty_non, by decide +kernel⟩
  | bl b => exact ⟨"bool", U.ty_bl, by decide +kernel⟩
  | int z => exact ⟨"int", U.ty_int, by decide +kernel⟩
  | str s => exact absurd rfl (h2 s)
  | _ => cases h
theorem e_isval_line {K : PySem.W.Frag} {H : Hp} {Q : VK} {v : V} (h : plainV v = true) (q : Q (.bl (intIn (-1000000) 1000000 v)) H) : (∃ z : Int, v = .int z ∧ Q (.bl (decide (-1000000 ≤ z) && decide (z ≤ 1000000))) H) ∨ (∃ (t : String) (b1 b2 : Bool), TyX K H v (.type t) ∧ kitB t "int" = some b1 ∧ kitB t "bool" = some b2 ∧ (b1 && !b2) = false ∧ Q (.bl false) H) := by
  by_cases c : ∃ z, v = .int z
  · obtain ⟨z, rfl⟩ := c
    exact .inl ⟨z, rfl, q⟩
  · obtain ⟨t, b1, b2, h1, h2, h3, h4⟩ := plain_int (K := K) (H := H) h fun z e => c ⟨z, e⟩
    refine .inr ⟨t, b1, b2, h1, h2, h3, h4, ?_⟩
    have e : intIn (-1000000) 1000000 v = false := by
      unfold intIn
      split
      · rename_i z; exact absurd ⟨z, rfl⟩ c
      · rfl
    rw [e] at q
    exact q
theorem e_isval_tree {K : PySem.W.Frag} {H : Hp} {Q : VK} {ks : List Knd} {v : V} (h : plainV v = true) (q : Q (.bl (isKind ks v)) H) : (∃ n : Str, v = .str n ∧ Q (.bl (decide (n ∈ ks.map (·.name)))) H) ∨ (∃ t : String, TyX K H v (.type t) ∧ kitB t "str" = some false ∧ Q (.bl false) H) := by
  by_cases c : ∃ z, v = .str z
  · obtain ⟨z, rfl⟩ := c
    exact .inl ⟨z, rfl, q⟩
  · obtain ⟨t, h1, h2⟩ := plain_str (K := K) (H := H) h fun z e => c ⟨z, e⟩
    refine .inr ⟨t, h1, h2, ?_⟩
    have e : isKind ks v = false := by
      unfold isKind
      split
      · rename_i z; exact absurd ⟨z, rfl⟩ c
      · rfl
    rw [e] at q
    exact q
theorem cut_1 (a : V) (r : List V) : cutV (a :: r) (some 1) none = r := by
  have e : cutV (a :: r) (some ((1 : Nat) : Int)) none = r := by
    unfold cutV
    rw [HT.sIx_none, HT.sIx_nat, List.length_cons]
    have m : min 1 (r.length + 1) = 1 := by omega
    rw [m]
    show (r.drop 0).take _ = _
    rw [List.drop_zero, List.take_of_length_le (by omega)]
  exact e
theorem none_of {H H' : Hp} {p : Addr} (s : Same H H') (h : H' p = none) : H p = none := by
  cases e : H p with
  | none => rfl
  | some o => have := s _ _ e; rw [h] at this; cases this
def lossOf (ks : List Knd) (n : Str) : Int := ((ks.find? fun k => decide (k.name = n)).map (·.loss)).getD 0
theorem val_loss (n : Str) : ∀ ks : List Knd, (n ∈ ks.map (·.name) → valV (lossD ks) (Sum.inr n) = some (.int (lossOf ks n))) ∧ (n ∉ ks.map (·.name) → valV (lossD ks) (Sum.inr n) = none)
  | [] => ⟨fun z => (by cases z), fun _ => rfl⟩
  | k :: r => by
    by_cases c : k.name = n
    · refine ⟨fun _ => ?_, fun z => absurd (by rw [List.map_cons, c]; exact List.mem_cons_self) z⟩
      show valV ((Sum.inr k.name, V.int k.loss) :: lossD r) _ = _
      rw [valV_pos (by rw [c])]
      unfold lossOf
      rw [List.find?_cons_of_pos (by simpa using c)]
      rfl
    · have e : lossOf (k :: r) n = lossOf r n := by unfold lossOf; rw [List.find?_cons_of_neg (by simpa using c)]
      have e2 : valV (lossD (k :: r)) (Sum.inr n) = valV (lossD r) (Sum.inr n) := by
        show valV ((Sum.inr k.name, V.int k.loss) :: lossD r) _ = _
        exact valV_neg (fun z => c (Sum.inr.inj z))
      rw [e, e2]
      obtain ⟨h1, h2⟩ := val_loss n r
      refine ⟨fun z => h1 ?_, fun z => h2 fun y => z (List.mem_cons_of_mem _ y)⟩
      rcases List.mem_cons.mp z with z | z
      · exact absurd z.symm c
      · exact z
/-- what can stand above the next kind -/
def canUp (ks : List Knd) (up : V) (loss : Int) : Bool := if ks.isEmpty then decide (up = .non) else isKind ks up && (match up with
  | .str u => decide (loss ≤ lossOf ks u)
  | _ => false)
end M
namespace U
open PySem PySem.Spec PyProof.Rows L2
theorem u_glst {X : Cx} {K : PySem.W.Frag} {es : List Expr} {k : Nat} {t : TGs} {n : Nat} {pos : Pos} (hK : X.K = K) (hc : X.calm = true) (h : PGs X es t) (hn : (assignEach es X.env).length = n := by rfl) (hst : (assignEach es X.env).findIdx? (·.1) = none := by rfl) : PG X (.Tuple es k pos) (gUnl K n t) := by subst hK; exact pg_unl hc h hn hst
theorem u_cls {X : Cx} {x : Str} {C : Addr} {pos : Pos} (hg : Gl X x) (h : X.mg x = some (.ref C)) (hd : (x == ("__debug__" : Str)) = false := by decide) : PE X (.Name x pos) (tC (.ref C)) := pe_glob hg h rfl hd
theorem u_truth {X : Cx} {K : PySem.W.Frag} {a : Expr} {ta : TE} (hK : X.K = K) (ha : PE X a ta) (he : ∀ whole, isTrue a X.env whole = (do let v ← whole; standAt a.pos; holding [v] (truthy v))) : PT X a (fun σ H Q => ta σ H fun x H' => ∃ k, TruV K x H' k ∧ Q k H') := by subst hK; exact pt_truth ha he
theorem g_unl {K : PySem.W.Frag} {σ : L2.St} {H : Hp} {n : Nat} {g : TGs} {a : Addr} {xs : List V} {R : L2.St → Hp → Prop} (h : SqL K H a xs) (e : xs.length = n) (q : g xs σ H R) : gUnl K n g (.ref a) σ H R := ⟨a, xs, rfl, h, e, q⟩
end U
namespace ZV
open PySem PySem.Spec PyProof.Rows L2
/-! C() of a class that has no __init__ of its own -/
structure MkO (K : PySem.W.Frag) (C : Addr) : Prop where
  makes : PySem.W.makesIn K C = true
  init : PySem.W.findIn K (.ref C) "__init__" = some (some (.builtin "object.__init__"))
  kp : PySem.W.keepIn K (.ref C) = true
def tMakeO (C : Addr) : TE := fun _ H Q => ∀ x dx, H x = none → H dx = none → dx ≠ x → Q (.ref x) (upd (upd H dx (.own x)) x (.ins C dx []))
section
variable {X : Cx} {C : Addr} {x : Str} {p pos : Pos}
theorem run_makeO {pins : List (Addr × Obj)} {σ : L2.St} {H : Hp} {s : Shared} {Q : VK} (M : MkO X.K C) (I : Inv X pins σ H s) (h : tMakeO C σ H Q) : wpAny (model X.prog X.w) X.A (call (.ref C) []) (EP X pins σ Q) X.xe s := by
  have hq := h (s.heap.objs.size + 1) s.heap.objs.size (I.hok.fresh (Nat.le_succ _)) (I.hok.fresh (Nat.le_refl _)) (Nat.ne_of_lt (Nat.lt_succ_self _))
  have I2 := Inv.made (C := C) I
  refine wpAny_call ?_
  have KI := I.kIn
  obtain ⟨hh, g, d, t, os⟩ := s
  have Y := PySem.W.makes_of (M := model X.prog X.w) KI M.makes
  refine PySem.W.make_core Y (PySem.W.looks_findIn KI M.init) (fun self => PySem.W.Looks.of_pure (PySem.W.oi_bind self)) (.inr ⟨rfl, rfl⟩) ?_
  have hx : ((hh.push PySem.W.emptyDict).push (PySem.W.instObj C hh.objs.size)).get? (hh.objs.size + 1) = some (PySem.W.instObj C hh.objs.size) := by
    have := Heap.get?_push_size (hh.push PySem.W.emptyDict) (o := PySem.W.instObj C hh.objs.size) rfl
    rwa [Heap.size_push] at this
  have t1 : PySem.W.Looks (model X.prog X.w) ((hh.push PySem.W.emptyDict).push (PySem.W.instObj C hh.objs.size)) (typeOf (.ref (hh.objs.size + 1))) (.ref C) := (PySem.W.Looks.ld hx).andThen .now
  have t2 : PySem.W.Looks (model X.prog X.w) ((hh.push PySem.W.emptyDict).push (PySem.W.instObj C hh.objs.size)) (isInstance (.ref (hh.objs.size + 1)) (.type "object")) true := t1.andThen (Y.top.keeps fun b o e => Heap.get?_push_of_some _ (Heap.get?_push_of_some _ e))
  refine codeAny_call_builtin PySem.W.oi_plain PySem.W.entry_oi (@PySem.W.check_slot (model X.prog X.w) _ _ _ "object.__init__" "object" "__init__" (.ref (hh.objs.size + 1)) [] [] _ PySem.W.oi_kind PySem.W.oi_split t2 (PySem.W.oi_args (.ref (hh.objs.size + 1))) ?_)
  rw [PySem.W.oi_run]
  exact wpAny_pure (And.intro rfl ⟨V.ref (hh.objs.size + 1), _, I2, rfl, hq⟩)
theorem pe_makeO {K : PySem.W.Frag} (hK : X.K = K) (M : MkO K C) (hg : Gl X x) (hm : X.mg x = some (.ref C)) (hdb : (x == ("__debug__" : Str)) = false := by decide) : PE X (.Call (.Name x p) [] [] pos) (tMakeO C) := by
  subst hK
  refine ⟨fun pins s σ H Q I h => ?_⟩
  refine wpAny_Call_Name_kw (ld_glob I hg hm ?_ hdb)
  exact PySem.W.callWith_K0 I.kIn M.kp (run_makeO M I h)
end
end ZV
namespace ZV
open PySem PySem.Spec PyProof.Rows L2
/-! zip(d.values(), list or tuple), d locked -/
section
variable {prog : Program} {w : World} {K : Type} [DecidableEq K] {knd : KeyKind prog w K} {A : Around} {E : Value → Shared → Prop} {s : Shared}
theorem nextOf_values_item {it d : Addr} {i ep : Nat} {kvs : List (K × Value)} {k : K} {v : Value} {Q : Value → Shared → Prop} (hit : s.heap.IsValIter it d i kvs.length ep)
    (hm : s.heap.DictAt knd d kvs ep) (hx : kvs[i]? = some (k, v))
    (hQ : ∀ h', h'.IsValIter it d (i + 1) kvs.length ep → Heap.SameBut it s.heap h' → Q v { s with heap := h' }) :
    wpAny (model prog w) A (Builtin.SmallTypes.nextOf (.ref it)) Q E s := by
  obtain ⟨o, ho, hc, hd⟩ := id hit
  obtain ⟨od, es, hod, hcd, hdd, hk, hp, hn⟩ := id hm
  unfold Builtin.SmallTypes.nextOf
  refine wpAny_bind (wpAny_callSpecial?_slot (name := Str.ofString "__next__") hit.typeIs F.slot_dict_valueiterator_next
    (wpAny_call_entry F.slot_dict_valueiterator_next hit.typeIs F.entry_dict_valueiterator_next ?_ (F.args_dict_valueiterator_next_1 _)))
  refine wpAny_bind (wpAny_pure ?_)
  refine wpAny_bind ?_
  refine wpAny_bind ?_
  first | refine wpAny_bind (wpAny_typeNameOfWhole_valiter hit.typeIs (wpAny_pure ?_)) | refine wpAny_bind (wpAny_typeNameOf_valiter hit.typeIs (wpAny_pure ?_))
  refine wpAny_bind (wpAny_fieldsOf ho hd ?_)
  have hown : Builtin.Dict_items.ownsTuple "dict_valueiterator" = false := by decide
  simp only [hown, Bool.false_eq_true, if_false]
  show wpAny _ _ (if (Value.ref d == Value.none) = true then _ else _) _ _ s
  rw [if_neg (show ¬ ((Value.ref d == Value.none) = true) from Bool.false_ne_true)]
  refine wpAny_bind (wpAny_pure ?_)
  refine wpAny_bind (wpAny_dictEntries hod hdd ?_)
  have hsz : es.size = kvs.length := by rw [← hp.length]; simp
  rw [if_neg (by rw [hsz]; simp)]
  refine wpAny_bind (wpAny_pure ?_)
  refine wpAny_bind (wpAny_dictEpoch hod hdd ?_)
  rw [if_neg (by simp)]
  refine wpAny_pure ?_
  have hlt : i < kvs.length := by
    rcases Nat.lt_or_ge i kvs.length with h | h
    · exact h
    · simp [List.getElem?_eq_none h] at hx
  have hlt' : i < es.size := by rw [hsz]; exact hlt
  have hval : es[i].val = v := (hp.get? (e := es[i]) (by simp [hlt']) hx).2
  simp only [show ¬ ((i : Int) < 0) from by omega, if_false, Int.toNat_natCast, Array.getElem?_eq_getElem hlt']
  refine wpAny_bind ?_
  first | refine wpAny_bind (wpAny_typeNameOfWhole_valiter hit.typeIs (wpAny_pure ?_)) | refine wpAny_bind (wpAny_typeNameOf_valiter hit.typeIs (wpAny_pure ?_))
  refine wpAny_bind (wpAny_isOneOf_valiter hit.typeIs ?_)
  show wpAny _ _ (setField (.ref it) 1 (rawInt ((i : Int) + 1)) >>= _) _ _ s
  refine wpAny_bind (wpAny_setField ho hd (by simp) ?_)
  have hit' : (s.heap.update it (Obj.mapFields (·.setIfInBounds 1 (rawInt ((i : Int) + 1))))).IsValIter it d (i + 1) kvs.length ep :=
    ⟨_, Heap.get?_update_self _ ho (Obj.isFreed_of_fields (Obj.data_mapFields hd _)), (Obj.cls_mapFields ..).trans hc, by rw [Obj.data_mapFields hd]; simp [rawInt]⟩
  refine wpAny_bind (wpAny_holding ?_)
  refine wpAny_bind (wpAny_isOneOf_valiter (s := { s with heap := s.heap.update it (Obj.mapFields (·.setIfInBounds 1 (rawInt ((i : Int) + 1)))) }) hit'.typeIs ?_)
  refine wpAny_bind (wpAny_isOneOf_valiter (s := { s with heap := s.heap.update it (Obj.mapFields (·.setIfInBounds 1 (rawInt ((i : Int) + 1)))) }) hit'.typeIs ?_)
  show wpAny _ _ (pure es[i].val) _ _ _
  exact wpAny_pure (wpAny_pure ⟨_, rfl, wpAny_pure (hval ▸ hQ _ hit' (Heap.SameBut.update ..))⟩)
theorem nextOf_values_end {it d : Addr} {i ep : Nat} {kvs : List (K × Value)} {Q : Value → Shared → Prop} (hh : A.handled = none) (hit : s.heap.IsValIter it d i kvs.length ep)
    (hm : s.heap.DictAt knd d kvs ep) (hx : kvs[i]? = none)
    (hE : ∀ h' e, Heap.ExtBut it s.heap h' → (∃ o, h'.get? e = some o ∧ o.cls = .type "StopIteration") → E (.ref e) { s with heap := h' }) : wpAny (model prog w) A (Builtin.SmallTypes.nextOf (.ref it)) Q E s := by
  obtain ⟨o, ho, hc, hd⟩ := id hit
  obtain ⟨od, es, hod, hcd, hdd, hk, hp, hn⟩ := id hm
  unfold Builtin.SmallTypes.nextOf
  refine wpAny_bind (wpAny_callSpecial?_slot (name := Str.ofString "__next__") hit.typeIs F.slot_dict_valueiterator_next
    (wpAny_call_entry F.slot_dict_valueiterator_next hit.typeIs F.entry_dict_valueiterator_next ?_ (F.args_dict_valueiterator_next_1 _)))
  refine wpAny_bind (wpAny_pure ?_)
  refine wpAny_bind ?_
  refine wpAny_bind ?_
  first | refine wpAny_bind (wpAny_typeNameOfWhole_valiter hit.typeIs (wpAny_pure ?_)) | refine wpAny_bind (wpAny_typeNameOf_valiter hit.typeIs (wpAny_pure ?_))
  refine wpAny_bind (wpAny_fieldsOf ho hd ?_)
  have hown : Builtin.Dict_items.ownsTuple "dict_valueiterator" = false := by decide
  simp only [hown, Bool.false_eq_true, if_false]
  show wpAny _ _ (if (Value.ref d == Value.none) = true then _ else _) _ _ s
  rw [if_neg (show ¬ ((Value.ref d == Value.none) = true) from Bool.false_ne_true)]
  refine wpAny_bind (wpAny_pure ?_)
  refine wpAny_bind (wpAny_dictEntries hod hdd ?_)
  have hsz : es.size = kvs.length := by rw [← hp.length]; simp
  rw [if_neg (by rw [hsz]; simp)]
  refine wpAny_bind (wpAny_pure ?_)
  refine wpAny_bind (wpAny_dictEpoch hod hdd ?_)
  rw [if_neg (by simp)]
  refine wpAny_pure ?_
  have hge : es.size ≤ i := by rw [hsz]; simpa using hx
  simp only [show ¬ ((i : Int) < 0) from by omega, if_false, Int.toNat_natCast, Array.getElem?_eq_none hge]
  refine wpAny_bind ?_
  first | refine wpAny_bind (wpAny_typeNameOfWhole_valiter hit.typeIs (wpAny_pure ?_)) | refine wpAny_bind (wpAny_typeNameOf_valiter hit.typeIs (wpAny_pure ?_))
  show wpAny _ _ (setField (.ref it) 0 .none >>= _) _ _ s
  refine wpAny_bind (wpAny_setField ho hd (by simp) ?_)
  show wpAny _ _ (newExc (.type "StopIteration") [] >>= _) _ _ _
  refine wpAny_bind ?_
  simp only [newExc, newTuple]
  refine wpAny_bind (wpAny_newObj_type ?_ (by size_fits))
  refine wpAny_bind (m := firstArgMember _ _) (wpAny_of_eq (a := Value.none) (by first | rfl | (simp only [firstArgMember]; rfl)) ?_)
  refine wpAny_newObj_type ?_ (by size_fits)
  simp only [raiseNew]
  refine wpAny_bind (wpAny_handled ?_)
  first | rw [show A.in1.handled = none from hh] | rw [hh]
  refine wpAny_bind (wpAny_pure (wpAny_throw ?_))
  exact hE _ _ (((Heap.SameBut.update ..).extBut.push _).push _) ⟨_, Heap.get?_push_size _ rfl, rfl⟩
end
theorem dictAt_keep {prog : Program} {w : World} {K : Type} [DecidableEq K] {knd : KeyKind prog w K} {h h' : Heap} {d : Addr} {kvs : List (K × Value)} {ep : Nat} (x : h.DictAt knd d kvs ep) (k : ∀ o, h.get? d = some o → h'.get? d = some o) : h'.DictAt knd d kvs ep := by
  obtain ⟨od, es, hod, r⟩ := x
  exact ⟨od, es, k _ hod, r⟩
theorem draws_values {prog : Program} {w : World} {K : Type} [DecidableEq K] {knd : KeyKind prog w K} {A : Around} (hh : A.handled = none) (it d : Addr) (hne : d ≠ it) (kvs : List (K × Value)) (ep : Nat) :
    Draws prog w A it [it, d] kvs.length (fun i v => ∃ k, kvs[i]? = some (k, v)) (fun i h => h.IsValIter it d i kvs.length ep ∧ h.DictAt knd d kvs ep) where
  live := fun _ _ st => let ⟨o, ho, _⟩ := st.1; ⟨o, ho⟩
  frame := fun _ _ _ st hk => ⟨st.1.at fun o e => hk it (by simp) o e, dictAt_keep st.2 fun o e => hk d (by simp) o e⟩
  item := fun i s Q E hi st hQ => by
    refine nextOf_values_item st.1 st.2 (k := kvs[i].1) (v := kvs[i].2) (by simp [hi]) fun h' hit' hs' => ?_
    exact hQ _ h' s.toks ⟨kvs[i].1, by simp [hi]⟩ ⟨hit', dictAt_keep st.2 fun o e => hs'.extBut _ _ hne e⟩ hs'
  done := fun s Q E st hE => nextOf_values_end hh st.1 st.2 (by simp) hE
theorem begins_values (v d : Addr) (es : Array DictEntry) (ep : Nat) : Begins (.ref v) { cls := .type "dict_valueiterator", data := .fields #[.ref d, .int 0 0, .int es.size 0, .int ep 0] } fun h => h.IsValuesView v d ∧ h.DictRaw d es ep where
  iter := fun prog w A E s Q h q => wpAny_pyIter_values_raw h.1 h.2 q
  keeps := fun h h' x hk => ⟨let ⟨o, ho, r⟩ := x.1; ⟨o, hk _ _ ho, r⟩, x.2.at fun o e => hk _ _ e⟩
  free := rfl
theorem sep5 {n d b : Addr} (hd : d < n) (hb : b < n) : ZipSep2 (n + 4) (n + 2) (n + 3) n (n + 1) [n, d] [n + 1, b] where
  TIz := by simp [Addr]
  TOz := by simp [Addr]
  TITO := by simp [Addr]
  TIi1 := by simp [Addr]
  mem1 := by simp
  zf1 := by simp only [List.mem_cons, List.not_mem_nil, or_false, not_or]; exact ⟨Nat.ne_of_gt (Nat.lt_add_of_pos_right (by decide)), Nat.ne_of_gt (Nat.lt_of_lt_of_le hd (Nat.le_add_right _ _))⟩
  Tf1 := by simp only [List.mem_cons, List.not_mem_nil, or_false, not_or]; exact ⟨Nat.ne_of_gt (Nat.lt_add_of_pos_right (by decide)), Nat.ne_of_gt (Nat.lt_of_lt_of_le hd (Nat.le_add_right _ _))⟩
  TIi2 := by simp [Addr]
  mem2 := by simp
  zf2 := by simp only [List.mem_cons, List.not_mem_nil, or_false, not_or]; exact ⟨Nat.ne_of_gt (Nat.add_lt_add_left (by decide) n), Nat.ne_of_gt (Nat.lt_of_lt_of_le hb (Nat.le_add_right _ _))⟩
  Tf2 := by simp only [List.mem_cons, List.not_mem_nil, or_false, not_or]; exact ⟨Nat.ne_of_gt (Nat.add_lt_add_left (by decide) n), Nat.ne_of_gt (Nat.lt_of_lt_of_le hb (Nat.le_add_right _ _))⟩
  sep1_2 := by simp only [List.mem_cons, List.not_mem_nil, or_false, not_or]; exact ⟨Nat.ne_of_lt (Nat.lt_add_of_pos_right (by decide)), Nat.ne_of_gt hb⟩
  sep2_1 := by simp only [List.mem_cons, List.not_mem_nil, or_false, not_or]; exact ⟨Nat.ne_of_gt (Nat.lt_add_of_pos_right (by decide)), Nat.ne_of_gt (Nat.lt_of_lt_of_le hd (Nat.le_add_right _ _))⟩
/-- the values of the locked dict d beside the items at b, in new pairs -/
def ItvT (K : PySem.W.Frag) (d : Addr) (o : Obj) (kvs : List (Key × V)) (b : Addr) : It :=
  ⟨fun i H => H d = some (.frz o (.dK kvs)) ∧ i < kvs.length ∧ ∃ (ys : List V), SqT K H b ys ∧ i < ys.length,
    fun i H v H' => ∃ T k x y, v = .ref T ∧ H T = none ∧ H' = upd H T (.tup [x, y]) ∧ kvs[i]? = some (k, x) ∧ ∀ ys, SqT K H b ys → ys[i]? = some y,
    fun i H => H d = some (.frz o (.dK kvs)) ∧ ∃ ys : List V, SqT K H b ys ∧ i ≤ kvs.length ∧ i ≤ ys.length ∧ (i = kvs.length ∨ i = ys.length)⟩
theorem turn_zipVT {P : Program} {w : World} {K : PySem.W.Frag} {elts : List Expr} {kk : Nat} {tpos : Pos} {d b z TI TO i1 i2 : Addr} {o : Obj} {kvs : List (Key × V)} {es : Array DictEntry} {ep : Nat} (hod : o.data = .dict es ep) (S : ZipSep2 z TI TO i1 i2 [i1, d] [i2, b]) (n1 : d ≠ i1) (n2 : b ≠ i2) :
    Turn P w K (.Tuple elts kk tpos) (ItvT K d o kvs b) [z, TI, TO, i1, i2] z (fun i h => IsZip h z TI TO .none ∧ IsTupOf2 h TI (.ref i1) (.ref i2) ∧ (∃ x y, IsTupOf2 h TO x y) ∧ h.IsValIter i1 d i kvs.length ep ∧ h.IsTupleIter i2 b i) where
  mem := by simp
  obj := fun i h st c hc => by
    obtain ⟨hz, hTI, ⟨x, y, hTO⟩, ⟨o1, e1, _, d1⟩, ⟨o2, e2, _, d2⟩⟩ := st
    have e' : c = z ∨ c = TI ∨ c = TO ∨ c = i1 ∨ c = i2 := by simpa using hc
    rcases e' with q | q | q | q | q
    · rw [q]; exact ⟨_, hz, fun v q => nomatch q⟩
    · rw [q]; exact ⟨_, hTI, fun v q => nomatch q⟩
    · rw [q]; exact ⟨_, hTO, fun v q => nomatch q⟩
    · rw [q]; exact ⟨o1, e1, fun v q => by rw [d1] at q; cases q⟩
    · rw [q]; exact ⟨o2, e2, fun v q => by rw [d2] at q; cases q⟩
  keep := fun i h h' st k => by
    obtain ⟨hz, hTI, ⟨x, y, hTO⟩, h1, h2⟩ := st
    exact ⟨k z (by simp) _ hz, k TI (by simp) _ hTI, ⟨x, y, k TO (by simp) _ hTO⟩, h1.at fun o q => k i1 (by simp) o q, h2.at fun o q => k i2 (by simp) o q⟩
  item := by
    intro X hP hw hK hc i pins s σ H E I hf st hg
    subst hP hw hK
    obtain ⟨hz, hTI, ⟨x0, y0, hTO⟩, h1, h2⟩ := st
    obtain ⟨hd, hi, ys, hqy, hiy⟩ := hg
    obtain ⟨hs, hgd, hx, es', ep', vs, hdt, hsz, kv, hm⟩ := I.frzK hd
    obtain ⟨rfl, rfl⟩ := dict_ep hod hdt
    obtain ⟨its2, rv2, p2, _⟩ := I.tuple hqy
    have hl : kvs.length = vs.length := Paired.length kv
    have hl2 := rv2.length
    have hh : X.A.in1.handled = none := I.ok.hd hc
    obtain ⟨⟨k0, x⟩, hkv⟩ : ∃ p, kvs[i]? = some p := ⟨kvs[i], List.getElem?_eq_getElem hi⟩
    obtain ⟨u, hu, ru⟩ := kv_get kv hkv
    have hy : ys[i]? = some ys[i] := List.getElem?_eq_getElem hiy
    obtain ⟨u2, hu2, ru2⟩ := rv2.get hy
    have hzl : z < s.heap.objs.size := Heap.lt_size hz
    rw [hl] at h1
    refine wpAny_pyNext_zipD2_item (A := X.A) S (draws_values (A := X.A.in1) (knd := mixKind X.prog X.w) hh i1 d n1 vs _) (Draws.tuple (A := X.A.in1) hh i2 b n2 its2.toArray) hz hTI hTO ⟨h1, hm⟩ ⟨h2, p2⟩ (by omega) (by simp; omega) fun v v2 h' tk ev ev2 z' TO' st1' st2' hT hsz' hk => ?_
    obtain ⟨k', ev⟩ := ev
    obtain rfl : v = u := by rw [hu] at ev; cases ev; rfl
    obtain rfl : v2 = u2 := by
      have e : its2.toArray[i]? = some u2 := by simpa using hu2
      rw [e] at ev2; cases ev2; rfl
    refine ⟨_, rfl, wpAny_letOwnedTupleGo_zip (s := { s with heap := h', toks := tk }) z' fun h'' z'' sb => ?_⟩
    have hT2 : h''.get? s.heap.objs.size = some { cls := .type "tuple", data := .seq #[v, v2] } := (sb.2 _ (Nat.ne_of_gt hzl)).trans hT
    have new : ObjOk X.prog X.w (upd H s.heap.objs.size (.tup [x, ys[i]])) h'' s.heap.objs.size (.tup [x, ys[i]]) :=
      ⟨by show 2 ≤ sizeLine; decide, [v, v2], .cons ru (.cons ru2 .nil), ⟨_, hT2, rfl, _, rfl⟩⟩
    have I1 : Inv X pins σ (upd H s.heap.objs.size (.tup [x, ys[i]])) { s with heap := h'', toks := tk } :=
      I.turnedNew (t' := tk) (ch := [z, TI, TO, i1, i2]) (fun c o hb q => (sb.2 c (fun q' => hb (by simp [q']))).trans (hk c o (fun q' => hb (by simp [q'])) (fun q' => hb (by simp [q'])) (fun q' => hb (by simp [q'])) (fun q' => hb (by simp [q'])) q)) hf (Nat.le_refl _) new
    refine ⟨.ref s.heap.objs.size, _, I1, rfl, ⟨_, k0, x, _, rfl, I.hok.fresh (Nat.le_refl _), rfl, hkv, fun l hl => by rw [I.tuple_inj hl hqy]; exact hy⟩, ⟨z'', (sb.2 _ S.TIz).trans (hk _ _ S.TIz S.TITO S.TIi1 S.TIi2 hTI), ⟨v, v2, (sb.2 _ S.TOz).trans TO'⟩, ?_, st2'.1.at fun o q => (sb.2 i2 S.zi2.symm).trans q⟩, fun c hcm => ?_⟩
    · rw [hl]
      exact st1'.1.at fun o q => (sb.2 i1 S.zi1.symm).trans q
    · have hlt : c < s.heap.objs.size := by
        have e' : c = z ∨ c = TI ∨ c = TO ∨ c = i1 ∨ c = i2 := by simpa using hcm
        rcases e' with q | q | q | q | q
        · rw [q]; exact hzl
        · rw [q]; exact Heap.lt_size hTI
        · rw [q]; exact Heap.lt_size hTO
        · rw [q]; obtain ⟨_, e1, _⟩ := h1; exact Heap.lt_size e1
        · rw [q]; obtain ⟨_, e2, _⟩ := h2; exact Heap.lt_size e2
      rw [upd_ne (Nat.ne_of_lt hlt)]
      exact (hf c hcm).1
  done := by
    intro X hP hw hK hc i pins s σ H E I hf st hg
    subst hP hw hK
    obtain ⟨hz, hTI, ⟨x0, y0, hTO⟩, h1, h2⟩ := st
    obtain ⟨hd, ys, hqy, hi, hiy, hend⟩ := hg
    obtain ⟨hs, hgd, hx, es', ep', vs, hdt, hsz, kv, hm⟩ := I.frzK hd
    obtain ⟨rfl, rfl⟩ := dict_ep hod hdt
    obtain ⟨its2, rv2, p2, _⟩ := I.tuple hqy
    have hl : kvs.length = vs.length := Paired.length kv
    have hl2 := rv2.length
    have hh : X.A.in1.handled = none := I.ok.hd hc
    rw [hl] at h1
    have z2 : its2.toArray.size = its2.length := by simp
    exact wpAny_pyNext_zipD2_end (A := X.A) S (draws_values (A := X.A.in1) (knd := mixKind X.prog X.w) hh i1 d n1 vs _) (Draws.tuple (A := X.A.in1) hh i2 b n2 its2.toArray) hz hTI hTO ⟨h1, hm⟩ ⟨h2, p2⟩ (by omega) (by omega) (by omega) fun h' tk hk => ⟨rfl, I.turnedL (t' := tk) (ch := [z, TI, TO, i1, i2]) (fun c o hb q =>
      hk c o (fun q' => hb (by simp [q'])) (fun q' => hb (by simp [q'])) (fun q' => hb (by simp [q'])) (fun q' => hb (by simp [q'])) q) hf⟩
  self := fun A i s Q E st h => wpAny_pyIter_zip st.1 h
/-- the values of the locked dict d beside the items at b, in new pairs -/
def ItvL (K : PySem.W.Frag) (d : Addr) (o : Obj) (kvs : List (Key × V)) (b : Addr) : It :=
  ⟨fun i H => H d = some (.frz o (.dK kvs)) ∧ i < kvs.length ∧ ∃ (ys : List V), SqL K H b ys ∧ i < ys.length,
    fun i H v H' => ∃ T k x y, v = .ref T ∧ H T = none ∧ H' = upd H T (.tup [x, y]) ∧ kvs[i]? = some (k, x) ∧ ∀ ys, SqL K H b ys → ys[i]? = some y,
    fun i H => H d = some (.frz o (.dK kvs)) ∧ ∃ ys : List V, SqL K H b ys ∧ i ≤ kvs.length ∧ i ≤ ys.length ∧ (i = kvs.length ∨ i = ys.length)⟩
theorem turn_zipVL {P : Program} {w : World} {K : PySem.W.Frag} {elts : List Expr} {kk : Nat} {tpos : Pos} {d b z TI TO i1 i2 : Addr} {o : Obj} {kvs : List (Key × V)} {es : Array DictEntry} {ep : Nat} (hod : o.data = .dict es ep) (S : ZipSep2 z TI TO i1 i2 [i1, d] [i2, b]) (n1 : d ≠ i1) (n2 : b ≠ i2) :
    Turn P w K (.Tuple elts kk tpos) (ItvL K d o kvs b) [z, TI, TO, i1, i2] z (fun i h => IsZip h z TI TO .none ∧ IsTupOf2 h TI (.ref i1) (.ref i2) ∧ (∃ x y, IsTupOf2 h TO x y) ∧ h.IsValIter i1 d i kvs.length ep ∧ h.IsListIter i2 b i) where
  mem := by simp
  obj := fun i h st c hc => by
    obtain ⟨hz, hTI, ⟨x, y, hTO⟩, ⟨o1, e1, _, d1⟩, ⟨o2, e2, _, d2⟩⟩ := st
    have e' : c = z ∨ c = TI ∨ c = TO ∨ c = i1 ∨ c = i2 := by simpa using hc
    rcases e' with q | q | q | q | q
    · rw [q]; exact ⟨_, hz, fun v q => nomatch q⟩
    · rw [q]; exact ⟨_, hTI, fun v q => nomatch q⟩
    · rw [q]; exact ⟨_, hTO, fun v q => nomatch q⟩
    · rw [q]; exact ⟨o1, e1, fun v q => by rw [d1] at q; cases q⟩
    · rw [q]; exact ⟨o2, e2, fun v q => by rw [d2] at q; cases q⟩
  keep := fun i h h' st k => by
    obtain ⟨hz, hTI, ⟨x, y, hTO⟩, h1, h2⟩ := st
    exact ⟨k z (by simp) _ hz, k TI (by simp) _ hTI, ⟨x, y, k TO (by simp) _ hTO⟩, h1.at fun o q => k i1 (by simp) o q, h2.at fun o q => k i2 (by simp) o q⟩
  item := by
    intro X hP hw hK hc i pins s σ H E I hf st hg
    subst hP hw hK
    obtain ⟨hz, hTI, ⟨x0, y0, hTO⟩, h1, h2⟩ := st
    obtain ⟨hd, hi, ys, hqy, hiy⟩ := hg
    obtain ⟨hs, hgd, hx, es', ep', vs, hdt, hsz, kv, hm⟩ := I.frzK hd
    obtain ⟨rfl, rfl⟩ := dict_ep hod hdt
    obtain ⟨its2, rv2, p2, _⟩ := I.list hqy
    have hl : kvs.length = vs.length := Paired.length kv
    have hl2 := rv2.length
    have hh : X.A.in1.handled = none := I.ok.hd hc
    obtain ⟨⟨k0, x⟩, hkv⟩ : ∃ p, kvs[i]? = some p := ⟨kvs[i], List.getElem?_eq_getElem hi⟩
    obtain ⟨u, hu, ru⟩ := kv_get kv hkv
    have hy : ys[i]? = some ys[i] := List.getElem?_eq_getElem hiy
    obtain ⟨u2, hu2, ru2⟩ := rv2.get hy
    have hzl : z < s.heap.objs.size := Heap.lt_size hz
    rw [hl] at h1
    refine wpAny_pyNext_zipD2_item (A := X.A) S (draws_values (A := X.A.in1) (knd := mixKind X.prog X.w) hh i1 d n1 vs _) (Draws.list (A := X.A.in1) hh i2 b n2 its2.toArray) hz hTI hTO ⟨h1, hm⟩ ⟨h2, p2.isList⟩ (by omega) (by simp; omega) fun v v2 h' tk ev ev2 z' TO' st1' st2' hT hsz' hk => ?_
    obtain ⟨k', ev⟩ := ev
    obtain rfl : v = u := by rw [hu] at ev; cases ev; rfl
    obtain rfl : v2 = u2 := by
      have e : its2.toArray[i]? = some u2 := by simpa using hu2
      rw [e] at ev2; cases ev2; rfl
    refine ⟨_, rfl, wpAny_letOwnedTupleGo_zip (s := { s with heap := h', toks := tk }) z' fun h'' z'' sb => ?_⟩
    have hT2 : h''.get? s.heap.objs.size = some { cls := .type "tuple", data := .seq #[v, v2] } := (sb.2 _ (Nat.ne_of_gt hzl)).trans hT
    have new : ObjOk X.prog X.w (upd H s.heap.objs.size (.tup [x, ys[i]])) h'' s.heap.objs.size (.tup [x, ys[i]]) :=
      ⟨by show 2 ≤ sizeLine; decide, [v, v2], .cons ru (.cons ru2 .nil), ⟨_, hT2, rfl, _, rfl⟩⟩
    have I1 : Inv X pins σ (upd H s.heap.objs.size (.tup [x, ys[i]])) { s with heap := h'', toks := tk } :=
      I.turnedNew (t' := tk) (ch := [z, TI, TO, i1, i2]) (fun c o hb q => (sb.2 c (fun q' => hb (by simp [q']))).trans (hk c o (fun q' => hb (by simp [q'])) (fun q' => hb (by simp [q'])) (fun q' => hb (by simp [q'])) (fun q' => hb (by simp [q'])) q)) hf (Nat.le_refl _) new
    refine ⟨.ref s.heap.objs.size, _, I1, rfl, ⟨_, k0, x, _, rfl, I.hok.fresh (Nat.le_refl _), rfl, hkv, fun l hl => by rw [I.list_inj hl hqy]; exact hy⟩, ⟨z'', (sb.2 _ S.TIz).trans (hk _ _ S.TIz S.TITO S.TIi1 S.TIi2 hTI), ⟨v, v2, (sb.2 _ S.TOz).trans TO'⟩, ?_, st2'.1.at fun o q => (sb.2 i2 S.zi2.symm).trans q⟩, fun c hcm => ?_⟩
    · rw [hl]
      exact st1'.1.at fun o q => (sb.2 i1 S.zi1.symm).trans q
    · have hlt : c < s.heap.objs.size := by
        have e' : c = z ∨ c = TI ∨ c = TO ∨ c = i1 ∨ c = i2 := by simpa using hcm
        rcases e' with q | q | q | q | q
        · rw [q]; exact hzl
        · rw [q]; exact Heap.lt_size hTI
        · rw [q]; exact Heap.lt_size hTO
        · rw [q]; obtain ⟨_, e1, _⟩ := h1; exact Heap.lt_size e1
        · rw [q]; obtain ⟨_, e2, _⟩ := h2; exact Heap.lt_size e2
      rw [upd_ne (Nat.ne_of_lt hlt)]
      exact (hf c hcm).1
  done := by
    intro X hP hw hK hc i pins s σ H E I hf st hg
    subst hP hw hK
    obtain ⟨hz, hTI, ⟨x0, y0, hTO⟩, h1, h2⟩ := st
    obtain ⟨hd, ys, hqy, hi, hiy, hend⟩ := hg
    obtain ⟨hs, hgd, hx, es', ep', vs, hdt, hsz, kv, hm⟩ := I.frzK hd
    obtain ⟨rfl, rfl⟩ := dict_ep hod hdt
    obtain ⟨its2, rv2, p2, _⟩ := I.list hqy
    have hl : kvs.length = vs.length := Paired.length kv
    have hl2 := rv2.length
    have hh : X.A.in1.handled = none := I.ok.hd hc
    rw [hl] at h1
    have z2 : its2.toArray.size = its2.length := by simp
    exact wpAny_pyNext_zipD2_end (A := X.A) S (draws_values (A := X.A.in1) (knd := mixKind X.prog X.w) hh i1 d n1 vs _) (Draws.list (A := X.A.in1) hh i2 b n2 its2.toArray) hz hTI hTO ⟨h1, hm⟩ ⟨h2, p2.isList⟩ (by omega) (by omega) (by omega) fun h' tk hk => ⟨rfl, I.turnedL (t' := tk) (ch := [z, TI, TO, i1, i2]) (fun c o hb q =>
      hk c o (fun q' => hb (by simp [q'])) (fun q' => hb (by simp [q'])) (fun q' => hb (by simp [q'])) (fun q' => hb (by simp [q'])) q) hf⟩
  self := fun A i s Q E st h => wpAny_pyIter_zip st.1 h
def iZipV (K : PySem.W.Frag) (td : TE) (t2 : TA) : TI := fun σ H R => td σ H fun x H1 => ∃ d o kvs, x = .ref d ∧ H1 d = some (.frz o (.dK kvs)) ∧ t2 σ H1 fun vs H2 => ∃ b, vs = [.ref b] ∧ H2 d = some (.frz o (.dK kvs)) ∧ ((∃ ys, SqT K H2 b ys ∧ R (ItvT K d o kvs b) H2) ∨ ∃ ys, SqL K H2 b ys ∧ R (ItvL K d o kvs b) H2)
theorem pi_zipV {X : Cx} {K : PySem.W.Frag} {e e2 : Expr} {td : TE} {t2 : TA} {p pos tpos apos cpos : Pos} {elts : List Expr} {kk : Nat} (hK : X.K = K) (hg : Gl X "zip") (hm : X.mg "zip" = none) (he : PE X e td) (h2 : PA X [e2] t2) (hbase : attributeBase e "values" X.env (eval e X.env) = eval e X.env := by rfl) (hline : (apos.endLine == cpos.line) = true := by rfl)
    (hs : starEach [.Call (.Attribute e "values" apos) [] [] cpos, e2] X.env = (false, eval (.Call (.Attribute e "values" apos) [] [] cpos) X.env) :: starEach [e2] X.env := by rfl) (hpl : (backTo pos (starEach [e2] X.env)).any (·.1) = false := by rfl) :
    PI X (.Tuple elts kk tpos) (.Call (.Name "zip" p) [.Call (.Attribute e "values" apos) [] [] cpos, e2] [] pos) (iZipV K td t2) := by
  subst hK
  refine ⟨fun pins s σ H R I h => ?_⟩
  refine Call_ (ld_blt I hg hm PyProof.Rows.boot_zip (PyProof.Rows.callWith_type1 ?_ hs hpl))
  rw [hs]
  show wpAny _ _ (spliced ((false, eval (.Call (.Attribute e "values" apos) [] [] cpos) X.env) :: backTo pos (starEach [e2] X.env))) _ _ s
  refine Calls.spliced_cons ?_
  refine wpAny_Call_method (T := "dict") (id := "dict.values") hbase rfl hline F.plainAttrs_dict F.slot_dict_values F.type_dict_values (thn (he.run pins s σ H _ I h) fun u s1 ⟨x, H1, I1, rx, d, o, kvs, ex, hd, q⟩ => ?_)
  subst ex
  obtain rfl : u = Value.ref d := rx
  obtain ⟨hs', hgd, hx, es, ep, vs, hdt, hsz, kv, hm'⟩ := I1.frzK hd
  refine ⟨hm'.dictOf.typeIs, hm'.dictOf.mapOf.noDict, ?_⟩
  have I2 : Inv X pins σ H1 { s1 with heap := s1.heap.push { cls := .type "dict_values", data := .fields #[.ref d] } } := I1.kept (t' := s1.toks) fun b ob q => Heap.get?_push_of_some _ q
  have I3 : Inv X ((s1.heap.objs.size, { cls := .type "dict_values", data := .fields #[.ref d] }) :: pins) σ H1 { s1 with heap := s1.heap.push { cls := .type "dict_values", data := .fields #[.ref d] } } :=
    I2.pins_of fun p hp => by
      rcases List.mem_cons.mp hp with rfl | hp
      · exact ⟨Heap.get?_push_size _ rfl, I1.hok.fresh (Nat.le_refl _), Nat.ne_of_gt I1.lt, I1.nofs (Nat.le_refl _), fun v z => nomatch z⟩
      · exact I2.pin p (List.mem_append_right _ hp)
  have fin : wpAny (model X.prog X.w) X.A (spliced (backTo pos (starEach [e2] X.env))) (fun us s2 => wpAny (model X.prog X.w) X.A (call (.type "zip") (.ref s1.heap.objs.size :: us)) (fun v s3 => wpAny (model X.prog X.w) X.A (pyIter v) (PIE X pins σ (.Tuple elts kk tpos) R) X.xe s3) X.xe s2) X.xe { s1 with heap := s1.heap.push { cls := .type "dict_values", data := .fields #[.ref d] } } := by
    refine thn (h2.run pos _ _ σ H1 _ I3 q) fun us s2 ⟨ys, H2, I4, r2, b, eb, hd2, qq⟩ => ?_
    subst eb
    cases r2 with
    | cons r rr =>
      cases rr
      cases r
      have hv := (I4.pin (s1.heap.objs.size, { cls := .type "dict_values", data := .fields #[.ref d] }) (List.mem_append_right _ (List.mem_cons_self ..))).1
      have I5 : Inv X pins σ H2 s2 := I4.pins_of fun p hp => I4.pin p (List.mem_append_right _ (List.mem_cons_of_mem _ hp))
      obtain ⟨hs2, hgd2, hx2, es2, ep2, vs2, hdt2, hsz2, kv2, hm2⟩ := I5.frzK hd2
      obtain ⟨rfl, rfl⟩ := dict_ep hdt hdt2
      have fresh5 : ∀ c, c ∈ [s2.heap.objs.size + 4, s2.heap.objs.size + 2, s2.heap.objs.size + 3, s2.heap.objs.size, s2.heap.objs.size + 1] → FpOk X pins H2 c := fun c hcm => by
        have e' : c = s2.heap.objs.size + 4 ∨ c = s2.heap.objs.size + 2 ∨ c = s2.heap.objs.size + 3 ∨ c = s2.heap.objs.size ∨ c = s2.heap.objs.size + 1 := by simpa using hcm
        have hle : s2.heap.objs.size ≤ c := by
          rcases e' with z | z | z | z | z
          · rw [z]; exact Nat.le_add_right _ _
          · rw [z]; exact Nat.le_add_right _ _
          · rw [z]; exact Nat.le_add_right _ _
          · rw [z]; exact Nat.le_refl _
          · rw [z]; exact Nat.le_add_right _ _
        exact I5.fpOk hle (I5.hok.fresh hle)
      have ld : d < s2.heap.objs.size := Heap.lt_size hgd2
      rcases qq with ⟨ys, hq, qR⟩ | ⟨ys, hq, qR⟩
      · obtain ⟨its, rv, p2, _⟩ := I5.tuple hq
        obtain ⟨ob, hob, _⟩ := id p2
        have lb := Heap.lt_size hob
        refine zip_begins2 (begins_values s1.heap.objs.size d _ _) (begins_tuple b its.toArray) ⟨⟨_, hv, rfl, rfl⟩, ⟨o, hgd2, hx2, hdt2⟩⟩ p2 fun h' hz hTI hTO g1 g2 hsz' hk => wpAny_pyIter_zip hz ?_
        exact ⟨s2.heap.objs.size + 4, [s2.heap.objs.size + 4, s2.heap.objs.size + 2, s2.heap.objs.size + 3, s2.heap.objs.size, s2.heap.objs.size + 1], _, _, H2, rfl, I5.kept (t' := s2.toks) hk, turn_zipVT hdt2 (sep5 ld lb) (Nat.ne_of_lt ld) (Nat.ne_of_lt (Nat.lt_succ_of_lt lb)), ⟨hz, hTI, ⟨_, _, hTO⟩, ⟨_, g1, rfl, by rw [hsz2]; rfl⟩, ⟨_, g2, rfl, rfl⟩⟩, fresh5, qR⟩
      · obtain ⟨its, rv, p2, _⟩ := I5.list hq
        have lb : b < s2.heap.objs.size := p2.lt
        refine zip_begins2 (begins_values s1.heap.objs.size d _ _) (begins_list b its.toArray) ⟨⟨_, hv, rfl, rfl⟩, ⟨o, hgd2, hx2, hdt2⟩⟩ p2.isList fun h' hz hTI hTO g1 g2 hsz' hk => wpAny_pyIter_zip hz ?_
        exact ⟨s2.heap.objs.size + 4, [s2.heap.objs.size + 4, s2.heap.objs.size + 2, s2.heap.objs.size + 3, s2.heap.objs.size, s2.heap.objs.size + 1], _, _, H2, rfl, I5.kept (t' := s2.toks) hk, turn_zipVL hdt2 (sep5 ld lb) (Nat.ne_of_lt ld) (Nat.ne_of_lt (Nat.lt_succ_of_lt lb)), ⟨hz, hTI, ⟨_, _, hTO⟩, ⟨_, g1, rfl, by rw [hsz2]; rfl⟩, ⟨_, g2, rfl, rfl⟩⟩, fresh5, qR⟩
  show wpAny _ _ (callWith cpos (.builtin "dict.values") [.ref d] [] []) _ X.xe s1
  exact method_meetsIn F.slot_dict_values F.entry_dict_values rfl (PySem.evalArgs_none ⟨rfl, hm'.dictOf.typeIs, F.args_dict_values_1 _, _, meets_dict_values (mixKind X.prog X.w) d hs', ⟨vs, hm'.dictOf⟩, fin⟩)
theorem walk_zipVT {K : PySem.W.Frag} {d b : Addr} {o : Obj} {kvs : List (Key × V)} {ys : List V} (hn : kvs.length = ys.length) : Walk (ItvT K d o kvs b) kvs.length (fun H => H d = some (.frz o (.dK kvs)) ∧ SqT K H b ys) (YPair (fun i => kvs[i]?.map Prod.snd) (fun i => ys[i]?)) :=
  ⟨fun i H hi q => ⟨q.1, hi, ys, q.2, by omega⟩, fun H q => ⟨q.1, ys, q.2, Nat.le_refl _, by omega, .inl rfl⟩, fun i H x H' hi q ⟨T, k, x, y, e1, e2, e3, e4, e5⟩ => ⟨T, x, y, e1, e2, e3, by dsimp only; rw [e4]; rfl, e5 ys q.2⟩⟩
theorem walk_zipVL {K : PySem.W.Frag} {d b : Addr} {o : Obj} {kvs : List (Key × V)} {ys : List V} (hn : kvs.length = ys.length) : Walk (ItvL K d o kvs b) kvs.length (fun H => H d = some (.frz o (.dK kvs)) ∧ SqL K H b ys) (YPair (fun i => kvs[i]?.map Prod.snd) (fun i => ys[i]?)) :=
  ⟨fun i H hi q => ⟨q.1, hi, ys, q.2, by omega⟩, fun H q => ⟨q.1, ys, q.2, Nat.le_refl _, by omega, .inl rfl⟩, fun i H x H' hi q ⟨T, k, x, y, e1, e2, e3, e4, e5⟩ => ⟨T, x, y, e1, e2, e3, by dsimp only; rw [e4]; rfl, e5 ys q.2⟩⟩
theorem same_unlock {H H' : Hp} {d : Addr} {u : HO} {od : Obj} (h : H d = some u) (s : Same (upd H d (.frz od u)) H') : Same H (upd H' d u) := fun c o e => by
  by_cases q : c = d
  · subst q
    rw [h] at e
    cases e
    exact upd_same
  · rw [upd_ne q]
    exact s c o ((upd_ne q).trans e)
section
variable {σ : L2.St} {H : Hp} {Q : VK} {K : PySem.W.Frag}
theorem lcI_zipT {g : TG} {tt : TT} {te : TE} {vs : List Nat} {d b : Addr} {o : Obj} {kvs : List (Key × V)} {ys : List V} (hd : H d = some (.frz o (.dK kvs))) (hb : ∀ H', Same H H' → SqT K H' b ys) (hl : kvs.length = ys.length) (hn : kvs.length ≤ 1000000) (f : Nat → Option V)
    (turn : ∀ i k x y T H' (A : VK) (B : Hp → Prop), kvs[i]? = some (k, x) → ys[i]? = some y → Same H H' → H' T = some (.tup [x, y]) → (∀ v H4, f i = some v → Same H' H4 → A v H4) → (f i = none → ∀ H3, Same H' H3 → B H3) →
      g (.ref T) (wipe σ vs) H' fun σ2 H2 => wipe σ2 vs = wipe σ vs ∧ tt σ2 H2 fun b H3 => if b = true then te σ2 H3 A else B H3)
    (k : ∀ E H', H E = none → Same H H' → H' E = some (.lst ((List.range kvs.length).filterMap f)) → Q (.ref E) H') : U.lcI σ vs g tt te Q (ItvT K d o kvs b) H := by
  refine U.lcI_same (walk_zipVT hl) hn f (fun H' s => ⟨s _ _ hd, hb H' s⟩) (fun i H' x H'' y => ?_) (fun i x H' H'' A B hi s y kA kB => ?_) k
  · obtain ⟨T, x1, y1, _, nT, rfl, _⟩ := y
    exact U.same_new nT
  · obtain ⟨T, x1, y1, rfl, nT, rfl, e1, e2⟩ := y
    dsimp only at e1 e2
    cases e : kvs[i]? with
    | none => rw [e] at e1; cases e1
    | some p =>
      rw [e] at e1
      cases e1
      exact turn i p.1 p.2 y1 T _ A B e e2 (s.trans (U.same_new nT)) upd_same kA kB
theorem lcI_zipL {g : TG} {tt : TT} {te : TE} {vs : List Nat} {d b : Addr} {o : Obj} {kvs : List (Key × V)} {ys : List V} (hd : H d = some (.frz o (.dK kvs))) (hb : SqL K H b ys) (hl : kvs.length = ys.length) (hn : kvs.length ≤ 1000000) (f : Nat → Option V)
    (turn : ∀ i k x y T H' (A : VK) (B : Hp → Prop), kvs[i]? = some (k, x) → ys[i]? = some y → Same H H' → H' T = some (.tup [x, y]) → (∀ v H4, f i = some v → Same H' H4 → A v H4) → (f i = none → ∀ H3, Same H' H3 → B H3) →
      g (.ref T) (wipe σ vs) H' fun σ2 H2 => wipe σ2 vs = wipe σ vs ∧ tt σ2 H2 fun b H3 => if b = true then te σ2 H3 A else B H3)
    (k : ∀ E H', H E = none → Same H H' → H' E = some (.lst ((List.range kvs.length).filterMap f)) → Q (.ref E) H') : U.lcI σ vs g tt te Q (ItvL K d o kvs b) H := by
  refine U.lcI_same (walk_zipVL hl) hn f (fun H' s => ⟨s _ _ hd, s.seq hb⟩) (fun i H' x H'' y => ?_) (fun i x H' H'' A B hi s y kA kB => ?_) k
  · obtain ⟨T, x1, y1, _, nT, rfl, _⟩ := y
    exact U.same_new nT
  · obtain ⟨T, x1, y1, rfl, nT, rfl, e1, e2⟩ := y
    dsimp only at e1 e2
    cases e : kvs[i]? with
    | none => rw [e] at e1; cases e1
    | some p =>
      rw [e] at e1
      cases e1
      exact turn i p.1 p.2 y1 T _ A B e e2 (s.trans (U.same_new nT)) upd_same kA kB
theorem g_lockE {te : TE} {d : Addr} {kvs : List (Key × V)} (h : H d = some (.dK kvs)) (q : ∀ od, te σ (upd H d (.frz od (.dK kvs))) fun v H' => H' d = some (.frz od (.dK kvs)) ∧ Q v (upd H' d (.dK kvs))) : tLockE te σ H Q := ⟨d, .dK kvs, h, trivial, q⟩
theorem g_lockS {t : TS} {D : Ends} {d : Addr} {kvs : List (Key × V)} (h : H d = some (.dK kvs)) (q : ∀ od, t ⟨fun σ' H' => H' d = some (.frz od (.dK kvs)) ∧ D.nx σ' (upd H' d (.dK kvs)), fun v H' => H' d = some (.frz od (.dK kvs)) ∧ D.rt v (upd H' d (.dK kvs)), fun σ' H' => H' d = some (.frz od (.dK kvs)) ∧ D.bk σ' (upd H' d (.dK kvs)), fun σ' H' => H' d = some (.frz od (.dK kvs)) ∧ D.ct σ' (upd H' d (.dK kvs))⟩ σ (upd H d (.frz od (.dK kvs)))) : tLock t D σ H := ⟨d, .dK kvs, h, trivial, q⟩
theorem g_iZipV {td : TE} {t2 : TA} {R : It → Hp → Prop} (q : td σ H fun x H1 => ∃ d o kvs, x = .ref d ∧ H1 d = some (.frz o (.dK kvs)) ∧ t2 σ H1 fun vs H2 => ∃ b, vs = [.ref b] ∧ H2 d = some (.frz o (.dK kvs)) ∧ ((∃ ys, SqT K H2 b ys ∧ R (ItvT K d o kvs b) H2) ∨ ∃ ys, SqL K H2 b ys ∧ R (ItvL K d o kvs b) H2)) : iZipV K td t2 σ H R := q
theorem g_or {te tf : TE} (q : te σ H Q ∨ tf σ H Q) : (fun σ H Q => te σ H Q ∨ tf σ H Q : TE) σ H Q := q
theorem g_meth {C : Addr} {m : Str} {sp : Sp} {dvs : List V} {E : XK} {ta : TE} {t : TA} (q : ta σ H fun x H1 => ∃ a dx fs, x = .ref a ∧ H1 a = some (.ins C dx fs) ∧ fs.lookup m = none ∧ t σ H1 fun vs H2 => sp (x :: (vs ++ dvs)) H2 Q E) : tMeth C m sp dvs E ta t σ H Q := q
end
end ZV
namespace KY
open PySem PySem.Spec PyProof.Rows L2
/-! ### list(d.keys()), tuple(d.keys()) -/
section
variable {prog : Program} {w : World} {A : Around} {E : Value → Shared → Prop} {s : Shared} {T : String} {r d : Addr} {n : Nat} {P : Nat → Value → Prop} {OK : Heap → Prop}
theorem code_tuple_new_K {Q₁ : Value → Shared → Prop} (K : PySem.W.KdlSrc prog w T r d n P OK) (hh : A.handled = none) (hok : OK s.heap) (hn : n ≤ sizeLine) (hT : (Value.type T == Value.type "tuple") = false)
    (h : ∀ (h' : Heap) (tk : Nat) (acc : Array Value), (∀ b o, s.heap.get? b = some o → h'.get? b = some o) → PySem.ItemsOf P acc n →
      Q₁ (.ref h'.objs.size) { s with heap := h'.push { cls := .type "tuple", data := .seq acc }, toks := tk }) :
    codeAny (model prog w) A (.call (.builtin "tuple.__new__") ⟨[.type "tuple", .ref r], []⟩) (wants Q₁ E) s := by
  refine codeAny_of_tree ?_
  show wpAny _ A.in1 (do checkBuiltinCall "tuple.__new__" ⟨[.type "tuple", .ref r], []⟩; again (.builtin "tuple.__new__" ⟨[.type "tuple", .ref r], []⟩)) _ _ s
  refine wpAny_bind (wpAny_of_eq (F.newCall_tuple_1 _) (wpAny_pure ⟨plainId_quiet F.plain_tuple_new _, codeAny_builtin F.entry_tuple_new ?_⟩))
  rw [Around.under_plainId F.plain_tuple_new _]
  have hsub := sub_tuple_self
  have hinit := init_tuple_lookup
  have hmh := madeHere_tuple
  have hTI := K.type s hok
  have hh1 : A.in1.handled = none := hh
  wp_walk using wpAny_typeOf hTI, PySem.W.kdu_collect (A := A.in1) K hh1 hok hn
  intro h' tk acc hk hacc
  show wpAny _ _ (Builtin.Tuple.tupleExact acc.toList.toArray >>= fun v => ret v) _ _ _
  unfold Builtin.Tuple.tupleExact
  refine wpAny_bind (wpAny_newObj_type ?_ (by show acc.toList.toArray.size ≤ sizeLine; simp only [Array.toArray_toList]; rw [hacc.1]; exact hn))
  refine wpAny_pure ?_
  have e : acc.toList.toArray = acc := by simp
  rw [e]
  exact h h' tk acc hk hacc
theorem call_tuple_K {Q : Value → Shared → Prop} (K : PySem.W.KdlSrc prog w T r d n P OK) (hh : A.handled = none) (hok : OK s.heap) (hn : n ≤ sizeLine) (hT : (Value.type T == Value.type "tuple") = false)
    (hQ : ∀ (h' : Heap) (tk : Nat) (acc : Array Value), (∀ b o, s.heap.get? b = some o → h'.get? b = some o) → PySem.ItemsOf P acc n →
      Q (.ref h'.objs.size) { s with heap := h'.push { cls := .type "tuple", data := .seq acc }, toks := tk }) :
    wpAny (model prog w) A (call (.type "tuple") [.ref r]) Q E s := by
  refine callType_codes (Q₁ := fun obj s₁ => s₁.TypeIs obj "tuple" ∧ Q obj s₁) F.called_tuple (F.typeCall_tuple_1 _) F.entry_object_init
    (code_tuple_new_K (A := A.in1) K hh hok hn hT fun h' tk acc hk hacc => ⟨⟨_, Heap.get?_push_size _ rfl, rfl⟩, hQ h' tk acc hk hacc⟩) fun obj s₁ h₁ => ?_
  exact ⟨h₁.1, F.args_object_init_2 obj _, object_init_meets F.called_tuple.init.lookup F.called_tuple.made (by decide) prog w A.in1 _ s₁ ⟨h₁.1, rfl, h₁.2⟩⟩
end
def rKeysL : V → Hp → VK → Prop := fun x H Q => ∃ (d : Addr) (kvs : List (Key × V)), x = .ref d ∧ H d = some (.dK kvs) ∧ ∀ p, H p = none → Q (.ref p) (upd H p (.lst (kvs.map fun kv => kV kv.1)))
def rKeysT : V → Hp → VK → Prop := fun x H Q => ∃ (d : Addr) (kvs : List (Key × V)), x = .ref d ∧ H d = some (.dK kvs) ∧ ∀ p, H p = none → Q (.ref p) (upd H p (.tup (kvs.map fun kv => kV kv.1)))
def tListKeys (te : TE) : TE := fun σ H Q => te σ H fun x H1 => rKeysL x H1 Q
def tTupKeys (te : TE) : TE := fun σ H Q => te σ H fun x H1 => rKeysT x H1 Q
theorem g_keysL {σ : L2.St} {H : Hp} {te : TE} {Q : VK} (q : te σ H fun x H1 => rKeysL x H1 Q) : tListKeys te σ H Q := q
theorem g_keysT {σ : L2.St} {H : Hp} {te : TE} {Q : VK} (q : te σ H fun x H1 => rKeysT x H1 Q) : tTupKeys te σ H Q := q
section
variable {X : Cx} {e : Expr} {te : TE} {p apos cpos pos : Pos}
theorem keys_vals {kvs : List (Key × V)} {vs : List (Key × Value)} {P : Program} {w : World} {acc : Array Value} (rel : KV kvs vs) (hacc : PySem.ItemsOf (fun i v => ∃ k x, vs[i]? = some (k, x) ∧ (mixKind P w).is k v = true) acc vs.length) : Vals (kvs.map fun kv => kV kv.1) acc.toList := by
  have ek : (kvs.map fun kv => kV kv.1) = vs.map fun p => kV p.1 := by
    have e := congrArg (List.map kV) rel.keys
    rw [List.map_map, List.map_map] at e
    exact e
  rw [ek]
  exact keys_at (by rw [Array.length_toList]; exact hacc.1) fun j v e => hacc.2 j v (by rw [← Array.getElem?_toList]; exact e)
theorem pe_listKeys (hc : X.calm = true) (he : PE X e te) (hg : Gl X "list") (hm : X.mg "list" = none) (hv : bootBuiltins "list" = some (.type "list")) (hbase : attributeBase e "keys" X.env (eval e X.env) = eval e X.env := by rfl) (hline : (apos.endLine == cpos.line) = true := by rfl)
    (hs : starEach [.Call (.Attribute e "keys" apos) [] [] cpos] X.env = (false, eval (.Call (.Attribute e "keys" apos) [] [] cpos) X.env) :: starEach [] X.env := by rfl) :
    PE X (.Call (.Name "list" p) [.Call (.Attribute e "keys" apos) [] [] cpos] [] pos) (tListKeys te) := by
  refine ⟨fun pins s σ H Q I hq => ?_⟩
  refine wpAny_Call_Name_kw (ld_blt I hg hm hv ?_)
  refine PyProof.Rows.callWith_type1 ?_ hs rfl
  rw [hs]
  show wpAny _ _ (spliced ((false, eval (.Call (.Attribute e "keys" apos) [] [] cpos) X.env) :: backTo pos (starEach [] X.env))) _ _ s
  refine Calls.spliced_cons ?_
  refine wpAny_Call_method (T := "dict") (id := "dict.keys") hbase rfl hline F.plainAttrs_dict F.slot_dict_keys F.type_dict_keys (thn (he.run pins s σ H _ I hq) fun u s1 ⟨x, H1, I1, rx, d, kvs, ex, hd, q⟩ => ?_)
  subst ex
  obtain rfl : u = Value.ref d := rx
  obtain ⟨hz, hs0, vs, kv, hdo⟩ := I1.hok d _ hd
  obtain ⟨ep, hat⟩ := hdo.dictAt
  have lk : kvs.length = vs.length := Paired.length kv
  have I2 : Inv X pins σ H1 { s1 with heap := s1.heap.push { cls := .type "dict_keys", data := .fields #[.ref d] } } := I1.kept (t' := s1.toks) fun b ob q => Heap.get?_push_of_some _ q
  refine ⟨hdo.typeIs, hdo.mapOf.noDict, ?_⟩
  show wpAny _ _ (callWith cpos (.builtin "dict.keys") [.ref d] [] []) _ X.xe s1
  refine method_meetsIn F.slot_dict_keys F.entry_dict_keys rfl (PySem.evalArgs_none ⟨rfl, hdo.typeIs, F.args_dict_keys_1 _, _, PySem.W.kdl_meets_keys (mixKind X.prog X.w) d hs0, ⟨vs, hdo⟩, ?_⟩)
  refine Calls.spliced_nil ?_
  refine PySem.W.kdl_call (PySem.W.kdl_keys (knd := mixKind X.prog X.w) (d := d) (kvs := vs) (ep := ep)) (I1.ok.hd hc) ⟨⟨_, Heap.get?_push_size _ rfl, rfl, rfl⟩, hat.push _⟩ (by omega) fun h' tk acc c' hk hD hacc => ?_
  refine ⟨.ref _, upd H1 (s1.heap.push { cls := .type "dict_keys", data := .fields #[.ref d] }).objs.size (.lst (kvs.map fun kv => kV kv.1)), I2.laid (t' := tk) hk (Nat.le_refl _)
    (show ObjOk X.prog X.w _ _ _ (.lst (kvs.map fun kv => kV kv.1)) from ⟨by rw [List.length_map]; exact hz, acc.toList, c', keys_vals kv hacc, by rw [Array.toArray_toList]; exact hD⟩), rfl, q _ (I2.hok.fresh (Nat.le_refl _))⟩
theorem pe_tupKeys (hc : X.calm = true) (he : PE X e te) (hg : Gl X "tuple") (hm : X.mg "tuple" = none) (hv : bootBuiltins "tuple" = some (.type "tuple")) (hbase : attributeBase e "keys" X.env (eval e X.env) = eval e X.env := by rfl) (hline : (apos.endLine == cpos.line) = true := by rfl)
    (hs : starEach [.Call (.Attribute e "keys" apos) [] [] cpos] X.env = (false, eval (.Call (.Attribute e "keys" apos) [] [] cpos) X.env) :: starEach [] X.env := by rfl) :
    PE X (.Call (.Name "tuple" p) [.Call (.Attribute e "keys" apos) [] [] cpos] [] pos) (tTupKeys te) := by
  refine ⟨fun pins s σ H Q I hq => ?_⟩
  refine wpAny_Call_Name_kw (ld_blt I hg hm hv ?_)
  refine PyProof.Rows.callWith_type1 ?_ hs rfl
  rw [hs]
  show wpAny _ _ (spliced ((false, eval (.Call (.Attribute e "keys" apos) [] [] cpos) X.env) :: backTo pos (starEach [] X.env))) _ _ s
  refine Calls.spliced_cons ?_
  refine wpAny_Call_method (T := "dict") (id := "dict.keys") hbase rfl hline F.plainAttrs_dict F.slot_dict_keys F.type_dict_keys (thn (he.run pins s σ H _ I hq) fun u s1 ⟨x, H1, I1, rx, d, kvs, ex, hd, q⟩ => ?_)
  subst ex
  obtain rfl : u = Value.ref d := rx
  obtain ⟨hz, hs0, vs, kv, hdo⟩ := I1.hok d _ hd
  obtain ⟨ep, hat⟩ := hdo.dictAt
  have lk : kvs.length = vs.length := Paired.length kv
  have I2 : Inv X pins σ H1 { s1 with heap := s1.heap.push { cls := .type "dict_keys", data := .fields #[.ref d] } } := I1.kept (t' := s1.toks) fun b ob q => Heap.get?_push_of_some _ q
  refine ⟨hdo.typeIs, hdo.mapOf.noDict, ?_⟩
  show wpAny _ _ (callWith cpos (.builtin "dict.keys") [.ref d] [] []) _ X.xe s1
  refine method_meetsIn F.slot_dict_keys F.entry_dict_keys rfl (PySem.evalArgs_none ⟨rfl, hdo.typeIs, F.args_dict_keys_1 _, _, PySem.W.kdl_meets_keys (mixKind X.prog X.w) d hs0, ⟨vs, hdo⟩, ?_⟩)
  refine Calls.spliced_nil ?_
  refine call_tuple_K (PySem.W.kdl_keys (knd := mixKind X.prog X.w) (d := d) (kvs := vs) (ep := ep)) (I1.ok.hd hc) ⟨⟨_, Heap.get?_push_size _ rfl, rfl, rfl⟩, hat.push _⟩ (by omega) rfl fun h' tk acc hk hacc => ?_
  have I3 : Inv X pins σ H1 { s1 with heap := h', toks := tk } := I2.kept (t' := tk) hk
  refine ⟨.ref h'.objs.size, upd H1 h'.objs.size (.tup (kvs.map fun kv => kV kv.1)), I3.laid (t' := tk) (fun b o e => Heap.get?_push_of_some _ e) (Nat.le_refl _)
    (show ObjOk X.prog X.w _ _ _ (.tup (kvs.map fun kv => kV kv.1)) from ⟨by rw [List.length_map]; exact hz, acc.toList, keys_vals kv hacc, by rw [Array.toArray_toList]; exact IsTup.new _ _⟩), rfl, q _ (I3.hok.fresh (Nat.le_refl _))⟩
end
end KY
namespace SU
open PySem PySem.Spec PyProof.Rows L2
/-! ### sorted(set(t)), t a tuple of texts -/
section
variable {P : Program} {w : World} {A : Around} {E : Value → Shared → Prop} {s : Shared} {a : Addr}
/-- texts in a set that may be walked: M tells which, n bounds them -/
def Texts (P : Program) (w : World) (h : Heap) (a : Addr) (M : Str → Prop) (n : Nat) : Prop :=
  ∃ o es ep t, (h.get? a = some o ∧ o.ExactSet ∧ o.data = .set es ep t) ∧ (ElemsOf (strKind P w) es.toList ∧ ∀ k, M k ↔ ∃ e ∈ es.toList, (strKind P w).is k e.2 = true) ∧
    (es.size ≤ n ∧ t.fits es.size = true) ∧ Ris t.place.toList ∧ (w.params.followText "set-order" = true ∨ t.led = true)
theorem Texts.at {h h' : Heap} {M : Str → Prop} {n : Nat} (R : Texts P w h a M n) (k : ∀ o, h.get? a = some o → h'.get? a = some o) : Texts P w h' a M n := by
  obtain ⟨o, es, ep, t, ⟨ho, q⟩, r⟩ := R
  exact ⟨o, es, ep, t, ⟨k o ho, q⟩, r⟩
theorem Texts.le {h : Heap} {M : Str → Prop} {n m : Nat} (R : Texts P w h a M n) (k : n ≤ m) : Texts P w h a M m := by
  obtain ⟨o, es, ep, t, q, r, ⟨l, f⟩, z⟩ := R
  exact ⟨o, es, ep, t, q, r, ⟨Nat.le_trans l k, f⟩, z⟩
theorem Texts.iff {h : Heap} {M M' : Str → Prop} {n : Nat} (R : Texts P w h a M n) (k : ∀ x, M' x ↔ M x) : Texts P w h a M' n := by
  obtain ⟨o, es, ep, t, q, ⟨r1, r2⟩, z⟩ := R
  exact ⟨o, es, ep, t, q, ⟨r1, fun x => (k x).trans (r2 x)⟩, z⟩
theorem key_of {x y : Str} {k : Tok} (h : (strKind P w).is y (.str x k) = true) : y = x := by
  obtain ⟨t, e⟩ := Value.isStrOf_shape (x := y) (v := .str x k) h
  cases e
  rfl
theorem two_at {α : Type} {c : Prop} [Decidable c] {m : Sem Bool} {f : Bool → Sem α} {Q : α → Shared → Prop} (hm : ∃ b, m = pure b) (q : ∀ b, wpAny (model P w) A (f b) Q E s) : wpAny (model P w) A (if c then m >>= f else pure true >>= f) Q E s := by
  obtain ⟨b, rfl⟩ := hm
  split
  · exact wpAny_bind (wpAny_pure (q b))
  · exact wpAny_bind (wpAny_pure (q true))
/-- a table laid over the one that stands -/
theorem put_at {o : Obj} {es es1 : Array (Int × Value)} {ep : Nat} {t t1 : SetTable} {M : Str → Prop} {n : Nat} {Q : Unit → Shared → Prop} (ho : s.heap.get? a = some o) (hx : o.ExactSet) (hd : o.data = .set es ep t) (hz : es1.size < scanBound)
    (el : ElemsOf (strKind P w) es1.toList) (hm : ∀ k, M k ↔ ∃ e ∈ es1.toList, (strKind P w).is k e.2 = true) (hn : es1.size ≤ n) (hf : t1.fits es1.size = true) (hr : Ris t1.place.toList) (hl : w.params.followText "set-order" = true ∨ t1.led = true)
    (q : ∀ h' o', Heap.SameBut a s.heap h' → h'.get? a = some o' → o'.ExactSet → o'.data = .set es1 (ep + 1) t1 → Texts P w h' a M n → Q () { s with heap := h' }) : wpAny (model P w) A (storeSet a es1 t1) Q E s := by
  have e := store_at (es' := es1) (t' := t1) ho hd
  exact wpAny_storeSet_of ho hd (q _ _ (Heap.SameBut.update s.heap a (Obj.putSet es1 t1)) e hx rfl ⟨_, es1, ep + 1, t1, ⟨e, hx, rfl⟩, ⟨el, hm⟩, ⟨hn, hf⟩, hr, hl⟩) (fits_of_scanBound hz)
theorem gave_at {b : Bool} {Q : Unit → Shared → Prop} (h : Q () s) : wpAny (model P w) A (match b with | true => rule "set.scan.the-table-gave-way" | false => pure ()) Q E s := by
  cases b
  · exact wpAny_pure h
  · exact wpAny_rule h
theorem add_at {x : Str} {k : Tok} {M : Str → Prop} {n : Nat} {Q : Bool → Shared → Prop} (R : Texts P w s.heap a M n) (room : n + 1 < scanBound)
    (q : ∀ b h', Heap.SameBut a s.heap h' → Texts P w h' a (fun y => M y ∨ y = x) (n + 1) → Q b { s with heap := h' }) : wpAny (model P w) A (setAddHashed a (.str x k) ((strKind P w).hash x)) Q E s := by
  obtain ⟨o, es, ep, t, ⟨ho, hx, hd⟩, ⟨el, hm⟩, ⟨hn, hf⟩, hr, hl⟩ := R
  have hk := strKind_is P w x k
  have hs : (Value.str x k).scannable = true := rfl
  unfold setAddHashed setAddHashedIn
  refine wpAny_holding (wpAny_bind (wpAny_setState_of ho hd hf ?_))
  dsimp only
  rw [byScan_of hs (Nat.lt_of_le_of_lt hn (Nat.lt_of_succ_lt room)) el, if_pos rfl]
  unfold setAddByScan
  refine wpAny_bind (wpAny_bind (wpAny_rule (wpAny_bind (wpAny_setScan_of hk ho hd hf el ?_))))
  cases c : List.findIdx? (fun e => (strKind P w).is x e.2) es.toList with
  | some j =>
    obtain ⟨lt, pj, _⟩ := List.findIdx?_eq_some_iff_getElem.mp c
    have mx : M x := (hm x).2 ⟨_, List.getElem_mem lt, pj⟩
    exact wpAny_pure (wpAny_pure (q _ s.heap (Heap.SameBut.refl a s.heap) ⟨o, es, ep, t, ⟨ho, hx, hd⟩, ⟨el, fun y => ⟨fun z => (hm y).1 (z.elim id fun e => e ▸ mx), fun z => .inl ((hm y).2 z)⟩⟩, ⟨Nat.le_succ_of_le hn, hf⟩, hr, hl⟩))
  | none =>
    dsimp only
    have p1 := layNew_perm t es ((strKind P w).hash x) (.str x k)
    have f1 := layNew_fits t es ((strKind P w).hash x) (.str x k)
    have r1 := layNew_ris t es ((strKind P w).hash x) (.str x k) hr
    have l1 := layNew_led t es ((strKind P w).hash x) (.str x k)
    generalize layNew t es ((strKind P w).hash x) (.str x k) = Z at p1 f1 r1 l1 ⊢
    obtain ⟨es1, t1, wd, gv⟩ := Z
    dsimp only at p1 f1 r1 l1 ⊢
    rw [Array.toList_push] at p1
    have el1 : ElemsOf (strKind P w) es1.toList := (el.push hk hs).perm p1
    have m1 : ∀ y, (M y ∨ y = x) ↔ ∃ e ∈ es1.toList, (strKind P w).is y e.2 = true := fun y => by
      constructor
      · rintro (z | z)
        · obtain ⟨e, he, z⟩ := (hm y).1 z
          exact ⟨e, p1.mem_iff.mpr (List.mem_append_left _ he), z⟩
        · exact ⟨_, p1.mem_iff.mpr (List.mem_append_right _ List.mem_cons_self), z ▸ hk⟩
      · rintro ⟨e, he, z⟩
        rcases List.mem_append.mp (p1.mem_iff.mp he) with h | h
        · exact .inl ((hm y).2 ⟨e, h, z⟩)
        · rw [List.mem_singleton] at h
          subst h
          exact .inr (key_of z)
    have z1 : es1.size ≤ n + 1 := by
      rw [← Array.length_toList, p1.length_eq, List.length_append, Array.length_toList, List.length_singleton]
      omega
    have b1 : es1.size < scanBound := Nat.lt_of_le_of_lt z1 room
    have hl1 : w.params.followText "set-order" = true ∨ t1.led = true := hl.imp id fun z => l1 ▸ z
    refine wpAny_bind (gave_at ?_)
    refine two_at ⟨_, hashByValue_scannable 8 hs⟩ fun b => ?_
    obtain ⟨t2, e2, f2, r2, l2⟩ : ∃ t2, (if b = true then t1 else { t1 with plain := false }) = t2 ∧ t2.fits es1.size = true ∧ Ris t2.place.toList ∧ (w.params.followText "set-order" = true ∨ t2.led = true) := by
      cases b
      · exact ⟨_, rfl, SetTable.fits_plain_off f1, r1, hl1⟩
      · exact ⟨_, rfl, f1, r1, hl1⟩
    rw [e2]
    refine wpAny_bind (put_at ho hx hd b1 el1 m1 z1 f2 r2 l2 fun h' o' sb ho' hx' hd' T => ?_)
    split
    · have p3 := relayAll_perm t2 es1 (SetTable.grown es1.size)
      have f3 := relayAll_fits t2 es1 (SetTable.grown es1.size)
      have r3 := relayAll_ris t2 es1 (SetTable.grown es1.size)
      have l3 := relayAll_led t2 es1 (SetTable.grown es1.size)
      generalize relayAll t2 es1 (SetTable.grown es1.size) = Z at p3 f3 r3 l3 ⊢
      obtain ⟨es3, t3, gv3⟩ := Z
      dsimp only at p3 f3 r3 l3 ⊢
      have z3 : es3.size = es1.size := by rw [← Array.length_toList, p3.length_eq, Array.length_toList]
      refine wpAny_bind (gave_at ?_)
      refine wpAny_bind (put_at (M := fun y => M y ∨ y = x) (n := n + 1) ho' hx' hd' (by omega) (el1.perm p3) (fun y => (m1 y).trans ⟨fun ⟨e, h, z⟩ => ⟨e, p3.mem_iff.mpr h, z⟩, fun ⟨e, h, z⟩ => ⟨e, p3.mem_iff.mp h, z⟩⟩) (by omega) f3 r3 (l2.imp id fun z => l3 ▸ z) fun h2 o2 sb2 _ _ _ T2 => ?_)
      exact wpAny_pure (wpAny_pure (q _ h2 (sb.trans sb2) T2))
    · exact wpAny_pure (wpAny_pure (q _ h' sb T))
theorem fill {I : Addr} {fp wr : List Addr} {G : Array GenState → Array GenState → Prop} {n : Nat} {Pv : Nat → Value → Prop} {St : Nat → Shared → Prop} {R : Result → Shared → Prop} (W : WalksS P w A.in1 I fp wr G n Pv St) (hS : a ∉ fp) (xs : List Str)
    (hn : n = xs.length) (hb : n + 1 < scanBound) (hv : ∀ i v, Pv i v → ∃ x t, xs[i]? = some x ∧ v = .str x t) (left : Nat) : ∀ (i : Nat) (s : Shared), i + left = n → St i s → Texts P w s.heap a (· ∈ xs.take i) i →
      (∀ s', Moved (a :: wr) G s s' → Texts P w s'.heap a (· ∈ xs) n → R (.ok (.ret .none)) s') → codeAny (model P w) A (.builtin "set.update.loop" ⟨[.ref a, .ref I], []⟩) R s := by
  have up : ∀ b ∈ wr, b ∈ a :: wr := fun b hb => List.mem_cons_of_mem _ hb
  have hw : a ∉ wr := fun z => hS (W.sub _ z)
  induction left with
  | zero =>
    intro i s e st T q
    have e : i = n := e
    subst e
    refine codeAny_builtin F.entry_set_update_loop ?_
    rw [Around.under_plainId F.plain_set_update_loop _]
    refine wpAny_bind (m := pyNext (.ref I)) (W.done s _ _ st fun s' mv => wpAny_pure (q s' (mv.mono up) ?_))
    rw [List.take_of_length_le (by omega)] at T
    exact T.at fun o z => mv.heap a o hw z
  | succ left ih =>
    intro i s e st T q
    refine codeAny_builtin F.entry_set_update_loop ?_
    rw [Around.under_plainId F.plain_set_update_loop _]
    refine wpAny_bind (m := pyNext (.ref I)) (W.item i s _ _ (by omega) st fun v s' hP st' mv => ?_)
    obtain ⟨x, t, ex, rfl⟩ := hv i v hP
    have T1 : Texts P w s'.heap a (· ∈ xs.take i) i := T.at fun o z => mv.heap a o hw z
    refine wpAny_bind (m := holding [Value.str x t] (setAdd a (.str x t))) (wpAny_holding ?_)
    unfold setAdd
    refine wpAny_holding (wpAny_bind ((strKind P w).pyHash (k := x) (strKind_is P w x t) ?_))
    refine add_at (s := { s' with toks := s'.toks + 1 }) T1 (by omega) fun b h' sb T2 => ?_
    have T3 : Texts P w h' a (· ∈ xs.take (i + 1)) (i + 1) := T2.iff fun y => by
      rw [List.take_add_one, ex, List.mem_append]
      simp
    refine wpAny_pure ⟨plainId_quiet F.plain_set_update_loop _, ih (i + 1) _ (by omega) (W.frame _ s' _ _ st' (Nat.le_succ _) fun b hb o z => ?_) T3 fun s2 mv2 T4 => ?_⟩
    · exact (sb.2 b (fun z => hS (z ▸ hb))).trans z
    · exact q s2 (Moved.trans W.gtrans ((mv.mono up).then_heap (Nat.le_succ _) fun b o hb z => (sb.2 b fun z => hb (z ▸ List.mem_cons_self)).trans z) mv2) T4
theorem made_at {h : Heap} (e : h.get? a = some { cls := .type "set", dict := none, data := .set #[] 0 (.fresh 0 0 (!w.params.followText "set-order")) }) : Texts P w h a (· ∈ ([] : List Str)) 0 := by
  refine ⟨_, #[], 0, _, ⟨e, ⟨rfl, rfl, rfl⟩, rfl⟩, ⟨fun e he => by simp at he, fun k => by simp⟩, ⟨Nat.le_refl _, rfl⟩, List.Pairwise.nil, ?_⟩
  show _ ∨ (!w.params.followText "set-order") = true
  cases w.params.followText "set-order"
  · exact .inr rfl
  · exact .inl rfl
/-- the set object that set(..) begins with -/
def bare (w : World) : Obj := { cls := .type "set", dict := none, data := .set #[] 0 (.fresh 0 0 (!w.params.followText "set-order")) }
theorem call_by {x : Value} {Q : Value → Shared → Prop} (hnext : ∀ s₁, s₁ = { s with heap := s.heap.push (bare w) } → 
      wpAny (model P w) A.in1.in1 (Builtin.«set.__init__» ⟨[.ref s.heap.objs.size, x], []⟩)
        (fun fin s' => match fin with | .done f => wants (fun r s₂ => r = .none ∧ Q (.ref s.heap.objs.size) s₂) E (.ok f) s' | .again c' => c'.quiet = true ∧ codeAny (model P w) A.in1 c' (wants (fun r s₂ => r = .none ∧ Q (.ref s.heap.objs.size) s₂) E) s')
        (fun e s' => wants (fun r s₂ => r = .none ∧ Q (.ref s.heap.objs.size) s₂) E (.error e) s') s₁) : wpAny (model P w) A (call (.type "set") [x]) Q E s := by
  obtain ⟨c, tl, hmro⟩ := F.called_set.mro
  have hmade := F.called_set.made
  have hsub := F.called_set.sub
  refine wpAny_call (codeAny_of_tree ?_)
  show wpAny _ _ (callAny (.type "set") _) _ _ _
  refine wpAny_pure ⟨Code.quiet_builtin _ (by decide +kernel), codeAny_builtin F.entry_type_call ?_⟩
  rw [Around.under_plain (weight_type_call_type "set" [x] []) rfl]
  have h1 := F.called_set.notType
  have h2 := F.called_set.canCreate
  have hct := F.typeCall_set_1 x
  repeat (any_goals (first | assumption | wp_step))
  refine codeAny_mono (code_set_led1 x (E := E) (Q₁ := fun obj s₁ => obj = .ref s.heap.objs.size ∧ s₁ = { s with heap := s.heap.push (bare w) }) ⟨rfl, rfl⟩) fun r s₁ hr => ?_
  match r, hr with
  | .error e, hr => exact hr
  | .ok (.ret obj), hr =>
    obtain ⟨rfl, e1⟩ := hr
    have hT : s₁.TypeIs (.ref s.heap.objs.size) "set" := by
      rw [e1]
      exact ⟨_, Heap.get?_push_size _ rfl, rfl⟩
    have hli := F.called_set.init.lookup
    have hbi := F.called_set.init.bind (.ref s.heap.objs.size)
    repeat (any_goals (first | assumption | wp_step))
    refine codeAny_mono (codeAny_call_builtin F.called_set.init.plain F.entry_set_init (check_set_init_1 hT (hnext s₁ e1))) fun r₂ s₂ hr₂ => ?_
    match r₂, hr₂ with
    | .error e, hr₂ => exact hr₂
    | .ok (.ret v), hr₂ =>
      obtain ⟨rfl, hq⟩ := hr₂
      repeat (any_goals (first | assumption | wp_step))
theorem strs_ix : ∀ {us : List Value} {xs : List Str}, StrsAre us xs → ∀ (i : Nat) (v : Value), us[i]? = some v → ∃ x t, xs[i]? = some x ∧ v = Value.str x t
  | _, _, .nil, i, v, h => by cases h
  | _, _, .cons x t _, 0, v, h => by cases h; exact ⟨x, t, rfl, rfl⟩
  | _, _, .cons x t r, i + 1, v, h => strs_ix r i v h
theorem strs_mem : ∀ {us : List Value} {xs : List Str}, StrsAre us xs → ∀ y, y ∈ xs ↔ ∃ t, Value.str y t ∈ us
  | _, _, .nil, y => by simp
  | _, _, .cons x t r, y => by
    rw [List.mem_cons, strs_mem r y]
    constructor
    · rintro (rfl | ⟨k, h⟩)
      · exact ⟨t, List.mem_cons_self⟩
      · exact ⟨k, List.mem_cons_of_mem _ h⟩
    · rintro ⟨k, h⟩
      rcases List.mem_cons.mp h with z | z
      · cases z; exact .inl rfl
      · exact .inr ⟨k, z⟩
theorem call_set {l : Addr} {items : Array Value} {xs : List Str} {Q : Value → Shared → Prop} (hh : A.handled = none) (hl : s.heap.IsTuple l items) (hi : StrsAre items.toList xs) (hb : xs.length + 1 < scanBound)
    (q : ∀ (h' : Heap) (tk : Nat), Texts P w h' s.heap.objs.size (· ∈ xs) xs.length → (∀ b o, s.heap.get? b = some o → h'.get? b = some o) → Q (.ref s.heap.objs.size) { s with heap := h', toks := tk }) :
    wpAny (model P w) A (call (.type "set") [.ref l]) Q E s := by
  refine call_by fun s₁ e₁ => ?_
  subst e₁
  obtain ⟨⟨ocls, od, odt, osl⟩, hol, hcl, nl, hdl⟩ := hl
  simp only at hcl hdl
  subst hcl hdl
  have hS : (s.heap.push (bare w)).get? s.heap.objs.size = some (bare w) := Heap.get?_push_size _ rfl
  have hT : Shared.TypeIs { s with heap := s.heap.push (bare w) } (.ref s.heap.objs.size) "set" := ⟨_, hS, rfl⟩
  have hol' : (s.heap.push (bare w)).get? l = some { cls := .type "tuple", dict := od, data := .seq items nl, slots := osl } := Heap.get?_push_of_some _ hol
  have hsls := F.sub_tuple_set
  have hslf := F.sub_tuple_frozenset
  have hne : (Value.type "tuple" == Value.type "dict") = false := by decide
  have hl1 : (s.heap.push (bare w)).IsTuple l items := ⟨_, hol', rfl, nl, rfl⟩
  have hlS : l < s.heap.objs.size := Heap.lt_size hol
  have hz : (s.heap.push (bare w)).objs.size = s.heap.objs.size + 1 := Heap.size_push ..
  unfold bare at *
  unfold Builtin.«set.__init__» noKeywords Builtin.Frozenset.updateFrom
  generalize hPI : pyIter = PI
  wp_walk
  subst hPI
  refine wpAny_pyIter_tuple hl1 (wpAny_bind (wpAny_runValue ?_))
  have hh3 : A.in1.in1.in1.handled = none := by simp [hh]
  have sz : items.size = xs.length := by rw [← StrsAre.len_eq hi, Array.length_toList]
  have hv : ∀ (i : Nat) (v : Value), items[i]? = some v → ∃ x t, xs[i]? = some x ∧ v = .str x t := fun i v hv => strs_ix hi i v (by rw [Array.getElem?_toList]; exact hv)
  have ne1 : l ≠ s.heap.objs.size + 1 := Nat.ne_of_lt (Nat.lt_succ_of_lt hlS)
  have ne2 : s.heap.objs.size ≠ s.heap.objs.size + 1 := Nat.ne_of_lt (Nat.lt_succ_self _)
  have ne3 : s.heap.objs.size ≠ l := Nat.ne_of_gt hlS
  refine fill ((Walks.tuple hh3 _ l (by rw [hz]; exact ne1) items).toS) ?_ xs sz (by omega) hv items.size 0 _ (Nat.zero_add _) ⟨⟨_, Heap.get?_push_size _ rfl, rfl, rfl⟩, (hl1.push _)⟩ (made_at (Heap.get?_push_of_some _ hS)) fun s' mv T => ?_
  · rw [hz]
    simp only [List.mem_cons, List.not_mem_nil, or_false, not_or]
    exact ⟨ne2, ne3⟩
  obtain ⟨h', g2, d', tk', os'⟩ := s'
  have eg : g2 = s.gens := mv.gens
  have ed : d' = s.drawn := mv.drawn
  have eo : os' = s.os := mv.os
  subst eg ed eo
  rw [sz] at T
  refine wpAny_pure (show wpAny _ _ (ret Value.none) _ _ _ from wpAny_pure ⟨rfl, q h' tk' T fun b o e => ?_⟩)
  have lt : b < s.heap.objs.size := Heap.lt_size e
  refine mv.heap b o ?_ (Heap.get?_push_of_some _ (Heap.get?_push_of_some _ e))
  rw [hz]
  simp only [List.mem_cons, List.not_mem_nil, or_false, not_or]
  exact ⟨Nat.ne_of_lt lt, Nat.ne_of_lt (Nat.lt_succ_of_lt lt)⟩
/-- sorted(set) -/
theorem sorted_by {M : Str → Prop} {n : Nat} {Q : Value → Shared → Prop} (R : Texts P w s.heap a M n) (hh : A.handled = none) (h64 : n < 64)
    (q : ∀ s' p (out : List Value) (c : Nat) (ys : List Str), (∀ b o, s.heap.get? b = some o → s'.heap.get? b = some o) → s'.gens = s.gens → s'.os = s.os → s.heap.objs.size ≤ p →
      s'.heap.get? p = some (seqObj "list" out.toArray c) → StrsAre out ys → (∀ y, y ∈ ys ↔ M y) → ys.length ≤ n → Q (.ref p) s') : wpAny (model P w) A (call (.builtin "sorted") [.ref a]) Q E s := by
  obtain ⟨o, es, ep, t, ⟨ho, hx, hd⟩, ⟨el, hm⟩, ⟨hn, hf⟩, hr, hl⟩ := R
  have hb : es.size < scanBound := Nat.lt_of_le_of_lt hn (Nat.lt_trans h64 (by decide))
  refine Calls.call_function_entry kind_sorted plain_sorted entry_sorted (args_sorted1 _) ?_
  unfold Builtin.«sorted»
  refine wpAny_bind (m := checkCount "sorted" 1 1 _) (wpAny_pure ?_)
  refine wpAny_bind (collect_set (A := A.in1) hh ⟨o, ho, hx.1, hd⟩ hf hb hr hl fun s1 vs k1 hz g1 o1 pm => ?_)
  have lv : vs.length ≤ n := by rw [pm.length_eq, List.length_map, Array.length_toList]; exact hn
  have iv : ∀ v ∈ vs, ∃ x k, v = Value.str x k := fun v hv => by
    obtain ⟨e, he, z⟩ := List.mem_map.mp (pm.mem_iff.mp hv)
    obtain ⟨⟨x, hk, _⟩, _⟩ := el e he
    obtain ⟨k, ek⟩ := Value.isStrOf_shape (x := x) (v := e.2) hk
    exact ⟨x, k, z ▸ ek⟩
  obtain ⟨xs, hS⟩ : ∃ xs, StrsAre vs xs := by
    clear pm lv
    induction vs with
    | nil => exact ⟨[], .nil⟩
    | cons v r ih =>
      obtain ⟨x, k, rfl⟩ := iv v List.mem_cons_self
      obtain ⟨xs, h⟩ := ih fun v hv => iv v (List.mem_cons_of_mem _ hv)
      exact ⟨x :: xs, .cons x k h⟩
  refine wpAny_bind (wpAny_newList ?_ (by rw [sizeLine_eq]; omega))
  have hoL : (s1.heap.push (seqObj "list" vs.toArray 0)).get? s1.heap.objs.size = some (seqObj "list" vs.toArray 0) := Heap.get?_push_size _ rfl
  refine wpAny_bind (wpAny_holding (wpAny_call_entry slot_list_sort ⟨_, hoL, rfl⟩ entry_list_sort
    (list_sort_treeK strKind_oneLt (s := { s1 with heap := s1.heap.push (seqObj "list" vs.toArray 0) }) hoL hS.keysOf (fun v₁ v₂ rest e => keyKind_strs (by rw [← e]; exact hS)) (by omega) fun st' hp hs => ⟨_, rfl, ?_⟩)
    (args_list_sort _)))
  obtain ⟨ys, b1, b2, b3⟩ := sorted_out_str hS hp hs
  obtain ⟨c, hc⟩ := sortedHeap_at (vs := vs) (out := (arrOf st').map (·.2)) hoL
  refine wpAny_pure ⟨_, rfl, q _ s1.heap.objs.size _ c ys (fun b u e => ?_) g1 o1 hz (by rw [Array.toArray_toList]; exact hc) b1 (fun y => ?_) (by rw [b2.length_eq, ← hS.length]; exact lv)⟩
  · have z := k1 b u e
    have lt := Heap.lt_size z
    show (sortedHeap (s1.heap.push (seqObj "list" vs.toArray 0)) s1.heap.objs.size vs _).get? b = some u
    rw [sortedHeap_old (Nat.ne_of_lt lt) (by rw [size_push']; exact Nat.lt_succ_of_lt lt)]
    exact Heap.get?_push_of_some _ z
  · rw [b2.mem_iff, strs_mem hS y, hm y]
    constructor
    · rintro ⟨k, h⟩
      obtain ⟨e, he, z⟩ := List.mem_map.mp (pm.mem_iff.mp h)
      exact ⟨e, he, by rw [z]; exact strKind_is P w y k⟩
    · rintro ⟨e, he, z⟩
      obtain ⟨k, ek⟩ := Value.isStrOf_shape (x := y) (v := e.2) z
      exact ⟨k, ek ▸ pm.mem_iff.mpr (List.mem_map_of_mem (f := fun e : Int × Value => e.2) he)⟩
end
def tSortSetS (K : PySem.W.Frag) (te : TE) : TE := fun σ H Q => te σ H fun x H1 => ∃ (l : Addr) (xs : List Str), x = .ref l ∧ SqT K H1 l (xs.map V.str) ∧ xs.length < 64 ∧
  ∀ (ys : List Str) (p : Addr), (∀ y, y ∈ ys ↔ y ∈ xs) → ys.length ≤ xs.length → H1 p = none → Q (.ref p) (upd H1 p (.lst (ys.map V.str)))
theorem g_sortSetS {K : PySem.W.Frag} {σ : L2.St} {H : Hp} {te : TE} {Q : VK} (q : te σ H fun x H1 => ∃ (l : Addr) (xs : List Str), x = .ref l ∧ SqT K H1 l (xs.map V.str) ∧ xs.length < 64 ∧
  ∀ (ys : List Str) (p : Addr), (∀ y, y ∈ ys ↔ y ∈ xs) → ys.length ≤ xs.length → H1 p = none → Q (.ref p) (upd H1 p (.lst (ys.map V.str)))) : tSortSetS K te σ H Q := q
section
variable {X : Cx} {K : PySem.W.Frag} {e : Expr} {te : TE} {p1 p2 c1 c2 : Pos}
theorem pe_sortSetS (hK : X.K = K) (hc : X.calm = true) (he : PE X e te) (hg : Gl X "sorted") (hm : X.mg "sorted" = none) (hg2 : Gl X "set") (hm2 : X.mg "set" = none)
    (ns : starEach [e] X.env = (false, eval e X.env) :: starEach [] X.env := by rfl) : PE X (.Call (.Name "sorted" p1) [.Call (.Name "set" p2) [e] [] c2] [] c1) (tSortSetS K te) := by
  subst hK
  refine ⟨fun pins s σ H Q I h => ?_⟩
  refine Call_ (ld_blt I hg hm boot_sorted ?_)
  refine PyProof.Rows.callWith_builtin1 (PyProof.Rows.args_cons ?_ rfl) rfl rfl
  refine Call_ (ld_blt I hg2 hm2 boot_set ?_)
  refine PyProof.Rows.callWith_type1 (PyProof.Rows.args_cons (thn (he.run pins s σ H _ I h) fun v s1 ⟨x, H1, I1, r1, l, xs, ex, hq, h64, q⟩ => PyProof.Rows.args_nil ?_) ns) ns rfl
  subst ex
  cases r1
  obtain ⟨its, r, pl, hz⟩ := I1.tuple hq
  refine call_set (I1.ok.hd hc) pl (strsAre_of r) (Nat.lt_of_lt_of_le (Nat.succ_lt_succ h64) (by decide)) fun h' tk T kp => ?_
  have I2 : Inv X pins σ H1 { s1 with heap := h', toks := tk } := I1.kept kp
  refine PyProof.Rows.args_nil ?_
  have T : Texts X.prog X.w ({ s1 with heap := h', toks := tk } : Shared).heap s1.heap.objs.size (· ∈ xs) xs.length := T
  generalize ({ s1 with heap := h', toks := tk } : Shared) = s3 at T I2 ⊢
  refine sorted_by (s := s3) T (I1.ok.hd hc) h64 fun s' p out c ys k2 g2 o2 hp ho hS hy hl => ?_
  have lz : (ys.map V.str).length ≤ sizeLine := by rw [List.length_map, sizeLine_eq]; omega
  have hn : H1 p = none := I2.hok.fresh hp
  have J : Inv X pins σ (upd H1 p (.lst (ys.map V.str))) { s3 with heap := s'.heap, gens := s'.gens, drawn := s'.drawn, toks := s'.toks } :=
    I2.call (ch := []) (Un.laid k2 hp hn) (I2.hok.laid k2 hp ⟨lz, out, c, vals_of_strs hS, ho⟩) (by rw [g2]; exact I2.bare) (fun _ z => nomatch z)
  have es : s' = { s3 with heap := s'.heap, gens := s'.gens, drawn := s'.drawn, toks := s'.toks } := by
    cases s'
    cases s3
    cases o2
    rfl
  rw [es]
  exact ⟨.ref p, _, J, rfl, q ys p hy hl hn⟩
end
end SU
namespace E1
open PySem PySem.Spec PyProof.Rows L2
/-! ### enumerate(list, start=1) -/
def Ite1 (K : PySem.W.Frag) (a : Addr) : It :=
  ⟨fun i H => ∃ (xs : List V) (x : V), SqL K H a xs ∧ xs[i]? = some x, fun i H v H' => ∃ T x, v = .ref T ∧ H T = none ∧ H' = upd H T (.tup [.int ((i : Nat) + 1 : Int), x]) ∧ ∀ xs, SqL K H a xs → xs[i]? = some x, fun i H => ∃ xs : List V, SqL K H a xs ∧ xs.length = i⟩
theorem turn_enum1 {P : Program} {w : World} {K : PySem.W.Frag} {elts : List Expr} {kk : Nat} {tpos : Pos} (a e it : Addr) :
    Turn P w K (.Tuple elts kk tpos) (Ite1 K a) [e, it] e (fun i h => (∃ old, IsEnum h e it ((i : Nat) + 1 : Int) old) ∧ h.IsListIter it a i ∧ e ≠ it ∧ a ≠ it ∧ a ≠ e) where
  mem := List.mem_cons_self
  obj := by
    intro i h st b hb
    obtain ⟨⟨old, he⟩, ⟨o, ho, hc, hd⟩, _⟩ := st
    rcases List.mem_cons.mp hb with z | hb
    · subst z; exact ⟨_, he, fun v q => nomatch q⟩
    · rw [List.mem_singleton] at hb
      subst hb; exact ⟨o, ho, fun v q => by rw [hd] at q; cases q⟩
  keep := by
    intro i h h' st k
    obtain ⟨⟨old, he⟩, hi, hne⟩ := st
    exact ⟨⟨old, k e List.mem_cons_self _ he⟩, hi.at fun o q => k it (List.mem_cons_of_mem _ List.mem_cons_self) o q, hne⟩
  item := by
    intro X hP hw hK hc i pins s σ H E I hf st hg
    subst hP hw hK
    obtain ⟨⟨old, he⟩, hit, hne, hai, hae⟩ := st
    obtain ⟨xs, x, hq, hx⟩ := hg
    obtain ⟨its, rv, p, hz⟩ := I.list hq
    obtain ⟨u, hu, ru⟩ := rv.get hx
    have hel : e < s.heap.objs.size := Heap.lt_size he
    have hil : it < s.heap.objs.size := by obtain ⟨_, q, _⟩ := hit; exact Heap.lt_size q
    have ilt : i < its.toArray.size := by
      obtain ⟨z, _⟩ := List.getElem?_eq_some_iff.mp hu
      simpa using z
    refine wpAny_pyNext_enum_itemC (A := X.A) (Draws.list (A := X.A.in1) (I.ok.hd hc) it a hai its.toArray) he ⟨hit, p.isList⟩ ilt hne (by simp [hne, Ne.symm hae]) fun v h' tk ev ho hst hT hsz hk => ?_
    obtain rfl : v = u := by
      have e2 : its.toArray[i]? = some u := by simpa using hu
      rw [e2] at ev; cases ev; rfl
    refine ⟨_, rfl, wpAny_letOwnedTupleGo_enum (s := { s with heap := h', toks := tk + 1 }) ho fun h'' he' sb => ?_⟩
    have hT2 : h''.get? s.heap.objs.size = some { cls := .type "tuple", data := .seq #[.int ((i : Nat) + 1 : Int) tk, v] } := (sb.2 _ (Nat.ne_of_gt hel)).trans hT
    have new : ObjOk X.prog X.w (upd H s.heap.objs.size (.tup [.int ((i : Nat) + 1 : Int), x])) h'' s.heap.objs.size (.tup [.int ((i : Nat) + 1 : Int), x]) :=
      ⟨by show 2 ≤ sizeLine; decide, [.int ((i : Nat) + 1 : Int) tk, v], .cons ⟨_, rfl⟩ (.cons ru .nil), ⟨_, hT2, rfl, _, rfl⟩⟩
    have I1 : Inv X pins σ (upd H s.heap.objs.size (.tup [.int ((i : Nat) + 1 : Int), x])) { s with heap := h'', toks := tk + 1 } :=
      I.turnedNew (t' := tk + 1) (ch := [e, it]) (fun b ob hb q => (sb.2 b (fun z => hb (by simp [z]))).trans (hk b ob (fun z => hb (by simp [z])) (fun z => hb (by simp [z])) q)) hf (Nat.le_refl _) new
    refine ⟨.ref s.heap.objs.size, _, I1, rfl, ⟨_, x, rfl, I.hok.fresh (Nat.le_refl _), rfl, fun ys hy => by rw [I.list_inj hy hq]; exact hx⟩, ⟨⟨v, ?_⟩, hst.1.at fun o q => (sb.2 it (Ne.symm hne)).trans q, hne, hai, hae⟩, fun b hb => ?_⟩
    · have e1 : ((i + 1 : Nat) : Int) + 1 = (i : Int) + 1 + 1 := by omega
      rw [e1]; exact he'
    · have hb' : b < s.heap.objs.size := by
        rcases List.mem_cons.mp hb with z | hb
        · rw [z]; exact hel
        · rw [List.mem_singleton] at hb
          rw [hb]; exact hil
      rw [upd_ne (Nat.ne_of_lt hb')]
      exact (hf b hb).1
  done := by
    intro X hP hw hK hc i pins s σ H E I hf st hg
    subst hP hw hK
    obtain ⟨⟨old, he⟩, hit, hne, hai, hae⟩ := st
    obtain ⟨xs, hq, hx⟩ := hg
    obtain ⟨its, rv, p, hz⟩ := I.list hq
    obtain ⟨f0, f1, f2, f3, f4, f5⟩ := hf it (List.mem_cons_of_mem _ List.mem_cons_self)
    have hl := rv.length
    have z : i = its.toArray.size := by simp; omega
    rw [z] at hit
    exact wpAny_pyNext_enum_endD (A := X.A) (Draws.list (A := X.A.in1) (I.ok.hd hc) it a hai its.toArray) he ⟨hit, p.isList⟩ fun h' eb => ⟨rfl, I.turned (t' := s.toks) (fun b o hb q => eb b o hb q) f0 f1 f3 f4 f5⟩
  self := fun A i s Q E st h => by
    obtain ⟨⟨_, he⟩, _⟩ := st
    exact wpAny_pyIter_enum he h
def iEnum1 (K : PySem.W.Frag) (ta : TA) : TI := fun σ H R => ta σ H fun vs H1 => ∃ a xs, vs = [.ref a] ∧ SqL K H1 a xs ∧ R (Ite1 K a) H1
theorem pi_enum1 {X : Cx} {K : PySem.W.Frag} {e : Expr} {ta : TA} {p pos tpos cp kp : Pos} {j : Nat} {elts : List Expr} {kk : Nat} (hK : X.K = K) (hg : Gl X "enumerate") (hm : X.mg "enumerate" = none) (ha : PA X [e] ta) (hs : starEach (e :: []) X.env = (false, eval e X.env) :: starEach [] X.env := by rfl)
    (hall : (backToKw pos (keywordEach [⟨some ("start" : Str), .Constant (.int 1) j cp, kp⟩] X.env)).all (·.1.isSome) = true := by rfl) (hks : (backToKw pos (keywordEach [⟨some ("start" : Str), .Constant (.int 1) j cp, kp⟩] X.env)).filterMap (·.1) = [("start" : Str)] := by rfl)
    (hpl : ((backTo pos (starEach (e :: []) X.env)).any (·.1) || (backToKw pos (keywordEach [⟨some ("start" : Str), .Constant (.int 1) j cp, kp⟩] X.env)).any (·.1.isNone)) = false := by rfl) :
    PI X (.Tuple elts kk tpos) (.Call (.Name "enumerate" p) [e] [⟨some ("start" : Str), .Constant (.int 1) j cp, kp⟩] pos) (iEnum1 K ta) := by
  subst hK
  constructor
  intro pins s σ H R I h
  refine wpAny_Call_Name_kw (ld_blt I hg hm boot_enumerate ?_ (by decide) (by decide))
  refine PySem.W.callWith_of (P := fun _ => True) hpl (fun h _ => ⟨Keeper.machine, Or.inr (Or.inl rfl), PySem.W.Looks.of_pure rfl⟩) (PyProof.Rows.evalArgs_kw2 hall (thn (ha.run pos pins s σ H _ I h) fun us s1 hh => ?_) hs)
  obtain ⟨vs, H1, I1, r1, a, xs, ex, hq, q⟩ := hh
  have kw : PK X [⟨some ("start" : Str), .Constant (.int 1) j cp, kp⟩] (tCons (tC (.int 1)) tNil) := pk_cons pe_int pk_nil
  refine thn (kw.run pos pins s1 σ H1 (fun zs H2 => zs = [.int 1] ∧ H2 = H1) I1 ⟨rfl, rfl⟩) fun ws s2 hw => ⟨trivial, ?_⟩
  obtain ⟨zs, H2, I2, rz, rfl, rfl⟩ := hw
  obtain ⟨w1, rfl, rw1⟩ := rz.one
  obtain ⟨t, rfl⟩ := (show ∃ t, w1 = Value.int 1 t from rw1)
  subst ex
  obtain ⟨u, rfl, ru⟩ := r1.one
  cases (show u = Value.ref a from ru)
  obtain ⟨its, rv, p', hz⟩ := I2.list hq
  have la : a < s2.heap.objs.size := p'.lt
  rw [hks]
  show wpAny _ _ (call (.type "enumerate") [.ref a] [(Str.ofString "start", .int 1 t)]) _ _ _
  refine enum_begins_start (begins_list a its.toArray) p'.isList (by decide) (by decide) fun h' he hit hsz hk => wpAny_pyIter_enum he ?_
  have I3 : Inv X pins σ H2 { s2 with heap := h' } := I2.kept (t' := s2.toks) hk
  refine ⟨s2.heap.objs.size + 1, [s2.heap.objs.size + 1, s2.heap.objs.size], _, _, H2, rfl, I3, turn_enum1 a (s2.heap.objs.size + 1) s2.heap.objs.size, ⟨⟨.none, he⟩, ⟨_, hit, rfl, rfl⟩, Nat.succ_ne_self _, Nat.ne_of_lt la, Nat.ne_of_lt (Nat.lt_succ_of_lt la)⟩, fun b hb => ?_, q⟩
  have hle : s2.heap.objs.size ≤ b := by
    rcases List.mem_cons.mp hb with z | hb
    · rw [z]; exact Nat.le_add_right _ _
    · rw [List.mem_singleton] at hb
      rw [hb]; exact Nat.le_refl _
  exact I2.fpOk hle (I2.hok.fresh hle)
theorem walk_enum1 {K : PySem.W.Frag} {a : Addr} {xs : List V} : Walk (Ite1 K a) xs.length (fun H => SqL K H a xs) (YPair (fun i => some (.int ((i : Nat) + 1 : Int))) (fun i => xs[i]?)) := by
  refine ⟨fun i _ hi q => ⟨xs, xs[i], q, List.getElem?_eq_getElem hi⟩, fun _ q => ⟨xs, q, rfl⟩, fun i H v H' _ q y => ?_⟩
  obtain ⟨T, x, h1, h2, h3, h4⟩ := y
  exact ⟨T, .int ((i : Nat) + 1 : Int), x, h1, h2, h3, rfl, h4 xs q⟩
theorem g_iEnum1 {K : PySem.W.Frag} {σ : L2.St} {H : Hp} {ta : TA} {R : It → Hp → Prop} (q : ta σ H fun vs H1 => ∃ a xs, vs = [.ref a] ∧ SqL K H1 a xs ∧ R (Ite1 K a) H1) : iEnum1 K ta σ H R := q
end E1
namespace M
open PySem L2
/-- a scale, with the dicts that it owns -/
def ScaleX (CL CT : Addr) (H : Hp) (v : V) (c : Str × Bool) (ks : List Knd) (g : List Addr) : Prop :=
  if c.2 = true then ∃ a dx u l, v = .ref a ∧ TreeX CT H a dx u l ks ∧ g = [u, l] else ∃ a dx, v = .ref a ∧ H a = some (.ins CL dx []) ∧ g = []
theorem ScaleX.at {CL CT : Addr} {H : Hp} {v : V} {c : Str × Bool} {ks : List Knd} {g : List Addr} (h : ScaleX CL CT H v c ks g) : ScaleAt CL CT H v c ks := by
  unfold ScaleX at h
  unfold ScaleAt
  split at h
  · rename_i e
    rw [if_pos e]
    obtain ⟨a, dx, u, l, rfl, t, _⟩ := h
    exact ⟨a, dx, u, l, rfl, t⟩
  · rename_i e
    rw [if_neg e]
    obtain ⟨a, dx, rfl, t, _⟩ := h
    exact ⟨a, dx, rfl, t⟩
abbrev Col := (Str × Bool) × List Addr
abbrev flatG (gs : List Col) : List Addr := gs.flatMap (·.2)
def SclX (CL CT : Addr) (H : Hp) (kvs : List (Key × V)) (gs : List Col) (ks : List Knd) : Prop :=
  Paired (fun kv (g : Col) => kv.1 = Sum.inr g.1.1 ∧ ScaleX CL CT H kv.2 g.1 (ksOf ks g.1.1) g.2) kvs gs
theorem SclX.at {CL CT : Addr} {H : Hp} {ks : List Knd} : ∀ {kvs : List (Key × V)} {gs : List Col}, SclX CL CT H kvs gs ks → ScalesAt CL CT H kvs (gs.map (·.1)) ks
  | _, _, .nil => .nil
  | _, _, .cons h r => .cons ⟨h.1, h.2.at⟩ (SclX.at r)
def numD : Nat → List (Str × List V) → List (Key × V)
  | _, [] => []
  | i, p :: r => (Sum.inr p.1, V.int i) :: numD (i + 1) r
def draftF (lc lk lp ds dn : Addr) : List (Str × V) := [("columns", .ref lc), ("kinds", .ref lk), ("persons", .ref lp), ("scales", .ref ds), ("numbers", .ref dn)]
structure DraftX (CL CT CD : Addr) (H : Hp) (a dx lc lk lp ds dn : Addr) (gs : List Col) (ks : List Knd) (ps : List (Str × List V)) : Prop where
  hi : H a = some (.ins CD dx (draftF lc lk lp ds dn))
  hc : ∃ cv, H lc = some (.lst cv) ∧ TupL H cv (gs.map fun g => colV g.1)
  hk : ∃ kv, H lk = some (.lst kv) ∧ TupL H kv (ks.map kindV)
  hp : ∃ pv, H lp = some (.lst pv) ∧ PerL H pv ps
  hs : ∃ kvs, H ds = some (.dK kvs) ∧ SclX CL CT H kvs gs ks
  hn : H dn = some (.dK (numD 0 ps))
  ne1 : lc ≠ lk
  ne2 : lc ≠ lp
  ne3 : lk ≠ lp
  nd : (ds :: dn :: flatG gs).Nodup
theorem fld_look {f g : Str} (h : (f == g) = false) {v : V} {r : List (Str × V)} {o : Option V} (q : r.lookup f = o) : ((g, v) :: r).lookup f = o := (lk_nxt h).trans q
theorem dr_columns (lc lk lp ds dn : Addr) : (draftF lc lk lp ds dn).lookup ("columns" : Str) = some (.ref lc) := lk_fst
theorem dr_kinds (lc lk lp ds dn : Addr) : (draftF lc lk lp ds dn).lookup ("kinds" : Str) = some (.ref lk) := fld_look (by decide +kernel) lk_fst
theorem dr_persons (lc lk lp ds dn : Addr) : (draftF lc lk lp ds dn).lookup ("persons" : Str) = some (.ref lp) := fld_look (by decide +kernel) (fld_look (by decide +kernel) lk_fst)
theorem dr_scales (lc lk lp ds dn : Addr) : (draftF lc lk lp ds dn).lookup ("scales" : Str) = some (.ref ds) := fld_look (by decide +kernel) (fld_look (by decide +kernel) (fld_look (by decide +kernel) lk_fst))
theorem dr_numbers (lc lk lp ds dn : Addr) : (draftF lc lk lp ds dn).lookup ("numbers" : Str) = some (.ref dn) := fld_look (by decide +kernel) (fld_look (by decide +kernel) (fld_look (by decide +kernel) (fld_look (by decide +kernel) lk_fst)))
theorem dr_no {f : Str} (h : [("columns" : Str), "kinds", "persons", "scales", "numbers"].contains f = false) (lc lk lp ds dn : Addr) : (draftF lc lk lp ds dn).lookup f = none := by
  have e : ∀ g ∈ [("columns" : Str), "kinds", "persons", "scales", "numbers"], (f == g) = false := fun g hg => by
    cases e : f == g with
    | false => rfl
    | true =>
      have q := eq_of_beq e
      subst q
      have : [("columns" : Str), "kinds", "persons", "scales", "numbers"].contains f = true := List.contains_iff_mem.mpr hg
      rw [h] at this
      cases this
  refine fld_look (e _ (by simp)) (fld_look (e _ (by simp)) (fld_look (e _ (by simp)) (fld_look (e _ (by simp)) (fld_look (e _ (by simp)) rfl))))
/-- no column of kinds lacks kinds -/
def bareOf (gs : List Col) (ks : List Knd) : List Col := gs.filter fun g => g.1.2 && (ksOf ks g.1.1).isEmpty
end M
namespace M
open PySem L2
section
variable {K : PySem.W.Frag} {σ : L2.St} {H : Hp} {D : Ends} {a C dx : Addr} {fs : List (Str × V)} {f : Str}
theorem g_newL (hσ : σ[0]? = some (some (.ref a))) (ha : H a = some (.ins C dx fs)) (c : Cls K C) (n : NoAttr K C f) (hl : fs.length < 1000)
    (q : ∀ p H', H p = none → H' p = some (.lst []) → H' a = some (.ins C dx (putF f (.ref p) fs)) → (∀ c o, c ≠ a → H c = some o → H' c = some o) → D.nx σ H') : sFld K (tVar 0) (tLst tNil) f D σ H := by
  refine g_sfld (U.g_lst (U.g_nil ⟨Nat.zero_le _, fun p np => ?_⟩))
  refine U.g_var hσ ?_
  have ap := ne_of_none ha np
  refine ⟨a, C, dx, fs, rfl, (upd_ne ap).trans ha, c, n, hl, q p _ np ((upd_ne (Ne.symm ap)).trans upd_same) upd_same fun b o hb e => ?_⟩
  rw [upd_ne hb, upd_ne (ne_of_none e np)]
  exact e
theorem g_newD (hσ : σ[0]? = some (some (.ref a))) (ha : H a = some (.ins C dx fs)) (c : Cls K C) (n : NoAttr K C f) (hl : fs.length < 1000)
    (q : ∀ p H', H p = none → H' p = some (.dK []) → H' a = some (.ins C dx (putF f (.ref p) fs)) → (∀ c o, c ≠ a → H c = some o → H' c = some o) → D.nx σ H') : sFld K (tVar 0) tDNewK f D σ H := by
  refine g_sfld (U.g_dnewK fun p np => ?_)
  refine U.g_var hσ ?_
  have ap := ne_of_none ha np
  refine ⟨a, C, dx, fs, rfl, (upd_ne ap).trans ha, c, n, hl, q p _ np ((upd_ne (Ne.symm ap)).trans upd_same) upd_same fun b o hb e => ?_⟩
  rw [upd_ne hb, upd_ne (ne_of_none e np)]
  exact e
end
theorem putF_skip {f g : Str} {v x : V} {r : List (Str × V)} (h : ¬ g = f) : putF f v ((g, x) :: r) = (g, x) :: putF f v r := by
  show (if g = f then _ else _) = _
  rw [if_neg h]
end M
namespace M
open PySem L2
theorem bare_nil {α γ : Type} (gs : List α) (b : α → Bool) (f : Nat → Option γ) (hf : ∀ i g, gs[i]? = some g → (f i).isSome = b g) : decide (((List.range gs.length).filterMap f).length = 0) = (gs.filter b).isEmpty := by
  rw [Bool.eq_iff_iff, decide_eq_true_eq, List.isEmpty_iff, List.length_eq_zero_iff, List.filterMap_eq_nil_iff, List.filter_eq_nil_iff]
  constructor
  · intro h g hg
    obtain ⟨i, hi⟩ := List.getElem?_of_mem hg
    have e := hf i g hi
    have lt : i < gs.length := by
      rcases Nat.lt_or_ge i gs.length with q | q
      · exact q
      · rw [List.getElem?_eq_none q] at hi; cases hi
    rw [h i (List.mem_range.mpr lt)] at e
    rw [← e]
    exact Bool.false_ne_true
  · intro h i hi
    have lt := List.mem_range.mp hi
    have e := hf i _ (List.getElem?_eq_getElem lt)
    cases q : f i with
    | none => rfl
    | some v =>
      rw [q] at e
      exact absurd e.symm (h _ (List.getElem_mem lt))
end M
namespace M
open PySem L2
/-! ### what stays when lists and dicts in S change -/
structure Keep (S : List Addr) (H H' : Hp) : Prop where
  k : ∀ c o, c ∉ S → H c = some o → H' c = some o
  s : ∀ c ∈ S, (∃ xs, H c = some (.lst xs)) ∨ ∃ kvs, H c = some (.dK kvs)
theorem Keep.tup {S : List Addr} {H H' : Hp} (q : Keep S H H') : TS H H' := fun a xs e => q.k a _ (fun z => by
  rcases q.s a z with ⟨ys, h⟩ | ⟨kvs, h⟩ <;> rw [e] at h <;> cases h) e
theorem Keep.ins {S : List Addr} {H H' : Hp} (q : Keep S H H') {a C dx : Addr} {fs : List (Str × V)} (e : H a = some (.ins C dx fs)) : H' a = some (.ins C dx fs) := q.k a _ (fun z => by
  rcases q.s a z with ⟨ys, h⟩ | ⟨kvs, h⟩ <;> rw [e] at h <;> cases h) e
theorem TreeX.keep {CT : Addr} {H H' : Hp} {a dx u l : Addr} {ks : List Knd} {S : List Addr} (q : Keep S H H') (hu : u ∉ S) (hl : l ∉ S) (h : TreeX CT H a dx u l ks) : TreeX CT H' a dx u l ks :=
  ⟨q.ins h.hi, let ⟨kvs, e, p⟩ := h.hu; ⟨kvs, q.k _ _ hu e, prd_mono (fun _ _ => WayAt.mono q.tup) p⟩, q.k _ _ hl h.hl, h.hn⟩
theorem ScaleX.keep {CL CT : Addr} {H H' : Hp} {v : V} {c : Str × Bool} {ks : List Knd} {g : List Addr} {S : List Addr} (q : Keep S H H') (hg : ∀ c ∈ g, c ∉ S) (h : ScaleX CL CT H v c ks g) : ScaleX CL CT H' v c ks g := by
  unfold ScaleX at h ⊢
  split at h
  · rename_i e
    rw [if_pos e]
    obtain ⟨a, dx, u, l, rfl, t, rfl⟩ := h
    exact ⟨a, dx, u, l, rfl, t.keep q (hg u (by simp)) (hg l (by simp)), rfl⟩
  · rename_i e
    rw [if_neg e]
    obtain ⟨a, dx, rfl, t, rfl⟩ := h
    exact ⟨a, dx, rfl, q.ins t, rfl⟩
theorem SclX.keep {CL CT : Addr} {H H' : Hp} {S : List Addr} {ks : List Knd} (q : Keep S H H') : ∀ {kvs : List (Key × V)} {gs : List Col}, (∀ c ∈ flatG gs, c ∉ S) → SclX CL CT H kvs gs ks → SclX CL CT H' kvs gs ks
  | _, _, _, .nil => .nil
  | _, _, hg, .cons h r => .cons ⟨h.1, h.2.keep q fun c hc => hg c (List.mem_append_left _ hc)⟩ (SclX.keep q (fun c hc => hg c (List.mem_append_right _ hc)) r)
/-- the keys of the scales -/
theorem SclX.val {CL CT : Addr} {H : Hp} {ks : List Knd} {n : Str} : ∀ {kvs : List (Key × V)} {gs : List Col}, SclX CL CT H kvs gs ks →
    ((n ∉ gs.map (fun g => g.1.1) ∧ valV kvs (Sum.inr n) = none) ∨ ∃ g ∈ gs, g.1.1 = n ∧ ∃ v, valV kvs (Sum.inr n) = some v ∧ ScaleX CL CT H v g.1 (ksOf ks g.1.1) g.2)
  | _, _, .nil => .inl ⟨by simp, valV_nil⟩
  | (k, v) :: kvs, g :: gs, .cons ⟨e, t⟩ r => by
    have e : k = Sum.inr g.1.1 := e
    subst e
    by_cases c : g.1.1 = n
    · exact .inr ⟨g, List.mem_cons_self, c, v, valV_pos (by show (Sum.inr g.1.1 : Key) = _; rw [c]), t⟩
    · have nk : ¬ ((Sum.inr g.1.1 : Key) = Sum.inr n) := fun z => c (Sum.inr.inj z)
      rw [valV_neg nk]
      rcases SclX.val (n := n) r with ⟨h1, h2⟩ | ⟨g', h1, h2⟩
      · exact .inl ⟨by simp only [List.map_cons, List.mem_cons, not_or]; exact ⟨fun z => c z.symm, h1⟩, h2⟩
      · exact .inr ⟨g', List.mem_cons_of_mem _ h1, h2⟩
end M
namespace M
open PySem L2
theorem SclX.flat {CL CT : Addr} {H : Hp} {ks : List Knd} : ∀ {kvs : List (Key × V)} {gs : List Col}, SclX CL CT H kvs gs ks → ∀ c ∈ flatG gs, ∃ m, H c = some (.dK m)
  | _, _, .nil, c, hc => by cases hc
  | _, _, .cons h r, c, hc => by
    rcases List.mem_append.mp hc with z | z
    · have t := h.2
      unfold ScaleX at t
      split at t
      · obtain ⟨a, dx, u, l, _, tr, e⟩ := t
        dsimp only at z
        rw [e] at z
        simp only [List.mem_cons, List.not_mem_nil, or_false] at z
        rcases z with rfl | rfl
        · obtain ⟨m, e, _⟩ := tr.hu; exact ⟨m, e⟩
        · exact ⟨_, tr.hl⟩
      · obtain ⟨a, dx, _, _, e⟩ := t
        dsimp only at z
        rw [e] at z
        cases z
    · exact SclX.flat r c z
end M
namespace G
open PySem PySem.Spec PyProof.Rows L2
/-! ### defs that are called where nothing is being shown: so repr of things may be reckoned -/
/-- what a def promises, called where no guard stands -/
structure FnG (P : Program) (w : World) (K : PySem.W.Frag) (mg : Str → Option Value) (base : Heap) (k : Nat) (f : Addr) (fd : FuncData) (ps : List Str) (sp : Sp) : Prop where
  plen : ∀ us H Q E, sp us H Q E → us.length = ps.length
  go : ∀ (A : Around) (outer : List Env) (s : Shared) (H : Hp) (args : Args) (us : List Value) (vs : List V) (Q : VK) (E : XK), Room k A → A.guards = some [] → Env0 P w K mg base A outer s H →
    BindsTo s fd args (ps.zip us) → Vals vs us → sp vs H Q E → codeAny (model P w) A (.call (.ref f) args) (CR CX0 outer P w H s Q E) s
theorem gd_deeper {A : Around} (env : Env) (h : A.guards = some []) : (A.deeper env).guards = some [] := by
  first | exact h | (simpa [Around.deeper] using h)
section
variable {X : Cx} {k : Nat} {f : Addr} {fd : FuncData} {ps ks : List Str} {sp : Sp} {dvs : List V} {ds : List Value} {E : XK} {x : Str} {p pos : Pos} {e : Expr} {es : List Expr} {kws : List Keyword} {t tk : TA}
theorem run_g {pins : List (Addr × Obj)} {σ : L2.St} {H : Hp} {s : Shared} {Q : VK} {us : List Value} {vs : List V} (F : FnG X.prog X.w X.K X.mg X.base k f fd ps sp) (hr : Room k X.A) (hgd : X.A.guards = some []) (hb : Binds X.K fd ps ds) (hd : Vals dvs ds)
    (I : Inv X pins σ H s) (r : Vals vs us) (h : sp (vs ++ dvs) H Q E) : wpAny (model X.prog X.w) X.A (call (.ref f) us) (EP X pins σ Q) X.xe s := by
  have both := r.append hd
  have n : (us ++ ds).length = ps.length := both.length ▸ F.plen _ _ _ _ h
  have c := F.go X.A X.stack s H ⟨us, []⟩ (us ++ ds) (vs ++ dvs) Q E hr hgd I.env0 (hb s us I.kIn n) both h
  refine wpAny_call (codeAny_mono c fun res s2 z => ?_)
  match res, z with
  | .ok (.ret _), z => exact I.after z
theorem pe_callG (F : FnG X.prog X.w X.K X.mg X.base k f fd ps sp) (hr : Room k X.A) (hgd : X.A.guards = some []) (hg : Gl X x) (hm : X.mg x = some (.ref f)) (hk : PySem.W.keepIn X.K (.ref f) = true) (hb : Binds X.K fd ps ds) (hd : Vals dvs ds)
    (ha : PA X (e :: es) t) (hdb : (x == ("__debug__" : Str)) = false := by decide) (he : starEach (e :: es) X.env = (false, eval e X.env) :: starEach es X.env := by rfl) (hpl : (backTo pos (starEach es X.env)).any (·.1) = false := by rfl) :
    PE X (.Call (.Name x p) (e :: es) [] pos) (tCall sp dvs E0 t) := ⟨fun pins s σ H Q I h =>
  wpAny_Call_Name_kw (ld_glob I hg hm (PySem.W.callWith_K (h₀ := X.base) I.ok.mod.kin hk (thn (ha.run pos pins s σ H _ I h) fun _ _ ⟨_, _, I1, r, q⟩ => ⟨I1.kIn, run_g F hr hgd hb hd I1 r q⟩) he hpl) hdb)⟩
end
section
variable {P : Program} {w : World} {K : PySem.W.Frag} {mg : Str → Option Value} {base : Heap} {k : Nat} {f : Addr} {fd : FuncData} {N ps : List Str} {sp : Sp}
theorem FnG.of (F : FnOk P w K mg base CX0 k f fd ps sp) : FnG P w K mg base k f fd ps sp := ⟨F.len, fun A outer s H args us vs Q E hr _ => F.run A outer s H args us vs Q E hr⟩
/-- a def by its body -/
theorem okG {x qual : Str} {st : Stmt} (F : Fun K x qual st f fd) (S : FnScope N ps (defScope st)) (plen : ∀ us H Q E, sp us H Q E → us.length = ps.length)
    (body : ∀ (cdv : Value) (A : Around) (outer : List Env) (s : Shared) (H : Hp) (vs : List V) (Q : VK) (E : XK), Room k (A.deeper (envOfC qual (defScope st) s.heap.objs.size f cdv)) →
      (A.deeper (envOfC qual (defScope st) s.heap.objs.size f cdv)).guards = some [] → sp vs H Q E →
      ∃ t, PSs (cxOf CX0 P w K mg base N qual (defScope st) f cdv A outer s H E).nox (defBody st) t ∧ t { nx := fun _ H' => Q .non H', rt := Q } (start N vs) H) : FnG P w K mg base (k + 1) f fd ps sp := by
  obtain ⟨oc, od, kV, doc, pm, an, cdv, ct, osl, rfl, lk, hcd⟩ := F.ex
  constructor
  · exact plen
  intro A outer s H args us vs Q E hr hgd e0 hb r hsp
  have old : K.In s.heap := e0.mod.kin.keeps fun b o z => (e0.bs b o z).1
  have nolim : s.heap.NoLimit := e0.mod.nolimit.keeps fun b o z => (e0.bs b o z).1
  have kinds : ∀ y ∈ ps.zip us, (defScope st).names.lookup y.1 = some .local ∨ ((defScope st).names.lookup y.1 = some .cell ∧ ((cellsFrom (s.heap.objs.size + 1) (defScope st).names []).lookup y.1).isSome = true) := by
    rintro ⟨n, v⟩ hy
    rcases S.par n (List.of_mem_zip hy).1 with q | q
    · exact Or.inl q
    · exact Or.inr ⟨q, PySem.W.cellsFrom_some _ _ _ (Or.inl q)⟩
  obtain ⟨t, ht, hq⟩ := body cdv A outer s H vs Q E (hr.deeper _) (gd_deeper _ hgd) hsp
  refine codeAny_call_function hr.depth (old _ _ lk) rfl S.co S.gen rfl (PySem.W.codeRec_of old hcd) (hb _ _ _ _ (wpAny_newFunctionEnv_cells S.kind kinds fun env he s1 x => ?_))
  cases he
  have I : Inv (cxOf CX0 P w K mg base N qual (defScope st) f cdv A outer s H E) [] (start N vs) H s1 := inv_start S hr.hd e0 (plen _ _ _ _ hsp) r x
  refine ⟨nolim.keeps x.toInCall.keep, codeAny_func (wpAny_mono (ht.nox.run [] s1 (start N vs) H _ I hq) ?_ fun _ _ z => z)⟩
  intro fl s2 z
  cases fl with
  | ret u =>
    obtain ⟨v, _, H2, J, rv, q⟩ := z
    exact ⟨v, H2, J.os, J.bare, J.base, J.hok, rv, q⟩
  | next =>
    obtain ⟨_, H2, J, q⟩ := z
    exact ⟨V.non, H2, J.os, J.bare, J.base, J.hok, rfl, q⟩
  | brk => obtain ⟨_, _, _, q⟩ := z; exact q.elim
  | cont => obtain ⟨_, _, _, q⟩ := z; exact q.elim
end
end G
namespace G
open PySem PySem.Spec PyProof.Rows L2
/-! ### the law's end: the def of the law, called where the top has run -/
theorem guards_caller : callerA.guards = some [] := rfl
section
variable {P : Program} {w : World} {K : PySem.W.Frag} {mg mb : Str → Option Value} {k : Nat} {fa a : Addr} {fd : FuncData} {x : Str} {sp : Sp} {s : Shared} {vs : List Value} {ns : List Int}
/-- what is tracked at the law's call: the script, where it is none of the top's own objects -/
def scrH (K : PySem.W.Frag) (a : Addr) (vs : List Value) (ns : List Int) : Hp := fun b => if b = a ∧ K.lookup a = none then some (.frz { cls := .type "list", data := .seq vs.toArray } (.lst (ns.map V.int))) else none
theorem scr_some {b : Addr} {o : HO} (h : scrH K a vs ns b = some o) : b = a ∧ K.lookup a = none ∧ o = .frz { cls := .type "list", data := .seq vs.toArray } (.lst (ns.map V.int)) := by
  unfold scrH at h
  split at h
  · rename_i c
    exact ⟨c.1, c.2, (Option.some.inj h).symm⟩
  · cases h
theorem scr_none {b : Addr} (h : b ≠ a) : scrH K a vs ns b = none := if_neg fun c => h c.1
theorem scr_K {b : Addr} {o : Obj} (h : K.lookup b = some o) : scrH K a vs ns b = none := if_neg fun c => by
  rw [c.1, c.2] at h
  cases h
theorem scr_dict {b : Addr} {o : Obj} {es : Array DictEntry} {ep : Nat} (ha : s.heap.get? a = some { cls := .type "list", data := .seq vs.toArray }) (h : s.heap.get? b = some o) (d : o.data = .dict es ep) : scrH K a vs ns b = none := by
  refine scr_none fun e => ?_
  rw [e, ha] at h
  cases h
  cases d
theorem endG (KX : K.In s.heap) (gm : s.heap.Ns mainGlobals mg) (gb : s.heap.Ns builtinsNs mb) (hbb : ∀ x : Str, x ≠ "__name__" → mb x = bootBuiltins x) (lim : s.heap.NoLimit) (gens : s.gens = #[])
    (ha : s.heap.get? a = some { cls := .type "list", data := .seq vs.toArray }) (hi : IntsAre vs ns) (hl : ns.length ≤ sizeLine) (hr : Room k callerA)
    (F : ∀ base : Heap, K.In base → base.Ns mainGlobals mg → FnG P w K mg base k fa fd [x] sp) (bind : ∀ (s : Shared) (u : Value), BindsTo s fd ⟨[u], []⟩ [(x, u)])
    (hsp : ∀ H : Hp, SqL K H a (ns.map V.int) → sp [.ref a] H (fun v _ => v = .bl true) fun _ _ _ => False) :
    codeAny (model P w) callerA (.call (.ref fa) ⟨[.ref a], []⟩) (fun r s' => r = .ok (.ret (.bool true)) ∧ OldK s.heap s'.heap ∧ s'.os = s.os ∧ AllBare s'.gens) s := by
  have rv := vals_ints hi
  have nl := hi.length
  let H := scrH K a vs ns
  have hok : HOk P w H s.heap := fun b u z => by
    obtain ⟨rfl, _, rfl⟩ := scr_some z
    exact ⟨ha, by rw [List.length_map]; exact hl, vs, _, rv, ha⟩
  have hS : SqL K H a (ns.map V.int) := by
    cases q : K.lookup a with
    | none => exact Or.inl (Or.inr ⟨_, if_pos ⟨rfl, q⟩⟩)
    | some o =>
      have e := KX a o q
      rw [ha] at e
      cases e
      exact Or.inr ⟨_, vs.toArray, _, q, rfl, rfl, rfl, by rw [List.size_toArray, nl]; exact hl, by simpa using rv⟩
  have names : ∀ {b : Addr} {m : Str → Option Value}, s.heap.Ns b m → (hidT s.heap H).Ns b m := by
    rintro b m ⟨o, es, ep, e, d, r⟩
    exact ⟨o, es, ep, hidT_get e (scr_dict ha e d), d, r⟩
  have KB : K.In (hidT s.heap H) := fun b o e => hidT_get (KX b o e) (scr_K e)
  have M : Mod K mg (hidT s.heap H) := by
    obtain ⟨mc, h1, h2⟩ := lim
    exact ⟨KB, names gm, ⟨mb, names gb, hbb⟩, ⟨mc, names h1, h2⟩⟩
  have e0 : Env0 P w K mg (hidT s.heap H) callerA [] s H := by
    refine ⟨rfl, M, fun b o e => of_hidT e, Nat.le_of_eq (hidT_size _ _), trivial, fun b hb => ?_, hok, .of_eq gens⟩
    exact absurd (show b ∈ ([] : List Addr) from hb) (by simp)
  have run := (F _ KB (names gm)).go callerA [] s H ⟨[.ref a], []⟩ [.ref a] [.ref a] _ _ hr guards_caller e0 (bind s (.ref a)) (.cons rfl .nil) (hsp H hS)
  refine codeAny_mono run fun r s2 z => ?_
  match r, z with
  | .ok (.ret u), z =>
    obtain ⟨v, H2, os, bare, un, hok2, rv2, q⟩ := z
    cases (show v = .bl true from q)
    cases (show u = Value.bool true from rv2)
    refine ⟨rfl, OldK.of_keep fun b o e => ?_, os, bare⟩
    cases q : H b with
    | none => exact un.keep b o e q (fun z => absurd (show b ∈ ([] : List Addr) from z) (by simp)) (by simp)
    | some u =>
      obtain ⟨rfl, _, rfl⟩ := scr_some q
      obtain ⟨e2, _⟩ := hok2 b _ (un.frzs b _ _ q)
      rw [ha] at e
      cases e
      exact e2
/-- the goal that the head leaves -/
theorem walkG {l : PySem.W.OpenLaw} {n k : Nat} {q : Program} {loose : List Str} {XP : (Str → Option Value) → Heap → Prop} {YP : World → Heap → Prop} {d : DefRec} {K : Params → PySem.W.Frag} {sp : PySem.W.Frag → Sp} {x : Str}
    (hn : l.most = some n) (hn2 : n ≤ sizeLine) (hdf : d.params.defaults = []) (hr : Room k callerA)
    (hY : ∀ (w : World) (h : Heap), YP w h → (K w.params).In h)
    (F : ∀ (w : World) (mg : Str → Option Value) (fa : Addr) (h : Heap), (K w.params).In h → h.Ns mainGlobals mg → mg d.name = some (.ref fa) →
      ∃ fd : FuncData, (∀ (s : Shared) (u : Value), BindsTo s fd ⟨[u], []⟩ [(x, u)]) ∧
        ∀ base : Heap, (K w.params).In base → base.Ns mainGlobals mg → FnG l.prog w (K w.params) mg base k fa fd [x] (sp (K w.params)))
    (hsp : ∀ (K : PySem.W.Frag) (H : Hp) (a : Addr) (ns : List Int), ns.length ≤ n → SqL K H a (ns.map V.int) → sp K [.ref a] H (fun v _ => v = .bl true) fun _ _ _ => False) :
    PySem.W.WalkO q loose XP YP l.row.toRowW d [] (fun f vs => PySem.call f vs) := by
  refine Att.attach_call hn hdf fun w s₀ s₁ mg mb fa o pm cd doc a vs ns T Y ho hd hcd hmg hobj hints hlen hg => ?_
  obtain ⟨fd, hb, hF⟩ := F w mg fa _ (hY w _ Y) T.T.g hmg
  exact endG (hY w _ Y) T.T.g T.T.b T.T.builtins T.T.nolimit hg hobj hints (Nat.le_trans hlen hn2) hr hF hb fun H => hsp _ H a ns hlen
end
end G
namespace QD
open PySem PySem.Spec PyProof.Rows L2
/-! ### repr, != and count of data; small dicts among them -/
/-- v is the datum d -/
inductive Dq (K : PySem.W.Frag) (H : Hp) : V → PyData → Prop
  | dp {v : V} {d : PyData} (h : Dp K H v d) : Dq K H v d
  | d0 {a : Addr} (h : H a = some (.dK [])) : Dq K H (.ref a) (.dict [])
  | d1 {a : Addr} {x : Str} {i : Int} (h : H a = some (.dK [(Sum.inr x, .int i)])) : Dq K H (.ref a) (.dict [(.str x, .int i)])
theorem seqT {K : PySem.W.Frag} {H H' : Hp} {a : Addr} {xs : List V} (s : Same H H') (h : SqT K H a xs) : SqT K H' a xs := by
  rcases h with (h | ⟨o, h⟩) | h
  · exact Or.inl (Or.inl (s _ _ h))
  · exact Or.inl (Or.inr ⟨o, s _ _ h⟩)
  · exact Or.inr h
mutual
theorem dp_mono {K : PySem.W.Frag} {H H' : Hp} (s : Same H H') : ∀ (d : PyData) (v : V), Dp K H v d → Dp K H' v d
  | .none, _, h => by cases h; exact .non
  | .bool b, _, h => by cases h; exact .bl b
  | .int i, _, h => by cases h; exact .int i
  | .str x, _, h => by cases h; exact .str x
  | .list ds, _, h => by
    cases h with
    | lst hs ha => exact .lst (s.seq hs) (dpa_mono s ds _ ha)
  | .tuple ds, _, h => by
    cases h with
    | tup hs ha => exact .tup (seqT s hs) (dpa_mono s ds _ ha)
  | .dict _, _, h => by cases h
theorem dpa_mono {K : PySem.W.Frag} {H H' : Hp} (s : Same H H') : ∀ (ds : List PyData) (vs : List V), DpAll K H vs ds → DpAll K H' vs ds
  | [], _, h => by cases h; exact .nil
  | d :: ds, _, h => by
    cases h with
    | cons h1 h2 => exact .cons (dp_mono s d _ h1) (dpa_mono s ds _ h2)
end
theorem Dq.mono {K : PySem.W.Frag} {H H' : Hp} {v : V} {d : PyData} (s : Same H H') (h : Dq K H v d) : Dq K H' v d := by
  cases h with
  | dp h => exact .dp (dp_mono s d v h)
  | d0 h => exact .d0 (s _ _ h)
  | d1 h => exact .d1 (s _ _ h)
mutual
theorem dp_noDict {K : PySem.W.Frag} {H : Hp} : ∀ (d : PyData) (v : V), Dp K H v d → d.hasDict = false
  | .none, _, _ => by simp only [PyData.hasDict]
  | .bool _, _, _ => by simp only [PyData.hasDict]
  | .int _, _, _ => by simp only [PyData.hasDict]
  | .str _, _, _ => by simp only [PyData.hasDict]
  | .list ds, _, h => by
    cases h with
    | lst _ ha => simp only [PyData.hasDict]; exact dpa_noDict ds _ ha
  | .tuple ds, _, h => by
    cases h with
    | tup _ ha => simp only [PyData.hasDict]; exact dpa_noDict ds _ ha
  | .dict _, _, h => by cases h
theorem dpa_noDict {K : PySem.W.Frag} {H : Hp} : ∀ (ds : List PyData) (vs : List V), DpAll K H vs ds → PyData.hasDictAll ds = false
  | [], _, _ => by simp only [PyData.hasDictAll]
  | d :: ds, _, h => by
    cases h with
    | cons h1 h2 => simp only [PyData.hasDictAll, dp_noDict d _ h1, dpa_noDict ds _ h2, Bool.or_false]
end
section
variable {X : Cx} {K : PySem.W.Frag}
theorem Dq.reads {pins : List (Addr × Obj)} {σ : L2.St} {H : Hp} {s : Shared} (I : Inv X pins σ H s) {v : V} {d : PyData} {u : Value} (h : Dq X.K H v d) (r : RelV v u) : ∃ as, Reads s.heap u d as ∧ (d.hasDict = true → sysModules ∉ as) := by
  cases h with
  | dp h =>
    obtain ⟨as, q⟩ := Dp.reads I d v u h r
    refine ⟨as, q, fun hd => ?_⟩
    exact absurd hd (by rw [dp_noDict d v h]; exact Bool.false_ne_true)
  | @d0 a h =>
    cases (show u = Value.ref a from r)
    obtain ⟨_, ns, vs, kv, o, es, ep, e1, ex, e2, ko, pr, nd⟩ := (show ObjOk X.prog X.w H s.heap a (.dK []) from I.hok a _ h)
    cases kv
    generalize hl : es.toList = l at pr
    cases pr
    refine ⟨_, .dict e1 ex.1 e2 (as := []) (bs := []) (by rw [hl]; exact .nil) (by rw [hl]; exact .nil), fun _ hm => ?_⟩
    have hm : sysModules ∈ [a] := by simpa using hm
    rw [List.mem_singleton] at hm
    rw [← hm] at ns
    cases ns
  | @d1 a x i h =>
    cases (show u = Value.ref a from r)
    obtain ⟨_, ns, vs, kv, o, es, ep, e1, ex, e2, ko, pr, nd⟩ := (show ObjOk X.prog X.w H s.heap a (.dK [(Sum.inr x, .int i)]) from I.hok a _ h)
    cases kv with
    | @cons _ p _ ps h1 h2 =>
      cases h2
      obtain ⟨k', u'⟩ := p
      obtain ⟨z1, z2⟩ := h1
      have z1 : (Sum.inr x : Key) = k' := z1
      subst z1
      obtain ⟨t, z2⟩ := (show ∃ t, u' = Value.int i t from z2)
      subst z2
      generalize hl : es.toList = l at pr
      cases pr with
      | @cons e kv es2 kvs hk hv p2 =>
        cases p2
        obtain ⟨tx, ek⟩ : ∃ t, e.key = Value.str x t := by
          rcases keyIs_shape (show keyIs (Sum.inr x) e.key = true from hk) with ⟨i2, t2, q, _⟩ | ⟨x2, t2, q, q2⟩
          · cases q
          · cases q; exact ⟨t2, q2⟩
        have ev : e.val = Value.int i t := hv
        refine ⟨_, .dict e1 ex.1 e2 (as := [] ++ []) (bs := [] ++ []) ?_ ?_, fun _ hm => ?_⟩
        · rw [hl]
          show ReadsAll s.heap [e.key] [.str x] _
          rw [ek]
          exact .cons (.str x tx) .nil
        · rw [hl]
          show ReadsAll s.heap [e.val] [.int i] _
          rw [ev]
          exact .cons (.int i t) .nil
        · have hm : sysModules ∈ [a] := by simpa using hm
          rw [List.mem_singleton] at hm
          rw [← hm] at ns
          cases ns
/-- repr(x) -/
def rRep (K : PySem.W.Frag) : List V → Hp → VK → Prop := fun xs H Q => ∃ x d, xs = [x] ∧ Dq K H x d ∧ d.showable = true ∧ d.depth ≤ 50 ∧ d.shown.length ≤ sizeLine ∧ Q (.str d.shown) H
theorem call_rep (hK : X.K = K) (hgd : X.A.guards = some []) (hu : X.A.units + 64 < cLine) : CallR X (.builtin "repr") (rRep K) := by
  subst hK
  intro pins s σ H xs us Q I r h
  obtain ⟨x, d, rfl, hx, hs, hdp, hz, q⟩ := h
  obtain ⟨u, rfl, ru⟩ := r.one
  have rf : ∀ a, x = V.ref a → wpAny (model X.prog X.w) X.A (call (.builtin "repr") [u]) (EP X pins σ Q) X.xe s := by
    intro a ex
    subst ex
    cases (show u = Value.ref a from ru)
    obtain ⟨as, rd, hsm⟩ := hx.reads I (u := Value.ref a) rfl
    exact repr_of_reads' rd hs hsm hgd (by omega) (fun _ _ e => e) (fun h' u tk hk => ⟨.str d.shown, H, I.kept (t' := tk) hk, ⟨u, rfl⟩, q⟩) hz
  cases hx with
  | d0 h => exact rf _ rfl
  | d1 h => exact rf _ rfl
  | dp h =>
    cases h with
    | lst h1 h2 => exact rf _ rfl
    | tup h1 h2 => exact rf _ rfl
    | non => cases (show u = Value.none from ru); simp only [PyData.shown] at q; exact P.repr_of_none ⟨.str "None", H, I.tok _, ⟨_, rfl⟩, q⟩
    | bl b => cases (show u = Value.bool b from ru); simp only [PyData.shown] at q; exact P.repr_of_bool ⟨.str (if b then "True" else "False"), H, I.tok _, ⟨_, rfl⟩, q⟩
    | int i =>
      obtain ⟨t, rfl⟩ := (show ∃ t, u = Value.int i t from ru)
      simp only [PyData.shown] at q
      simp only [PyData.showable] at hs
      exact P.repr_of_int (of_decide_eq_true hs) ⟨.str (toString i), H, I.tok _, ⟨_, rfl⟩, q⟩
    | str z =>
      obtain ⟨t, rfl⟩ := (show ∃ t, u = Value.str z t from ru)
      simp only [PyData.shown] at q hz
      exact P.repr_of_str ⟨.str (reprText z), H, I.tok _, ⟨_, rfl⟩, q⟩ hz
/-- l.count(y) of flat values -/
def rCntF (K : PySem.W.Frag) : V → List V → Hp → VK → Prop := fun x xs H Q => ∃ (p : Addr) (ys : List V) (y : V), x = .ref p ∧ xs = [y] ∧ SqL K H p ys ∧ flatV y = true ∧ ys.all flatV = true ∧ Q (.int ((ys.countP fun z => eqV z y : Nat) : Int)) H
theorem cnt_rel {y : V} : ∀ {ys : List V} {its : List Value}, Vals ys its → ys.all flatV = true → its.countP (eqU y) = ys.countP fun z => eqV z y
  | _, _, .nil, _ => rfl
  | z :: ys, u :: its, .cons r t, f => by
    rw [List.all_cons, Bool.and_eq_true] at f
    rw [List.countP_cons, List.countP_cons, cnt_rel t f.2, eqU_of r f.1]
theorem mt_cntF (hK : X.K = K) : MtR X "list.count" (rCntF K) := by
  subst hK
  intro pins s σ H x xs v us Q I rx rxs h
  obtain ⟨p, ys, y, rfl, rfl, hs, fy, fys, q⟩ := h
  cases rx
  obtain ⟨u, rfl, ru⟩ := rxs.one
  obtain ⟨its, rv, ⟨⟨cls, dd, data, sl⟩, n, ho, hc, hdn, hd⟩, hlen⟩ := I.list hs
  simp only at hc hd
  subst hc hd
  refine call_meets PySem.F.slot_list_count ⟨_, ho, rfl⟩ PySem.F.entry_list_count (PySem.F.args_list_count_2 _ _)
    (SeqAt.list_countAt p its.toArray n dd sl u (eqU y)) ⟨ho, fun u' hu' => mem_eqAt ru fy rv fys u' (by simpa using hu'), ?_⟩
  exact ⟨.int ((ys.countP fun z => eqV z y : Nat) : Int), H, I.tok _, ⟨s.toks, by rw [← cnt_rel (y := y) rv fys]⟩, q⟩
end
end QD
namespace KW
open PySem PySem.Spec PyProof.Rows L2
/-! ### f(k = v, ..): every parameter by its name -/
/-- these places of a list, in this order -/
def pk {α : Type} (ix : List Nat) (l : List α) : List α := ix.filterMap fun i => l[i]?
theorem pk_vals {zs : List V} {ws : List Value} (r : Vals zs ws) : ∀ ix : List Nat, Vals (pk ix zs) (pk ix ws)
  | [] => .nil
  | i :: ix => by
    unfold pk
    rw [List.filterMap_cons, List.filterMap_cons]
    cases e : zs[i]? with
    | some z =>
      obtain ⟨w, h, rw'⟩ := r.get e
      rw [h]
      exact .cons rw' (pk_vals r ix)
    | none =>
      have l := r.length
      have : ws[i]? = none := by
        rw [List.getElem?_eq_none_iff] at e ⊢
        omega
      rw [this]
      exact pk_vals r ix
def tK0 (m : Nat) (sp : Sp) (ix : List Nat) (E : XK) (tk : TA) : TE := fun σ H Q => tk σ H fun zs H2 => zs.length = m ∧ sp (pk ix zs) H2 Q E
theorem g_K0 {m : Nat} {sp : Sp} {ix : List Nat} {E : XK} {tk : TA} {σ : L2.St} {H : Hp} {Q : VK} (q : tk σ H fun zs H2 => zs.length = m ∧ sp (pk ix zs) H2 Q E) : tK0 m sp ix E tk σ H Q := q
section
variable {K : PySem.W.Frag} {fd : FuncData} {ps ks : List Str} {x qual : Str} {st : Stmt} {f : Addr}
theorem kb0 (F : Fun K x qual st f fd) (ix : List Nat) (h : ∀ (kV doc pm : Value) (an : Option Addr) (cdv ct : Value) (ws : List Value), ws.length = ks.length → bindArgs (PySem.W.fnOf x qual (defArgs st) (defBody st) (defScope st) .none kV doc pm an cdv ct) ⟨[], ks.zip ws⟩ = pure (ps.zip (pk ix ws))) :
    KBn K fd ps 0 ks (fun _ ws => pk ix ws) (fun _ zs => pk ix zs) := by
  obtain ⟨oc, od, kV, doc, pm, an, cdv, ct, osl, rfl, lk, hcd⟩ := F.ex
  refine ⟨fun s us ws X l1 l2 => ?_, fun r1 r2 => pk_vals r2 ix⟩
  cases us with
  | nil => exact BindsTo.of_eq (h kV doc pm an cdv ct ws l2)
  | cons a r => simp at l1
end
section
variable {X : Cx} {CX : CXT} {k : Nat} {f : Addr} {fd : FuncData} {ps ks : List Str} {sp : Sp} {E : XK} {x : Str} {p pos : Pos} {kws : List Keyword} {tk : TA} {ix : List Nat}
theorem pe_callK0 (F : FnOk X.prog X.w X.K X.mg X.base CX k f fd ps sp) (hr : Room k X.A) (hg : Gl X x) (hm : X.mg x = some (.ref f)) (hk : PySem.W.keepIn X.K (.ref f) = true) (hb : KBn X.K fd ps 0 ks (fun _ ws => pk ix ws) (fun _ zs => pk ix zs)) (hx : Passes CX X E)
    (hkw : PK X kws tk) (hall : (backToKw pos (keywordEach kws X.env)).all (·.1.isSome) = true := by rfl) (hks : (backToKw pos (keywordEach kws X.env)).filterMap (·.1) = ks := by rfl) (hdb : (x == ("__debug__" : Str)) = false := by decide)
    (hpl : ((backTo pos (starEach [] X.env)).any (·.1) || (backToKw pos (keywordEach kws X.env)).any (·.1.isNone)) = false := by rfl) : PE X (.Call (.Name x p) [] kws pos) (tK0 ks.length sp ix E tk) := by
  refine ⟨fun pins s σ H Q I h => ?_⟩
  refine wpAny_Call_Name_kw (ld_glob I hg hm ?_ hdb)
  refine PySem.W.callWith_KW0 (h₀ := X.base) I.ok.mod.kin hk hall ?_ hpl
  refine thn (hkw.run pos pins s σ H _ I h) fun ws s2 ⟨zs, H2, I2, rz, l2, q2⟩ => ⟨I2.kIn, ?_⟩
  rw [hks]
  exact run_fnN (us := []) (vs := []) F hr hb hx I2 .nil rz rfl l2 q2
end
end KW
namespace HX
open PySem PySem.Spec PyProof.Rows L2 He
/-! ### the head's facts, with a look of one's own at the written part -/
/-- what the names stand for, and what these objects name: twice over -/
def nmA (g : Addr → Option Obj) (nm : List Str) : List Addr := nm.map fun x => ga (frG g [mainGlobals]) x
def nxt (g : Addr → Option Obj) (as : List Addr) : List Addr := as.flatMap fun a => match g a with
  | some o => (match o.data with
    | .dict es _ => es.toList.flatMap fun e => refV e.val
    | .func fd => refV fd.code
    | .cls cd => [cd.ns]
    | _ => [])
  | none => []
def asX (g : Addr → Option Obj) (nm : List Str) : List Addr :=
  let a1 := nmA g nm
  let a2 := nxt g a1
  let a3 := nxt g a2
  let a4 := nxt g a3
  mainGlobals :: (a1 ++ (a2 ++ (a3 ++ a4)))
def obsX (nm : List Str) (fa : List Fa) (fn : List FnD) (xb : PySem.W.Frag → Bool) (g : Addr → Option Obj) : Al × Bool := (fun K : PySem.W.Frag => (obsE fa fn K, xb K)) (frG g (asX g nm))
def hookX (nm : List Str) (fa : List Fa) (fn : List FnD) (xb : PySem.W.Frag → Bool) : PySem.W.Hook where
  α := Al × Bool
  obs := fun s => obsX nm fa fn xb s.heap.get?
  val := fun _ => (valE fn, true)
  says := fun _ h => ∃ K : PySem.W.Frag, K.In h ∧ SaysE fa fn K ∧ xb K = true
  of := fun _ _ e => ⟨_, frG_in, congrArg Prod.fst e, congrArg Prod.snd e⟩
  keeps := fun _ _ _ ⟨K, hK, c⟩ k => ⟨K, PySem.W.Frag.In.keeps hK k, c⟩
theorem obsX_eq {nm : List Str} {fa : List Fa} {fn : List FnD} {xb : PySem.W.Frag → Bool} {g : Addr → Option Obj} {s : Shared} (h : ∀ a, g a = s.heap.get? a) : obsX nm fa fn xb g = (hookX nm fa fn xb).obs s := by
  have e : g = s.heap.get? := funext h
  rw [e] <;> rfl
/-- the end over such a head -/
theorem walkGE {l : PySem.W.OpenLaw} {n k : Nat} {q : Program} {loose : List Str} {XP : (Str → Option Value) → Heap → Prop} {YP : World → Heap → Prop} {d : DefRec} {sp : PySem.W.Frag → Sp} {x : Str}
    (hn : l.most = some n) (hn2 : n ≤ sizeLine) (hdf : d.params.defaults = []) (hr : Room k callerA)
    (F : ∀ (w : World) (mg : Str → Option Value) (fa : Addr) (h : Heap), YP w h → h.Ns mainGlobals mg → mg d.name = some (.ref fa) →
      ∃ (K : PySem.W.Frag) (fd : FuncData), K.In h ∧ (∀ (s : Shared) (u : Value), BindsTo s fd ⟨[u], []⟩ [(x, u)]) ∧
        ∀ base : Heap, K.In base → base.Ns mainGlobals mg → G.FnG l.prog w K mg base k fa fd [x] (sp K))
    (hsp : ∀ (K : PySem.W.Frag) (H : Hp) (a : Addr) (ns : List Int), ns.length ≤ n → SqL K H a (ns.map V.int) → sp K [.ref a] H (fun v _ => v = .bl true) fun _ _ _ => False) :
    PySem.W.WalkO q loose XP YP l.row.toRowW d [] (fun f vs => PySem.call f vs) := by
  refine Att.attach_call hn hdf fun w s₀ s₁ mg mb fa o pm cd doc a vs ns T Y ho hd hcd hmg hobj hints hlen hg => ?_
  obtain ⟨K, fd, KX, hb, hF⟩ := F w mg fa _ Y T.T.g hmg
  exact G.endG KX T.T.g T.T.b T.T.builtins T.T.nolimit hg hobj hints (Nat.le_trans hlen hn2) hr hF hb fun H => hsp K H a ns hlen
end HX
namespace EM
open PySem PySem.Spec PyProof.Rows L2 SeqAt MeetsSeq
/-! ### ==, in between a dict, a list, a tuple and a text -/
section
variable {A : Around} {s : Shared}
theorem dict_declines_str (l : Addr) (o : Obj) (b : Str) (u : Tok) (hc : o.cls = .type "dict") :
    Meets (Builtin.«dict.__eq__» ⟨[.ref l, .str b u], []⟩) (fun _ R s => s.heap.get? l = some o ∧ R (.ok (.ret .notImplemented)) s) :=
  .of_wp fun prog w A R s h => by
    obtain ⟨hp, g, d, tk, os⟩ := s; obtain ⟨hl, h⟩ := h
    obtain ⟨cls, dd, data, sl⟩ := o
    simp only at hc
    subst hc
    have f1 := F.sub_str_dict
    wp_walk using wpAny_load hl
    exact ⟨_, rfl, h⟩
theorem dict_declines_tup (l b : Addr) (o o2 : Obj) (hc : o.cls = .type "dict") (hc2 : o2.cls = .type "tuple") :
    Meets (Builtin.«dict.__eq__» ⟨[.ref l, .ref b], []⟩) (fun _ R s => s.heap.get? l = some o ∧ s.heap.get? b = some o2 ∧ R (.ok (.ret .notImplemented)) s) :=
  .of_wp fun prog w A R s h => by
    obtain ⟨hp, g, d, tk, os⟩ := s; obtain ⟨hl, hb, h⟩ := h
    obtain ⟨cls, dd, data, sl⟩ := o
    obtain ⟨cls2, dd2, data2, sl2⟩ := o2
    simp only at hc hc2
    subst hc hc2
    have f1 := F.sub_tuple_dict
    wp_walk using wpAny_load hl, wpAny_load hb
    exact ⟨_, rfl, h⟩
theorem str_declines_ref (l : Addr) (o : Obj) (b : Str) (u : Tok) {es : Array DictEntry} {ep : Nat} (hc : o.cls = .type "dict") (hd : o.data = .dict es ep) :
    Meets (Builtin.«str.__eq__» ⟨[.str b u, .ref l], []⟩) (fun _ R s => s.heap.get? l = some o ∧ R (.ok (.ret .notImplemented)) s) :=
  .of_wp fun prog w A R s h => by
    obtain ⟨hp, g, d, tk, os⟩ := s; obtain ⟨hl, h⟩ := h
    obtain ⟨cls, dd, data, sl⟩ := o
    simp only at hc hd
    subst hc hd
    have f1 := F.sub_dict_str
    wp_walk using wpAny_load hl
    exact ⟨_, rfl, h⟩
theorem tup_declines_dict (l b : Addr) (o o2 : Obj) (hc : o.cls = .type "tuple") (hc2 : o2.cls = .type "dict") :
    Meets (Builtin.«tuple.__eq__» ⟨[.ref l, .ref b], []⟩) (fun _ R s => s.heap.get? l = some o ∧ s.heap.get? b = some o2 ∧ R (.ok (.ret .notImplemented)) s) :=
  .of_wp fun prog w A R s h => by
    obtain ⟨hp, g, d, tk, os⟩ := s; obtain ⟨hl, hb, h⟩ := h
    obtain ⟨cls, dd, data, sl⟩ := o
    obtain ⟨cls2, dd2, data2, sl2⟩ := o2
    simp only at hc hc2
    subst hc hc2
    have f1 := F.sub_dict_tuple
    wp_walk using wpAny_load hl, wpAny_load hb
    exact ⟨_, rfl, h⟩
theorem rc_str_dict {l : Addr} {o : Obj} (b : Str) (u : Tok) {es : Array DictEntry} {ep : Nat} (hl : s.heap.get? l = some o) (hc : o.cls = .type "dict") (hd : o.data = .dict es ep) (hu : A.units < cLine) : RcAt A s (.str b u) (.ref l) false := fun prog w E Q h =>
  rc_eq_decline_or (k := false) (typeIs_str s b u) ⟨_, hl, hc⟩ (by decide) F.sub_dict_str F.slot_str_eq F.slot_dict_eq_refl
    (fun _ hq => call_meets F.slot_str_eq (typeIs_str s b u) F.entry_str_eq (F.args_str_eq_2 _ _) (str_declines_ref l o b u hc hd) ⟨hl, hq⟩)
    (fun _ hq => call_meets F.slot_dict_eq_refl ⟨_, hl, hc⟩ F.entry_dict_eq (F.args_dict_eq_2 _ _) (dict_declines_str l o b u hc) ⟨hl, hq⟩)
    (fun _ hq => wpAny_of_eq (rfl : isSame (.str b u) (.ref l) = pure false) hq) (.inr hu) h
theorem eq_str_dict {l : Addr} {o : Obj} (b : Str) (u : Tok) {es : Array DictEntry} {ep : Nat} (hl : s.heap.get? l = some o) (hc : o.cls = .type "dict") (hd : o.data = .dict es ep) (hu : A.units < cLine) : EqAt A s (.str b u) (.ref l) false := fun prog w E Q h => by
  unfold eqBool
  refine wpAny_holding ?_
  refine wpAny_ite_split (fun hab => absurd (eq_of_beq hab) nofun) (fun _ => ?_)
  exact wpAny_bind (rc_str_dict b u hl hc hd hu prog w E _ (wpAny_truthy_bool h))
theorem rc_dict_tup {l b : Addr} {o o2 : Obj} (hl : s.heap.get? l = some o) (hc : o.cls = .type "dict") (hb : s.heap.get? b = some o2) (hc2 : o2.cls = .type "tuple") (hu : A.units < cLine) : RcAt A s (.ref l) (.ref b) false := fun prog w E Q h => by
  have hne : l ≠ b := fun e => by
    subst e
    rw [hl] at hb
    cases hb
    rw [hc] at hc2
    exact absurd hc2 (by simp)
  refine rc_eq_decline_or (k := false) ⟨_, hl, hc⟩ ⟨_, hb, hc2⟩ (by decide) F.sub_tuple_dict F.slot_dict_eq F.slot_tuple_eq_refl
    (fun _ hq => call_meets F.slot_dict_eq ⟨_, hl, hc⟩ F.entry_dict_eq (F.args_dict_eq_2 _ _) (dict_declines_tup l b o o2 hc hc2) ⟨hl, hb, hq⟩)
    (fun _ hq => call_meets F.slot_tuple_eq_refl ⟨_, hb, hc2⟩ F.entry_tuple_eq (F.args_tuple_eq_2 _ _) (tup_declines_dict b l o2 o hc2 hc) ⟨hb, hl, hq⟩)
    (fun _ hq => wpAny_isSame_ref_other hne hl hb (by rw [hc]; simp) hq) (.inr hu) h
end
section
variable {X : Cx}
/-- an object that is no text: a list, a tuple, a dict -/
def NoTxt (H : Hp) (a : Addr) : Prop := (∃ ys, H a = some (.lst ys)) ∨ (∃ ys, H a = some (.tup ys)) ∨ ∃ kvs, H a = some (.dK kvs)
theorem eq_notxt {pins : List (Addr × Obj)} {σ : L2.St} {H : Hp} {s : Shared} (I : Inv X pins σ H s) {A : Around} (hu : A.units < cLine) {a : Addr} (h : NoTxt H a) (b : Str) (u : Tok) : EqAt A s (.str b u) (.ref a) false := by
  rcases h with ⟨ys, h⟩ | ⟨ys, h⟩ | ⟨kvs, h⟩
  · obtain ⟨its, r, pl, hz⟩ := I.list (SqL.of h)
    exact EqAt.str_list b u pl.isList hu
  · obtain ⟨its, r, pl, hz⟩ := I.tuple (SqT.of h)
    exact EqAt.str_tuple b u pl hu
  · obtain ⟨_, ns, vs, kv, o, es, ep, e1, ex, e2, ko, pr, nd⟩ := (show ObjOk X.prog X.w H s.heap a (.dK kvs) from I.hok a _ h)
    obtain ⟨cls, dd, data, sl⟩ := o
    exact eq_str_dict b u e1 ex.1 e2 hu
/-- x == t, t a tuple, x a dict -/
def rDT : R2 := fun x y H Q => ∃ a b kvs xs, x = .ref a ∧ y = .ref b ∧ H a = some (.dK kvs) ∧ H b = some (.tup xs) ∧ Q (.bl false) H
theorem op_eqDT (hu : X.A.units + 64 < cLine) : OpR X (compareOp .Eq) rDT := by
  intro pins s σ H x y v u Q I rx ry h
  obtain ⟨a, b, kvs, xs, rfl, rfl, ha, hb, q⟩ := h
  cases rx
  cases ry
  obtain ⟨_, ns, vs, kv, o, es, ep, e1, ex, e2, ko, pr, nd⟩ := (show ObjOk X.prog X.w H s.heap a (.dK kvs) from I.hok a _ ha)
  obtain ⟨its, r, ⟨o2, f1, f2, _⟩, hz⟩ := I.tuple (SqT.of hb)
  exact rc_dict_tup e1 ex.1 f1 f2 (by omega) _ _ _ _ ⟨.bl false, H, I, rfl, q⟩
/-- x in texts, x no text -/
def rInO (K : PySem.W.Frag) : R2 := fun x y H Q => ∃ (a p : Addr) (xs : List Str), x = .ref a ∧ NoTxt H a ∧ y = .ref p ∧ (SqL K H p (xs.map V.str) ∨ SqT K H p (xs.map V.str)) ∧ Q (.bl false) H
theorem strs_val : ∀ {xs : List Str} {us : List Value}, Vals (xs.map V.str) us → ∀ u ∈ us, ∃ b t, u = Value.str b t
  | [], _, r, u, h => by cases r; cases h
  | x :: xs, _, r, u, h => by
    cases r with
    | cons r1 r2 =>
      rcases List.mem_cons.mp h with e | e
      · obtain ⟨t, rfl⟩ := r1
        exact ⟨x, t, e⟩
      · exact strs_val r2 u e
theorem op_inO {K : PySem.W.Frag} (hK : X.K = K) (hu : X.A.units + 64 < cLine) : OpR X (compareOp .In) (rInO K) := by
  subst hK
  intro pins s σ H x y v u Q I rx ry h
  obtain ⟨a, p, xs, rfl, ha, rfl, hq, q⟩ := h
  cases rx
  cases ry
  rcases hq with hq | hq
  · obtain ⟨its, r, pl, hz⟩ := I.list hq
    refine SeqAt.in_listAt (fun _ => false) pl.isList (fun w hw => ?_) ⟨.bl _, H, I, rfl, ?_⟩
    · obtain ⟨b, t, rfl⟩ := strs_val r w (by simpa using hw)
      exact eq_notxt I (by show X.A.units + 1 < cLine; omega) ha b t
    · rw [show its.toArray.any (fun _ => false) = false by simp]
      exact q
  · obtain ⟨its, r, pl, hz⟩ := I.tuple hq
    refine SeqAt.in_tupleAt (fun _ => false) pl (fun w hw => ?_) ⟨.bl _, H, I, rfl, ?_⟩
    · obtain ⟨b, t, rfl⟩ := strs_val r w (by simpa using hw)
      exact eq_notxt I (by show X.A.units + 1 < cLine; omega) ha b t
    · rw [show its.toArray.any (fun _ => false) = false by simp]
      exact q
end
end EM
namespace ET
open PySem PySem.Spec PyProof.Rows L2
/-! ### enumerate of a tuple -/
set_option maxHeartbeats 1000000 in
theorem newB1 {u : Value} {ob : Obj} {Hh : Heap → Prop} (B : Begins u ob Hh) :
    Meets (Builtin.«enumerate.__new__» ⟨[.type "enumerate", u], []⟩) (fun _ R s => Hh s.heap ∧
      R (.ok (.ret (.ref (s.heap.push ob).objs.size))) { s with heap := (s.heap.push ob).push { cls := .type "enumerate", data := .fields #[.none, .bool false, .ref s.heap.objs.size, rawInt 0, .none, .none] } }) :=
  .of_wp fun prog w A R s hh => by
    obtain ⟨hp, gg, dd, tk, os⟩ := s; obtain ⟨h1, h⟩ := hh
    have hsub := sub_enumerate
    have hbeg : ∀ {A' : Around} {E : Value → Shared → Prop} {Q : Value → Shared → Prop}, Q (.ref hp.objs.size) ⟨hp.push ob, gg, dd, tk, os⟩ → wpAny (model prog w) A' (pyIter u) Q E ⟨hp, gg, dd, tk, os⟩ :=
      fun q => B.iter prog w _ _ ⟨hp, gg, dd, tk, os⟩ _ h1 q
    wp_walk using hbeg
    refine wpAny_stack_any fun st => wpAny_pure ?_
    split
    · rename_i cl _ _ _ _ _
      cases (cl == Value.type "enumerate")
      · wp_walk using hbeg
        exact ⟨_, rfl, h⟩
      · wp_walk using hbeg
        exact ⟨_, rfl, h⟩
    · wp_walk using hbeg
      exact ⟨_, rfl, h⟩
theorem call_enumB {prog : Program} {w : World} {A : Around} {E : Value → Shared → Prop} {s : Shared} {u : Value} {ob : Obj} {Hh : Heap → Prop} {Q : Value → Shared → Prop} (B : Begins u ob Hh) (h1 : Hh s.heap)
    (h : ∀ h', IsEnum h' (s.heap.objs.size + 1) s.heap.objs.size 0 .none → h'.get? s.heap.objs.size = some ob → (∀ b o, s.heap.get? b = some o → h'.get? b = some o) → Q (.ref (s.heap.objs.size + 1)) { s with heap := h' }) :
    wpAny (model prog w) A (call (.type "enumerate") [u]) Q E s := by
  refine callType_new F.called_enumerate (by decide) (F.typeCall_enumerate_1 _) (F.newCall_enumerate_1 _) (fun oo => F.args_object_init_2 oo _) F.entry_enumerate_new (newB1 B) ⟨h1, ?_⟩
  have sz : (s.heap.push ob).objs.size = s.heap.objs.size + 1 := Heap.size_push ..
  show _ ∧ _
  rw [sz]
  have en : IsEnum ((s.heap.push ob).push { cls := .type "enumerate", data := .fields #[.none, .bool false, .ref s.heap.objs.size, rawInt 0, .none, .none] }) (s.heap.objs.size + 1) s.heap.objs.size 0 .none := by
    have z := Heap.get?_push_size (s.heap.push ob) (o := { cls := .type "enumerate", data := .fields #[.none, .bool false, .ref s.heap.objs.size, rawInt 0, .none, .none] }) rfl
    rw [sz] at z; exact z
  refine ⟨⟨_, en, rfl⟩, h _ en (Heap.get?_push_of_some _ (Heap.get?_push_size _ B.free)) fun b o e => Heap.get?_push_of_some _ (Heap.get?_push_of_some _ e)⟩
def IteT (K : PySem.W.Frag) (a : Addr) : It :=
  ⟨fun i H => ∃ (xs : List V) (x : V), SqT K H a xs ∧ xs[i]? = some x, fun i H v H' => ∃ T x, v = .ref T ∧ H T = none ∧ H' = upd H T (.tup [.int ((i : Nat) : Int), x]) ∧ ∀ xs, SqT K H a xs → xs[i]? = some x, fun i H => ∃ xs : List V, SqT K H a xs ∧ xs.length = i⟩
theorem turn_enumT {P : Program} {w : World} {K : PySem.W.Frag} {elts : List Expr} {kk : Nat} {tpos : Pos} (a e it : Addr) :
    Turn P w K (.Tuple elts kk tpos) (IteT K a) [e, it] e (fun i h => (∃ old, IsEnum h e it ((i : Nat) : Int) old) ∧ h.IsTupleIter it a i ∧ e ≠ it ∧ a ≠ it ∧ a ≠ e) where
  mem := List.mem_cons_self
  obj := by
    intro i h st b hb
    obtain ⟨⟨old, he⟩, ⟨o, ho, hc, hd⟩, _⟩ := st
    rcases List.mem_cons.mp hb with z | hb
    · subst z; exact ⟨_, he, fun v q => nomatch q⟩
    · rw [List.mem_singleton] at hb
      subst hb; exact ⟨o, ho, fun v q => by rw [hd] at q; cases q⟩
  keep := by
    intro i h h' st k
    obtain ⟨⟨old, he⟩, hi, hne⟩ := st
    exact ⟨⟨old, k e List.mem_cons_self _ he⟩, hi.at fun o q => k it (List.mem_cons_of_mem _ List.mem_cons_self) o q, hne⟩
  item := by
    intro X hP hw hK hc i pins s σ H E I hf st hg
    subst hP hw hK
    obtain ⟨⟨old, he⟩, hit, hne, hai, hae⟩ := st
    obtain ⟨xs, x, hq, hx⟩ := hg
    obtain ⟨its, rv, pt, hz⟩ := I.tuple hq
    obtain ⟨u, hu, ru⟩ := rv.get hx
    have hel : e < s.heap.objs.size := Heap.lt_size he
    have hil : it < s.heap.objs.size := by obtain ⟨_, q, _⟩ := hit; exact Heap.lt_size q
    have ilt : i < its.toArray.size := by
      obtain ⟨z, _⟩ := List.getElem?_eq_some_iff.mp hu
      simpa using z
    have pt' : s.heap.IsTuple a its.toArray := pt
    refine wpAny_pyNext_enum_itemC (A := X.A) (Draws.tuple (A := X.A.in1) (I.ok.hd hc) it a hai its.toArray) he ⟨hit, pt'⟩ ilt hne (by simp [hne, Ne.symm hae]) fun v h' tk ev ho hst hT hsz hk => ?_
    obtain rfl : v = u := by
      have e2 : its.toArray[i]? = some u := by simpa using hu
      rw [e2] at ev; cases ev; rfl
    refine ⟨_, rfl, wpAny_letOwnedTupleGo_enum (s := { s with heap := h', toks := tk + 1 }) ho fun h'' he' sb => ?_⟩
    have hT2 : h''.get? s.heap.objs.size = some { cls := .type "tuple", data := .seq #[.int ((i : Nat) : Int) tk, v] } := (sb.2 _ (Nat.ne_of_gt hel)).trans hT
    have new : ObjOk X.prog X.w (upd H s.heap.objs.size (.tup [.int ((i : Nat) : Int), x])) h'' s.heap.objs.size (.tup [.int ((i : Nat) : Int), x]) :=
      ⟨by show 2 ≤ sizeLine; decide, [.int ((i : Nat) : Int) tk, v], .cons ⟨_, rfl⟩ (.cons ru .nil), ⟨_, hT2, rfl, _, rfl⟩⟩
    have I1 : Inv X pins σ (upd H s.heap.objs.size (.tup [.int ((i : Nat) : Int), x])) { s with heap := h'', toks := tk + 1 } :=
      I.turnedNew (t' := tk + 1) (ch := [e, it]) (fun b ob hb q => (sb.2 b (fun z => hb (by simp [z]))).trans (hk b ob (fun z => hb (by simp [z])) (fun z => hb (by simp [z])) q)) hf (Nat.le_refl _) new
    refine ⟨.ref s.heap.objs.size, _, I1, rfl, ⟨_, x, rfl, I.hok.fresh (Nat.le_refl _), rfl, fun ys hy => by rw [I.tuple_inj hy hq]; exact hx⟩, ⟨⟨v, ?_⟩, hst.1.at fun o q => (sb.2 it (Ne.symm hne)).trans q, hne, hai, hae⟩, fun b hb => ?_⟩
    · have e1 : ((i + 1 : Nat) : Int) = (i : Int) + 1 := by omega
      rw [e1]; exact he'
    · have hb' : b < s.heap.objs.size := by
        rcases List.mem_cons.mp hb with z | hb
        · rw [z]; exact hel
        · rw [List.mem_singleton] at hb
          rw [hb]; exact hil
      rw [upd_ne (Nat.ne_of_lt hb')]
      exact (hf b hb).1
  done := by
    intro X hP hw hK hc i pins s σ H E I hf st hg
    subst hP hw hK
    obtain ⟨⟨old, he⟩, hit, hne, hai, hae⟩ := st
    obtain ⟨xs, hq, hx⟩ := hg
    obtain ⟨its, rv, pt, hz⟩ := I.tuple hq
    obtain ⟨f0, f1, f2, f3, f4, f5⟩ := hf it (List.mem_cons_of_mem _ List.mem_cons_self)
    have hl := rv.length
    have z : i = its.toArray.size := by simp; omega
    rw [z] at hit
    have pt' : s.heap.IsTuple a its.toArray := pt
    exact wpAny_pyNext_enum_endD (A := X.A) (Draws.tuple (A := X.A.in1) (I.ok.hd hc) it a hai its.toArray) he ⟨hit, pt'⟩ fun h' eb => ⟨rfl, I.turned (t' := s.toks) (fun b o hb q => eb b o hb q) f0 f1 f3 f4 f5⟩
  self := fun A i s Q E st h => by
    obtain ⟨⟨_, he⟩, _⟩ := st
    exact wpAny_pyIter_enum he h
def iEnumT (K : PySem.W.Frag) (ta : TA) : TI := fun σ H R => ta σ H fun vs H1 => ∃ a xs, vs = [.ref a] ∧ SqT K H1 a xs ∧ R (IteT K a) H1
theorem pi_enumT {X : Cx} {K : PySem.W.Frag} {e : Expr} {ta : TA} {p pos tpos : Pos} {elts : List Expr} {kk : Nat} (hK : X.K = K) (hg : Gl X "enumerate") (hm : X.mg "enumerate" = none) (ha : PA X [e] ta) (hs : starEach [e] X.env = [(false, eval e X.env)] := by rfl) :
    PI X (.Tuple elts kk tpos) (.Call (.Name "enumerate" p) [e] [] pos) (iEnumT K ta) := by
  subst hK
  constructor
  intro pins s σ H R I h
  refine Call_ (ld_blt I hg hm boot_enumerate (PyProof.Rows.callWith_type1 (thn (ha.run pos pins s σ H _ I h) fun us s1 hh => ?_) hs rfl))
  obtain ⟨vs, H1, I1, r1, a, xs, ex, hq, q⟩ := hh
  subst ex
  obtain ⟨u, rfl, ru⟩ := r1.one
  cases (show u = Value.ref a from ru)
  obtain ⟨its, rv, pt, hz⟩ := I1.tuple hq
  have la : a < s1.heap.objs.size := by obtain ⟨o, q, _⟩ := (show s1.heap.IsTuple a its.toArray from pt); exact Heap.lt_size q
  refine call_enumB (begins_tuple a its.toArray) pt fun h' he hit hk => wpAny_pyIter_enum he ?_
  have I3 : Inv X pins σ H1 { s1 with heap := h' } := I1.kept (t' := s1.toks) hk
  refine ⟨s1.heap.objs.size + 1, [s1.heap.objs.size + 1, s1.heap.objs.size], _, _, H1, rfl, I3, turn_enumT a (s1.heap.objs.size + 1) s1.heap.objs.size, ⟨⟨.none, he⟩, ⟨_, hit, rfl, rfl⟩, Nat.succ_ne_self _, Nat.ne_of_lt la, Nat.ne_of_lt (Nat.lt_succ_of_lt la)⟩, fun b hb => ?_, q⟩
  have hle : s1.heap.objs.size ≤ b := by
    rcases List.mem_cons.mp hb with z | hb
    · rw [z]; exact Nat.le_add_right _ _
    · rw [List.mem_singleton] at hb
      rw [hb]; exact Nat.le_refl _
  exact I1.fpOk hle (I1.hok.fresh hle)
theorem walk_enumT {K : PySem.W.Frag} {a : Addr} {xs : List V} : Walk (IteT K a) xs.length (fun H => SqT K H a xs) (YPair (fun i => some (.int ((i : Nat) : Int))) (fun i => xs[i]?)) := by
  refine ⟨fun i _ hi q => ⟨xs, xs[i], q, List.getElem?_eq_getElem hi⟩, fun _ q => ⟨xs, q, rfl⟩, fun i H v H' _ q y => ?_⟩
  obtain ⟨T, x, h1, h2, h3, h4⟩ := y
  exact ⟨T, .int ((i : Nat) : Int), x, h1, h2, h3, rfl, h4 xs q⟩
theorem g_iEnumT {K : PySem.W.Frag} {σ : L2.St} {H : Hp} {ta : TA} {R : It → Hp → Prop} (q : ta σ H fun vs H1 => ∃ a xs, vs = [.ref a] ∧ SqT K H1 a xs ∧ R (IteT K a) H1) : iEnumT K ta σ H R := q
end ET
namespace MD
open PySem PySem.Spec PyProof.Rows L2
/-! ### min(list, default = ..) of whole numbers -/
def rMinD (K : PySem.W.Frag) : List V → List V → Hp → VK → Prop := fun xs zs H Q => ∃ (a : Addr) (ns : List Int) (d : V), xs = [V.ref a] ∧ zs = [d] ∧ SqL K H a (ns.map V.int) ∧ (ns = [] → Q d H) ∧ ∀ m, m ∈ ns → (∀ y ∈ ns, m ≤ y) → Q (.int m) H
theorem reads_ints {h : Heap} : ∀ {ns : List Int} {its : List Value}, Vals (ns.map V.int) its → ∃ as, ReadsAll h its (ns.map PyData.int) as
  | [], _, r => by cases r; exact ⟨_, .nil⟩
  | n :: ns, _, r => by
    cases r with
    | cons r1 r2 =>
      obtain ⟨t, rfl⟩ := r1
      obtain ⟨as, q⟩ := reads_ints r2
      exact ⟨_, .cons (.int n t) q⟩
theorem foldl_min : ∀ (ns : List Int) (n : Int), ns.foldl min n ∈ n :: ns ∧ ∀ y ∈ n :: ns, ns.foldl min n ≤ y
  | [], n => ⟨List.mem_cons_self, fun y h => by rw [List.mem_singleton] at h; rw [h]; exact Int.le_refl _⟩
  | k :: r, n => by
    obtain ⟨h2, h3⟩ := foldl_min r (min n k)
    rw [List.foldl_cons]
    have z := h3 _ List.mem_cons_self
    refine ⟨?_, fun y hy => ?_⟩
    · rcases List.mem_cons.mp h2 with q | q
      · rw [q]
        rcases (show min n k = n ∨ min n k = k by omega) with e | e
        · rw [e]; exact List.mem_cons_self
        · rw [e]; exact List.mem_cons_of_mem _ List.mem_cons_self
      · exact List.mem_cons_of_mem _ (List.mem_cons_of_mem _ q)
    · rcases List.mem_cons.mp hy with rfl | hy
      · omega
      · rcases List.mem_cons.mp hy with rfl | hy
        · omega
        · exact h3 y (List.mem_cons_of_mem _ hy)
theorem alike_ints (ns : List Int) : PySem.W.AlikeAll (ns.map PyData.int) := by
  refine ⟨fun x hx y hy => ?_, fun x hx => ?_⟩
  · obtain ⟨i, _, rfl⟩ := List.mem_map.mp hx
    obtain ⟨j, _, rfl⟩ := List.mem_map.mp hy
    rfl
  · obtain ⟨i, _, rfl⟩ := List.mem_map.mp hx
    intro z
    cases z
theorem depth_ints : ∀ ns : List Int, PyData.depthAll (ns.map PyData.int) ≤ 1
  | [] => by simp [PyData.depthAll]
  | n :: r => by
    have := depth_ints r
    simp only [List.map_cons, PyData.depthAll, PyData.depth]
    omega
theorem cr_minD {X : Cx} {K : PySem.W.Frag} (hK : X.K = K) (hc : X.calm = true) (hu : X.A.units + 64 < cLine) : CallRK X (.builtin "min") [Str.ofString "default"] (rMinD K) := by
  subst hK
  intro pins s σ H xs zs us ws Q I r rz h
  obtain ⟨a, ns, d, rfl, rfl, hs, h0, h1⟩ := h
  obtain ⟨u, rfl, ru⟩ := r.one
  cases (show u = Value.ref a from ru)
  obtain ⟨w, rfl, rw1⟩ := rz.one
  obtain ⟨its, rv, hl, _⟩ := I.list hs
  obtain ⟨as, rd⟩ := reads_ints (h := s.heap) rv
  have dd := depth_ints ns
  refine PySem.W.min_list_default (xs := ns.map PyData.int) (as := as) (I.ok.hd hc) hl.isList rd (alike_ints ns) (by omega) (fun e h' tk hk => ?_) fun y ys i v h' tk bs e hv hrd hk => ?_
  · have e : ns = [] := by
      cases ns with
      | nil => rfl
      | cons => cases e
    exact ⟨d, H, I.kept (t' := tk) hk, rw1, h0 e⟩
  · cases ns with
    | nil => cases e
    | cons n r =>
      rw [List.map_cons] at e
      injection e with e1 e2
      subst e1 e2
      rw [PySem.W.minD_ints] at hrd
      obtain ⟨m1, m2⟩ := foldl_min r n
      generalize r.foldl min n = m at hrd m1 m2
      obtain ⟨t, rfl⟩ : ∃ t, v = Value.int m t := by cases hrd; exact ⟨_, rfl⟩
      exact ⟨.int m, H, I.kept (t' := tk) hk, ⟨t, rfl⟩, h1 m m1 m2⟩
theorem g_minD {K : PySem.W.Frag} {a : Addr} {ns : List Int} {H : Hp} {Q : VK} {d : V} (hs : SqL K H a (ns.map V.int)) (q0 : ns = [] → Q d H) (q1 : ∀ m, m ∈ ns → (∀ y ∈ ns, m ≤ y) → Q (.int m) H) : rMinD K [V.ref a] [d] H Q := ⟨a, ns, d, rfl, rfl, hs, q0, q1⟩
theorem g_ckw {r : List V → List V → Hp → VK → Prop} {t tk : TA} {σ : L2.St} {H : Hp} {Q : VK} (q : t σ H fun vs H1 => tk σ H1 fun zs H2 => r vs zs H2 Q) : tCKw r t tk σ H Q := q
end MD
namespace MT
open PySem PySem.Spec PyProof.Rows L2
/-! ### min, max of a tuple of whole numbers -/
def rMinT (K : PySem.W.Frag) : List V → Hp → VK → Prop := fun xs H Q => ∃ (a : Addr) (ns : List Int), xs = [V.ref a] ∧ SqT K H a (ns.map V.int) ∧ 0 < ns.length ∧ ∀ m, m ∈ ns → (∀ y ∈ ns, m ≤ y) → Q (.int m) H
def rMaxT (K : PySem.W.Frag) : List V → Hp → VK → Prop := fun xs H Q => ∃ (a : Addr) (ns : List Int), xs = [V.ref a] ∧ SqT K H a (ns.map V.int) ∧ 0 < ns.length ∧ ∀ m, m ∈ ns → (∀ y ∈ ns, y ≤ m) → Q (.int m) H
theorem foldl_max : ∀ (ns : List Int) (n : Int), ns.foldl max n ∈ n :: ns ∧ ∀ y ∈ n :: ns, y ≤ ns.foldl max n
  | [], n => ⟨List.mem_cons_self, fun y h => by rw [List.mem_singleton] at h; rw [h]; exact Int.le_refl _⟩
  | k :: r, n => by
    obtain ⟨h2, h3⟩ := foldl_max r (max n k)
    rw [List.foldl_cons]
    have z := h3 _ List.mem_cons_self
    refine ⟨?_, fun y hy => ?_⟩
    · rcases List.mem_cons.mp h2 with q | q
      · rw [q]
        rcases (show max n k = n ∨ max n k = k by omega) with e | e
        · rw [e]; exact List.mem_cons_self
        · rw [e]; exact List.mem_cons_of_mem _ List.mem_cons_self
      · exact List.mem_cons_of_mem _ (List.mem_cons_of_mem _ q)
    · rcases List.mem_cons.mp hy with rfl | hy
      · omega
      · rcases List.mem_cons.mp hy with rfl | hy
        · omega
        · exact h3 y (List.mem_cons_of_mem _ hy)
theorem cr_minT {X : Cx} {K : PySem.W.Frag} (hK : X.K = K) (hc : X.calm = true) (hu : X.A.units + 64 < cLine) : CallR X (.builtin "min") (rMinT K) := by
  subst hK
  intro pins s σ H xs us Q I r h
  obtain ⟨a, ns, rfl, hs, h0, h1⟩ := h
  obtain ⟨u, rfl, ru⟩ := r.one
  cases (show u = Value.ref a from ru)
  obtain ⟨its, rv, hl, _⟩ := I.tuple hs
  obtain ⟨as, rd⟩ := MD.reads_ints (h := s.heap) rv
  have dd := MD.depth_ints ns
  cases ns with
  | nil => exact absurd h0 (Nat.lt_irrefl _)
  | cons n r =>
    refine PySem.W.min_tuple_data (x := PyData.int n) (xs := r.map PyData.int) (as := as) (I.ok.hd hc) hl rd (MD.alike_ints (n :: r)) (by rw [List.map_cons] at dd; omega) fun i v h' tk bs hv hrd hk => ?_
    rw [PySem.W.minD_ints] at hrd
    obtain ⟨m1, m2⟩ := MD.foldl_min r n
    generalize r.foldl min n = m at hrd m1 m2
    obtain ⟨t, rfl⟩ : ∃ t, v = Value.int m t := by cases hrd; exact ⟨_, rfl⟩
    exact ⟨.int m, H, I.kept (t' := tk) hk, ⟨t, rfl⟩, h1 m m1 m2⟩
theorem cr_maxT {X : Cx} {K : PySem.W.Frag} (hK : X.K = K) (hc : X.calm = true) (hu : X.A.units + 64 < cLine) : CallR X (.builtin "max") (rMaxT K) := by
  subst hK
  intro pins s σ H xs us Q I r h
  obtain ⟨a, ns, rfl, hs, h0, h1⟩ := h
  obtain ⟨u, rfl, ru⟩ := r.one
  cases (show u = Value.ref a from ru)
  obtain ⟨its, rv, hl, _⟩ := I.tuple hs
  obtain ⟨as, rd⟩ := MD.reads_ints (h := s.heap) rv
  have dd := MD.depth_ints ns
  cases ns with
  | nil => exact absurd h0 (Nat.lt_irrefl _)
  | cons n r =>
    refine PySem.W.max_tuple_data (x := PyData.int n) (xs := r.map PyData.int) (as := as) (I.ok.hd hc) hl rd (MD.alike_ints (n :: r)) (by rw [List.map_cons] at dd; omega) fun i v h' tk bs hv hrd hk => ?_
    rw [PySem.W.maxD_ints] at hrd
    obtain ⟨m1, m2⟩ := foldl_max r n
    generalize r.foldl max n = m at hrd m1 m2
    obtain ⟨t, rfl⟩ : ∃ t, v = Value.int m t := by cases hrd; exact ⟨_, rfl⟩
    exact ⟨.int m, H, I.kept (t' := tk) hk, ⟨t, rfl⟩, h1 m m1 m2⟩
theorem g_minT {K : PySem.W.Frag} {a : Addr} {ns : List Int} {H : Hp} {Q : VK} (hs : SqT K H a (ns.map V.int)) (h0 : 0 < ns.length) (q1 : ∀ m, m ∈ ns → (∀ y ∈ ns, m ≤ y) → Q (.int m) H) : rMinT K [V.ref a] H Q := ⟨a, ns, rfl, hs, h0, q1⟩
theorem g_maxT {K : PySem.W.Frag} {a : Addr} {ns : List Int} {H : Hp} {Q : VK} (hs : SqT K H a (ns.map V.int)) (h0 : 0 < ns.length) (q1 : ∀ m, m ∈ ns → (∀ y ∈ ns, y ≤ m) → Q (.int m) H) : rMaxT K [V.ref a] H Q := ⟨a, ns, rfl, hs, h0, q1⟩
end MT
local macro_rules | `(tactic| walk_at "u1") => `(tactic| first
  | (with_reducible refine U.g_seq ?_) | (with_reducible refine U.g_asg ?_) | (with_reducible refine U.g_name ?_) | (with_reducible refine U.g_op ?_) | ((with_reducible refine' U.g_var ?k1 ?k2); (case k1 => exact rfl)) | (with_reducible refine U.g_c ?_)
  | (with_reducible refine U.g_cons ?_) | (with_reducible refine U.g_nil ?_) | (with_reducible refine U.g_cb ?_) | (with_reducible refine U.g_call ?_) | (with_reducible refine U.g_ret ?_) | (with_reducible refine U.g_drop ?_)
  | (with_reducible refine U.g_ifS ?_) | (with_reducible refine U.g_if ?_) | (with_reducible refine U.g_test ?_) | (with_reducible refine U.g_B ?_) | (with_reducible refine U.g_un ?_) | (with_reducible refine U.g_next ?_)
  | (with_reducible refine U.g_bl ?_) | (with_reducible refine U.g_blP ?_) | (with_reducible refine U.g_addI ?_) | (with_reducible refine U.g_subI ?_) | (with_reducible refine U.g_cmpI ?_) | (with_reducible refine U.g_intI ?_) | (with_reducible refine U.g_intB ?_)
  | (with_reducible refine U.g_absI ?_) | (with_reducible refine U.g_negI ?_) | (with_reducible refine U.g_mmI ?_) | (with_reducible refine U.g_and ?_) | (with_reducible refine U.g_or ?_) | (with_reducible refine U.g_not ?_) | (with_reducible refine U.g_andV ?_) | (with_reducible refine U.g_orV ?_) | (with_reducible refine U.g_notV ?_)
  | (with_reducible refine U.g_lst ?_) | (with_reducible refine U.g_tup ?_) | (with_reducible refine U.g_sub ?_) | (with_reducible refine U.g_lrg ?_) | (with_reducible refine U.g_rg1 ?_) | (with_reducible refine U.g_intE ?_) | (with_reducible refine U.g_sl ?_) | (with_reducible refine U.g_noP ?_) | (with_reducible refine U.g_part ?_) | (with_reducible refine U.g_lc ?_) | (with_reducible refine U.g_for ?_) | (with_reducible refine U.g_iList ?_) | (with_reducible refine U.g_iTup ?_) | (with_reducible refine U.g_iRng1 ?_) | (with_reducible refine U.g_iStr ?_) | (with_reducible refine U.g_iEnum ?_) | (with_reducible refine U.g_iVals ?_)
  | (with_reducible refine U.g_dnotin ?_) | (with_reducible refine U.g_din ?_) | (with_reducible refine U.g_dget ?_) | (with_reducible refine U.g_dput ?_) | (with_reducible refine U.g_bm ?_) | (with_reducible refine U.g_bm0 ?_) | (with_reducible refine U.g_dnewK ?_)
  | (with_reducible refine U.g_gcons ?_) | (with_reducible refine U.g_gnil ?_) | (with_reducible refine U.g_par ?_) | (with_reducible refine U.e_two ?_)
  | ((with_reducible refine' U.g_gtup ?k1 ?k2 ?k3); (case k1 => exact L2.SqT.of (by walk_at "hp")); (case k2 => exact rfl))
  | ((with_reducible refine' U.ty_lst ?k1 ?k2); (case k1 => walk_at "hp"))
  | (with_reducible refine U.g_strS ?_) | ((with_reducible refine' U.g_strI ?k1 ?k2); (case k1 => first | decide | omega))
  | (with_reducible refine U.g_nT ?_) | (with_reducible refine U.g_nF ?_) | (with_reducible refine U.g_chain ?_) | (with_reducible refine U.g_m1 ?_) | (with_reducible refine U.e_strE ?_) | (with_reducible refine U.g_disp ?_) | (with_reducible refine U.g_pcons ?_) | (with_reducible refine U.g_pnil ?_) | (with_reducible refine U.e_non ?_) | (with_reducible refine U.g_yes ?_) | (with_reducible refine U.g_cont ?_) | (with_reducible refine U.g_T ?_) | (with_reducible refine U.g_F ?_)
  | ((with_reducible refine' U.g_modI ?k1 ?k2); (case k1 => first | assumption | decide | omega))
  | ((with_reducible refine' U.g_divP ?k1 ?k2 ?k3); (case k1 => first | assumption | decide | omega); (case k2 => first | assumption | decide | omega))
  | (with_reducible refine U.g_mulB ?_) | (with_reducible refine U.g_powL (by decide +kernel) ?_) | (with_reducible refine U.g_modL (by decide +kernel) ?_)
  | ((with_reducible refine' U.g_mulL ?k1 ?k2); (case k1 => first | decide | omega))
  | ((with_reducible refine' U.g_mulR ?k1 ?k2); (case k1 => first | decide | omega))
  | ((with_reducible refine' U.g_ix ?k1 ?k2 ?k3); (case k1 => walk_at "sq"); (case k2 => exact rfl))
  | ((with_reducible refine' U.g_setL ?k1 ?k2 ?k3); (case k1 => walk_at "hp"); (case k2 => exact rfl))
  | ((with_reducible refine' U.g_eqS ?k1 ?k2); (case k1 => rfl)))
/-- what stands at an address, behind stores -/
local macro_rules | `(tactic| walk_at "hp") => `(tactic| first
  | assumption
  | ((with_reducible refine' U.get_same ?k1); (case k1 => exact rfl))
  | ((with_reducible refine' U.get_new ?k1 ?k2); (case k1 => assumption); (case k2 => walk_at "hp"))
  | ((with_reducible refine' U.get_ne ?k1 ?k2); (case k1 => first | assumption | (apply Ne.symm; assumption)); (case k2 => walk_at "hp")))
local macro_rules | `(tactic| walk_at "sq") => `(tactic| first
  | assumption | exact Or.inl (by assumption) | exact Or.inr (by assumption)
  | exact Or.inl (L2.SqL.of (by walk_at "hp")) | exact Or.inr (L2.SqT.of (by walk_at "hp")))
local macro_rules | `(tactic| walk_at "st") => `(tactic| dsimp only [L2.cxOf, L2.start, List.map, List.length, List.replicate, HAppend.hAppend, Append.append, List.append, Nat.reduceAdd, Nat.reduceSub])
local macro_rules | `(tactic| walk_at "ds") => `(tactic| try dsimp only [List.set, Int.reduceToNat])
local macro_rules | `(tactic| walk_at "go") => `(tactic| ((try dsimp only); (repeat walk_at "u1"); walk_at "ds"))
local macro_rules | `(tactic| walk_at "c2") => `(tactic| (refine U.g_2 (fun c => ?_) (fun c => ?_) <;> (try simp only [decide_eq_true_eq, decide_eq_false_iff_not, Bool.not_eq_true', Bool.not_eq_false'] at c)))
namespace Toy
open PySem L2 U
/-! ### the text by places -/
def top (i : Nat) : Stmt := PySem.Challenge.pw_alikecrowds_k06_marks_finer_joined_least.main.body.getD i (.Pass ⟨0, 0, 0, 0⟩)
abbrev s_CrowdError___init__ : Stmt := (inClass (top 2) 0)
abbrev s_is_integer : Stmt := (top 16)
abbrev s_is_name : Stmt := (top 17)
abbrev s_is_tuple_of : Stmt := (top 18)
abbrev s_integer_in : Stmt := (top 19)
abbrev s_values_stand : Stmt := (top 20)
abbrev s_is_line_value : Stmt := (top 21)
abbrev s_Line_is_value : Stmt := (inClass (top 22) 0)
abbrev s_Line_is_mark : Stmt := (inClass (top 22) 1)
abbrev s_Line_value_in : Stmt := (inClass (top 22) 2)
abbrev s_Line_covers : Stmt := (inClass (top 22) 5)
abbrev s_Line_is_finer : Stmt := (inClass (top 22) 6)
abbrev s_Line_joined : Stmt := (inClass (top 22) 7)
abbrev s_Line_common : Stmt := (inClass (top 22) 8)
abbrev s_Line_least : Stmt := (inClass (top 22) 9)
abbrev s_Line_loss : Stmt := (inClass (top 22) 10)
abbrev s_Tree___init__ : Stmt := (inClass (top 23) 0)
abbrev s_Tree_add_kind : Stmt := (inClass (top 23) 1)
abbrev s_Tree__can_be_up : Stmt := (inClass (top 23) 2)
abbrev s_Tree_is_value : Stmt := (inClass (top 23) 3)
abbrev s_Tree_is_mark : Stmt := (inClass (top 23) 4)
abbrev s_Tree_value_in : Stmt := (inClass (top 23) 5)
abbrev s_Tree_covers : Stmt := (inClass (top 23) 8)
abbrev s_Tree_is_finer : Stmt := (inClass (top 23) 9)
abbrev s_Tree_joined : Stmt := (inClass (top 23) 10)
abbrev s_Tree_common : Stmt := (inClass (top 23) 11)
abbrev s_Tree_least : Stmt := (inClass (top 23) 12)
abbrev s_Tree_loss : Stmt := (inClass (top 23) 13)
abbrev s_Draft___init__ : Stmt := (inClass (top 27) 0)
abbrev s_Draft_is_ready : Stmt := (inClass (top 27) 1)
abbrev s_Draft_add_column : Stmt := (inClass (top 27) 2)
abbrev s_Draft_add_kind : Stmt := (inClass (top 27) 3)
abbrev s_Draft_add_person : Stmt := (inClass (top 27) 4)
abbrev s_Register___init__ : Stmt := (inClass (top 28) 0)
abbrev s_Register___eq__ : Stmt := (inClass (top 28) 1)
abbrev s_Register___len__ : Stmt := (inClass (top 28) 2)
abbrev s_draft_in : Stmt := (top 29)
abbrev s_add_line : Stmt := (top 30)
abbrev s_kind_in : Stmt := (top 31)
abbrev s_person_in : Stmt := (top 32)
abbrev s_is_kinds_column : Stmt := (top 33)
abbrev s_scale_of : Stmt := (top 34)
abbrev s_scale_of_marks : Stmt := (top 36)
abbrev s_is_mark : Stmt := (top 37)
abbrev s_covers : Stmt := (top 38)
abbrev s_is_finer : Stmt := (top 39)
abbrev s_joined_mark : Stmt := (top 40)
abbrev s_common_mark : Stmt := (top 41)
abbrev s_least_mark : Stmt := (top 42)
abbrev s__law_pot : Stmt := (top 44)
abbrev s__law_take : Stmt := (top 45)
abbrev s__law_of : Stmt := (top 46)
abbrev s__law_some : Stmt := (top 47)
abbrev s__law_cells : Stmt := (top 48)
abbrev s__law_names : Stmt := (top 49)
abbrev s__law_kinds : Stmt := (top 50)
abbrev s__law_kind_names : Stmt := (top 51)
abbrev s__law_values : Stmt := (top 52)
abbrev s__law_register : Stmt := (top 53)
abbrev s__law_register_text : Stmt := (top 54)
abbrev s__law_chain : Stmt := (top 55)
abbrev s__law_does_cover : Stmt := (top 56)
abbrev s__law_a_mark : Stmt := (top 57)
abbrev s__law_under : Stmt := (top 58)
abbrev s__law_joined : Stmt := (top 59)
abbrev s__law_common : Stmt := (top 60)
abbrev s__law_is_pair_right : Stmt := (top 61)
abbrev s__law_is_least_right : Stmt := (top 62)
abbrev s__law_are_odd_told : Stmt := (top 63)
abbrev s__law_right : Stmt := (top 64)
abbrev s_law : Stmt := (top 65)
/-! ### what the top has written -/
structure Tx (K : PySem.W.Frag) (mg : Str → Option Value) where
  a_CrowdError___init__ : Addr
  fd_CrowdError___init__ : FuncData
  F_CrowdError___init__ : Fun K "__init__" "CrowdError.__init__" s_CrowdError___init__ a_CrowdError___init__ fd_CrowdError___init__
  a_is_integer : Addr
  fd_is_integer : FuncData
  F_is_integer : Fun K "is_integer" "is_integer" s_is_integer a_is_integer fd_is_integer
  m_is_integer : mg "is_integer" = some (.ref a_is_integer)
  a_is_name : Addr
  fd_is_name : FuncData
  F_is_name : Fun K "is_name" "is_name" s_is_name a_is_name fd_is_name
  m_is_name : mg "is_name" = some (.ref a_is_name)
  a_is_tuple_of : Addr
  fd_is_tuple_of : FuncData
  F_is_tuple_of : Fun K "is_tuple_of" "is_tuple_of" s_is_tuple_of a_is_tuple_of fd_is_tuple_of
  m_is_tuple_of : mg "is_tuple_of" = some (.ref a_is_tuple_of)
  a_integer_in : Addr
  fd_integer_in : FuncData
  F_integer_in : Fun K "integer_in" "integer_in" s_integer_in a_integer_in fd_integer_in
  m_integer_in : mg "integer_in" = some (.ref a_integer_in)
  a_values_stand : Addr
  fd_values_stand : FuncData
  F_values_stand : Fun K "values_stand" "values_stand" s_values_stand a_values_stand fd_values_stand
  m_values_stand : mg "values_stand" = some (.ref a_values_stand)
  a_is_line_value : Addr
  fd_is_line_value : FuncData
  F_is_line_value : Fun K "is_line_value" "is_line_value" s_is_line_value a_is_line_value fd_is_line_value
  m_is_line_value : mg "is_line_value" = some (.ref a_is_line_value)
  a_Line_is_value : Addr
  fd_Line_is_value : FuncData
  F_Line_is_value : Fun K "is_value" "Line.is_value" s_Line_is_value a_Line_is_value fd_Line_is_value
  a_Line_is_mark : Addr
  fd_Line_is_mark : FuncData
  F_Line_is_mark : Fun K "is_mark" "Line.is_mark" s_Line_is_mark a_Line_is_mark fd_Line_is_mark
  a_Line_value_in : Addr
  fd_Line_value_in : FuncData
  F_Line_value_in : Fun K "value_in" "Line.value_in" s_Line_value_in a_Line_value_in fd_Line_value_in
  a_Line_covers : Addr
  fd_Line_covers : FuncData
  F_Line_covers : Fun K "covers" "Line.covers" s_Line_covers a_Line_covers fd_Line_covers
  a_Line_is_finer : Addr
  fd_Line_is_finer : FuncData
  F_Line_is_finer : Fun K "is_finer" "Line.is_finer" s_Line_is_finer a_Line_is_finer fd_Line_is_finer
  a_Line_joined : Addr
  fd_Line_joined : FuncData
  F_Line_joined : Fun K "joined" "Line.joined" s_Line_joined a_Line_joined fd_Line_joined
  a_Line_common : Addr
  fd_Line_common : FuncData
  F_Line_common : Fun K "common" "Line.common" s_Line_common a_Line_common fd_Line_common
  a_Line_least : Addr
  fd_Line_least : FuncData
  F_Line_least : Fun K "least" "Line.least" s_Line_least a_Line_least fd_Line_least
  a_Line_loss : Addr
  fd_Line_loss : FuncData
  F_Line_loss : Fun K "loss" "Line.loss" s_Line_loss a_Line_loss fd_Line_loss
  a_Tree___init__ : Addr
  fd_Tree___init__ : FuncData
  F_Tree___init__ : Fun K "__init__" "Tree.__init__" s_Tree___init__ a_Tree___init__ fd_Tree___init__
  a_Tree_add_kind : Addr
  fd_Tree_add_kind : FuncData
  F_Tree_add_kind : Fun K "add_kind" "Tree.add_kind" s_Tree_add_kind a_Tree_add_kind fd_Tree_add_kind
  a_Tree__can_be_up : Addr
  fd_Tree__can_be_up : FuncData
  F_Tree__can_be_up : Fun K "_can_be_up" "Tree._can_be_up" s_Tree__can_be_up a_Tree__can_be_up fd_Tree__can_be_up
  a_Tree_is_value : Addr
  fd_Tree_is_value : FuncData
  F_Tree_is_value : Fun K "is_value" "Tree.is_value" s_Tree_is_value a_Tree_is_value fd_Tree_is_value
  a_Tree_is_mark : Addr
  fd_Tree_is_mark : FuncData
  F_Tree_is_mark : Fun K "is_mark" "Tree.is_mark" s_Tree_is_mark a_Tree_is_mark fd_Tree_is_mark
  a_Tree_value_in : Addr
  fd_Tree_value_in : FuncData
  F_Tree_value_in : Fun K "value_in" "Tree.value_in" s_Tree_value_in a_Tree_value_in fd_Tree_value_in
  a_Tree_covers : Addr
  fd_Tree_covers : FuncData
  F_Tree_covers : Fun K "covers" "Tree.covers" s_Tree_covers a_Tree_covers fd_Tree_covers
  a_Tree_is_finer : Addr
  fd_Tree_is_finer : FuncData
  F_Tree_is_finer : Fun K "is_finer" "Tree.is_finer" s_Tree_is_finer a_Tree_is_finer fd_Tree_is_finer
  a_Tree_joined : Addr
  fd_Tree_joined : FuncData
  F_Tree_joined : Fun K "joined" "Tree.joined" s_Tree_joined a_Tree_joined fd_Tree_joined
  a_Tree_common : Addr
  fd_Tree_common : FuncData
  F_Tree_common : Fun K "common" "Tree.common" s_Tree_common a_Tree_common fd_Tree_common
  a_Tree_least : Addr
  fd_Tree_least : FuncData
  F_Tree_least : Fun K "least" "Tree.least" s_Tree_least a_Tree_least fd_Tree_least
  a_Tree_loss : Addr
  fd_Tree_loss : FuncData
  F_Tree_loss : Fun K "loss" "Tree.loss" s_Tree_loss a_Tree_loss fd_Tree_loss
  a_Draft___init__ : Addr
  fd_Draft___init__ : FuncData
  F_Draft___init__ : Fun K "__init__" "Draft.__init__" s_Draft___init__ a_Draft___init__ fd_Draft___init__
  a_Draft_is_ready : Addr
  fd_Draft_is_ready : FuncData
  F_Draft_is_ready : Fun K "is_ready" "Draft.is_ready" s_Draft_is_ready a_Draft_is_ready fd_Draft_is_ready
  a_Draft_add_column : Addr
  fd_Draft_add_column : FuncData
  F_Draft_add_column : Fun K "add_column" "Draft.add_column" s_Draft_add_column a_Draft_add_column fd_Draft_add_column
  a_Draft_add_kind : Addr
  fd_Draft_add_kind : FuncData
  F_Draft_add_kind : Fun K "add_kind" "Draft.add_kind" s_Draft_add_kind a_Draft_add_kind fd_Draft_add_kind
  a_Draft_add_person : Addr
  fd_Draft_add_person : FuncData
  F_Draft_add_person : Fun K "add_person" "Draft.add_person" s_Draft_add_person a_Draft_add_person fd_Draft_add_person
  a_Register___init__ : Addr
  fd_Register___init__ : FuncData
  F_Register___init__ : Fun K "__init__" "Register.__init__" s_Register___init__ a_Register___init__ fd_Register___init__
  a_Register___eq__ : Addr
  fd_Register___eq__ : FuncData
  F_Register___eq__ : Fun K "__eq__" "Register.__eq__" s_Register___eq__ a_Register___eq__ fd_Register___eq__
  a_Register___len__ : Addr
  fd_Register___len__ : FuncData
  F_Register___len__ : Fun K "__len__" "Register.__len__" s_Register___len__ a_Register___len__ fd_Register___len__
  a_draft_in : Addr
  fd_draft_in : FuncData
  F_draft_in : Fun K "draft_in" "draft_in" s_draft_in a_draft_in fd_draft_in
  m_draft_in : mg "draft_in" = some (.ref a_draft_in)
  a_add_line : Addr
  fd_add_line : FuncData
  F_add_line : Fun K "add_line" "add_line" s_add_line a_add_line fd_add_line
  m_add_line : mg "add_line" = some (.ref a_add_line)
  a_kind_in : Addr
  fd_kind_in : FuncData
  F_kind_in : Fun K "kind_in" "kind_in" s_kind_in a_kind_in fd_kind_in
  m_kind_in : mg "kind_in" = some (.ref a_kind_in)
  a_person_in : Addr
  fd_person_in : FuncData
  F_person_in : Fun K "person_in" "person_in" s_person_in a_person_in fd_person_in
  m_person_in : mg "person_in" = some (.ref a_person_in)
  a_is_kinds_column : Addr
  fd_is_kinds_column : FuncData
  F_is_kinds_column : Fun K "is_kinds_column" "is_kinds_column" s_is_kinds_column a_is_kinds_column fd_is_kinds_column
  m_is_kinds_column : mg "is_kinds_column" = some (.ref a_is_kinds_column)
  a_scale_of : Addr
  fd_scale_of : FuncData
  F_scale_of : Fun K "scale_of" "scale_of" s_scale_of a_scale_of fd_scale_of
  m_scale_of : mg "scale_of" = some (.ref a_scale_of)
  a_scale_of_marks : Addr
  fd_scale_of_marks : FuncData
  F_scale_of_marks : Fun K "scale_of_marks" "scale_of_marks" s_scale_of_marks a_scale_of_marks fd_scale_of_marks
  m_scale_of_marks : mg "scale_of_marks" = some (.ref a_scale_of_marks)
  a_is_mark : Addr
  fd_is_mark : FuncData
  F_is_mark : Fun K "is_mark" "is_mark" s_is_mark a_is_mark fd_is_mark
  m_is_mark : mg "is_mark" = some (.ref a_is_mark)
  a_covers : Addr
  fd_covers : FuncData
  F_covers : Fun K "covers" "covers" s_covers a_covers fd_covers
  m_covers : mg "covers" = some (.ref a_covers)
  a_is_finer : Addr
  fd_is_finer : FuncData
  F_is_finer : Fun K "is_finer" "is_finer" s_is_finer a_is_finer fd_is_finer
  m_is_finer : mg "is_finer" = some (.ref a_is_finer)
  a_joined_mark : Addr
  fd_joined_mark : FuncData
  F_joined_mark : Fun K "joined_mark" "joined_mark" s_joined_mark a_joined_mark fd_joined_mark
  m_joined_mark : mg "joined_mark" = some (.ref a_joined_mark)
  a_common_mark : Addr
  fd_common_mark : FuncData
  F_common_mark : Fun K "common_mark" "common_mark" s_common_mark a_common_mark fd_common_mark
  m_common_mark : mg "common_mark" = some (.ref a_common_mark)
  a_least_mark : Addr
  fd_least_mark : FuncData
  F_least_mark : Fun K "least_mark" "least_mark" s_least_mark a_least_mark fd_least_mark
  m_least_mark : mg "least_mark" = some (.ref a_least_mark)
  a__law_pot : Addr
  fd__law_pot : FuncData
  F__law_pot : Fun K "_law_pot" "_law_pot" s__law_pot a__law_pot fd__law_pot
  m__law_pot : mg "_law_pot" = some (.ref a__law_pot)
  a__law_take : Addr
  fd__law_take : FuncData
  F__law_take : Fun K "_law_take" "_law_take" s__law_take a__law_take fd__law_take
  m__law_take : mg "_law_take" = some (.ref a__law_take)
  a__law_of : Addr
  fd__law_of : FuncData
  F__law_of : Fun K "_law_of" "_law_of" s__law_of a__law_of fd__law_of
  m__law_of : mg "_law_of" = some (.ref a__law_of)
  a__law_some : Addr
  fd__law_some : FuncData
  F__law_some : Fun K "_law_some" "_law_some" s__law_some a__law_some fd__law_some
  m__law_some : mg "_law_some" = some (.ref a__law_some)
  a__law_cells : Addr
  fd__law_cells : FuncData
  F__law_cells : Fun K "_law_cells" "_law_cells" s__law_cells a__law_cells fd__law_cells
  m__law_cells : mg "_law_cells" = some (.ref a__law_cells)
  a__law_names : Addr
  fd__law_names : FuncData
  F__law_names : Fun K "_law_names" "_law_names" s__law_names a__law_names fd__law_names
  m__law_names : mg "_law_names" = some (.ref a__law_names)
  a__law_kinds : Addr
  fd__law_kinds : FuncData
  F__law_kinds : Fun K "_law_kinds" "_law_kinds" s__law_kinds a__law_kinds fd__law_kinds
  m__law_kinds : mg "_law_kinds" = some (.ref a__law_kinds)
  a__law_kind_names : Addr
  fd__law_kind_names : FuncData
  F__law_kind_names : Fun K "_law_kind_names" "_law_kind_names" s__law_kind_names a__law_kind_names fd__law_kind_names
  m__law_kind_names : mg "_law_kind_names" = some (.ref a__law_kind_names)
  a__law_values : Addr
  fd__law_values : FuncData
  F__law_values : Fun K "_law_values" "_law_values" s__law_values a__law_values fd__law_values
  m__law_values : mg "_law_values" = some (.ref a__law_values)
  a__law_register : Addr
  fd__law_register : FuncData
  F__law_register : Fun K "_law_register" "_law_register" s__law_register a__law_register fd__law_register
  m__law_register : mg "_law_register" = some (.ref a__law_register)
  a__law_register_text : Addr
  fd__law_register_text : FuncData
  F__law_register_text : Fun K "_law_register_text" "_law_register_text" s__law_register_text a__law_register_text fd__law_register_text
  m__law_register_text : mg "_law_register_text" = some (.ref a__law_register_text)
  a__law_chain : Addr
  fd__law_chain : FuncData
  F__law_chain : Fun K "_law_chain" "_law_chain" s__law_chain a__law_chain fd__law_chain
  m__law_chain : mg "_law_chain" = some (.ref a__law_chain)
  a__law_does_cover : Addr
  fd__law_does_cover : FuncData
  F__law_does_cover : Fun K "_law_does_cover" "_law_does_cover" s__law_does_cover a__law_does_cover fd__law_does_cover
  m__law_does_cover : mg "_law_does_cover" = some (.ref a__law_does_cover)
  a__law_a_mark : Addr
  fd__law_a_mark : FuncData
  F__law_a_mark : Fun K "_law_a_mark" "_law_a_mark" s__law_a_mark a__law_a_mark fd__law_a_mark
  m__law_a_mark : mg "_law_a_mark" = some (.ref a__law_a_mark)
  a__law_under : Addr
  fd__law_under : FuncData
  F__law_under : Fun K "_law_under" "_law_under" s__law_under a__law_under fd__law_under
  m__law_under : mg "_law_under" = some (.ref a__law_under)
  a__law_joined : Addr
  fd__law_joined : FuncData
  F__law_joined : Fun K "_law_joined" "_law_joined" s__law_joined a__law_joined fd__law_joined
  m__law_joined : mg "_law_joined" = some (.ref a__law_joined)
  a__law_common : Addr
  fd__law_common : FuncData
  F__law_common : Fun K "_law_common" "_law_common" s__law_common a__law_common fd__law_common
  m__law_common : mg "_law_common" = some (.ref a__law_common)
  a__law_is_pair_right : Addr
  fd__law_is_pair_right : FuncData
  F__law_is_pair_right : Fun K "_law_is_pair_right" "_law_is_pair_right" s__law_is_pair_right a__law_is_pair_right fd__law_is_pair_right
  m__law_is_pair_right : mg "_law_is_pair_right" = some (.ref a__law_is_pair_right)
  a__law_is_least_right : Addr
  fd__law_is_least_right : FuncData
  F__law_is_least_right : Fun K "_law_is_least_right" "_law_is_least_right" s__law_is_least_right a__law_is_least_right fd__law_is_least_right
  m__law_is_least_right : mg "_law_is_least_right" = some (.ref a__law_is_least_right)
  a__law_are_odd_told : Addr
  fd__law_are_odd_told : FuncData
  F__law_are_odd_told : Fun K "_law_are_odd_told" "_law_are_odd_told" s__law_are_odd_told a__law_are_odd_told fd__law_are_odd_told
  m__law_are_odd_told : mg "_law_are_odd_told" = some (.ref a__law_are_odd_told)
  a__law_right : Addr
  fd__law_right : FuncData
  F__law_right : Fun K "_law_right" "_law_right" s__law_right a__law_right fd__law_right
  m__law_right : mg "_law_right" = some (.ref a__law_right)
  a_law : Addr
  fd_law : FuncData
  F_law : Fun K "law" "law" s_law a_law fd_law
  m_law : mg "law" = some (.ref a_law)
  C_Line : Addr
  m_Line : mg "Line" = some (.ref C_Line)
  cl_Line : Cls K C_Line
  me_Line_is_value : Meth K C_Line "is_value" a_Line_is_value
  me_Line_is_mark : Meth K C_Line "is_mark" a_Line_is_mark
  me_Line_value_in : Meth K C_Line "value_in" a_Line_value_in
  me_Line_covers : Meth K C_Line "covers" a_Line_covers
  me_Line_is_finer : Meth K C_Line "is_finer" a_Line_is_finer
  me_Line_joined : Meth K C_Line "joined" a_Line_joined
  me_Line_common : Meth K C_Line "common" a_Line_common
  me_Line_least : Meth K C_Line "least" a_Line_least
  me_Line_loss : Meth K C_Line "loss" a_Line_loss
  MO_Line : ZV.MkO K C_Line
  C_Tree : Addr
  m_Tree : mg "Tree" = some (.ref C_Tree)
  cl_Tree : Cls K C_Tree
  M_Tree : Mk K C_Tree a_Tree___init__
  me_Tree_add_kind : Meth K C_Tree "add_kind" a_Tree_add_kind
  me_Tree__can_be_up : Meth K C_Tree "_can_be_up" a_Tree__can_be_up
  me_Tree_is_value : Meth K C_Tree "is_value" a_Tree_is_value
  me_Tree_is_mark : Meth K C_Tree "is_mark" a_Tree_is_mark
  me_Tree_value_in : Meth K C_Tree "value_in" a_Tree_value_in
  me_Tree_covers : Meth K C_Tree "covers" a_Tree_covers
  me_Tree_is_finer : Meth K C_Tree "is_finer" a_Tree_is_finer
  me_Tree_joined : Meth K C_Tree "joined" a_Tree_joined
  me_Tree_common : Meth K C_Tree "common" a_Tree_common
  me_Tree_least : Meth K C_Tree "least" a_Tree_least
  me_Tree_loss : Meth K C_Tree "loss" a_Tree_loss
  na_Tree_ups : NoAttr K C_Tree "ups"
  na_Tree_losses : NoAttr K C_Tree "losses"
  C_Draft : Addr
  m_Draft : mg "Draft" = some (.ref C_Draft)
  cl_Draft : Cls K C_Draft
  M_Draft : Mk K C_Draft a_Draft___init__
  me_Draft_is_ready : Meth K C_Draft "is_ready" a_Draft_is_ready
  me_Draft_add_column : Meth K C_Draft "add_column" a_Draft_add_column
  me_Draft_add_kind : Meth K C_Draft "add_kind" a_Draft_add_kind
  me_Draft_add_person : Meth K C_Draft "add_person" a_Draft_add_person
  na_Draft_columns : NoAttr K C_Draft "columns"
  na_Draft_kinds : NoAttr K C_Draft "kinds"
  na_Draft_persons : NoAttr K C_Draft "persons"
  na_Draft_scales : NoAttr K C_Draft "scales"
  na_Draft_numbers : NoAttr K C_Draft "numbers"
  C_Register : Addr
  m_Register : mg "Register" = some (.ref C_Register)
  cl_Register : Cls K C_Register
  M_Register : Mk K C_Register a_Register___init__
  me_Register___eq__ : Meth K C_Register "__eq__" a_Register___eq__
  me_Register___len__ : Meth K C_Register "__len__" a_Register___len__
  na_Register_text : NoAttr K C_Register "text"
  na_Register_columns : NoAttr K C_Register "columns"
  na_Register_kinds : NoAttr K C_Register "kinds"
  na_Register_persons : NoAttr K C_Register "persons"
  na_Register_scales : NoAttr K C_Register "scales"
  na_Register_numbers : NoAttr K C_Register "numbers"
  tn_get : PySem.W.specialIn K (.builtin "object.__class__") "__get__" = some (some (.builtin "getset_descriptor.__get__"))
  tn_takes : PySem.W.takesIn K (.builtin "object.__class__") = some true
  tc_Line : PySem.W.findIn K (.ref C_Line) "__class__" = some (some (.builtin "object.__class__"))
  tm_Line : PySem.W.mroIn K C_Line (.type "object") = some true
  tc_Tree : PySem.W.findIn K (.ref C_Tree) "__class__" = some (some (.builtin "object.__class__"))
  tm_Tree : PySem.W.mroIn K C_Tree (.type "object") = some true
  tc_Draft : PySem.W.findIn K (.ref C_Draft) "__class__" = some (some (.builtin "object.__class__"))
  tm_Draft : PySem.W.mroIn K C_Draft (.type "object") = some true
  tc_Register : PySem.W.findIn K (.ref C_Register) "__class__" = some (some (.builtin "object.__class__"))
  tm_Register : PySem.W.mroIn K C_Register (.type "object") = some true
  ki_Line_Register : PySem.W.kitOne K (.ref C_Line) (.ref C_Register) = some false
  ki_Tree_Register : PySem.W.kitOne K (.ref C_Tree) (.ref C_Register) = some false
  ki_Draft_Register : PySem.W.kitOne K (.ref C_Draft) (.ref C_Register) = some false
  ki_Register_Register : PySem.W.kitOne K (.ref C_Register) (.ref C_Register) = some true
  ki_NoneType_Register : PySem.W.kitOne K (.type "NoneType") (.ref C_Register) = some false
  ki_bool_Register : PySem.W.kitOne K (.type "bool") (.ref C_Register) = some false
  ki_int_Register : PySem.W.kitOne K (.type "int") (.ref C_Register) = some false
  ki_str_Register : PySem.W.kitOne K (.type "str") (.ref C_Register) = some false
  ki_tuple_Register : PySem.W.kitOne K (.type "tuple") (.ref C_Register) = some false
  ki_list_Register : PySem.W.kitOne K (.type "list") (.ref C_Register) = some false
  ki_dict_Register : PySem.W.kitOne K (.type "dict") (.ref C_Register) = some false
  ki_Line_Tree : PySem.W.kitOne K (.ref C_Line) (.ref C_Tree) = some false
  ki_Tree_Tree : PySem.W.kitOne K (.ref C_Tree) (.ref C_Tree) = some true
  ki_Draft_Tree : PySem.W.kitOne K (.ref C_Draft) (.ref C_Tree) = some false
  ki_Register_Tree : PySem.W.kitOne K (.ref C_Register) (.ref C_Tree) = some false
  ki_NoneType_Tree : PySem.W.kitOne K (.type "NoneType") (.ref C_Tree) = some false
  ki_bool_Tree : PySem.W.kitOne K (.type "bool") (.ref C_Tree) = some false
  ki_int_Tree : PySem.W.kitOne K (.type "int") (.ref C_Tree) = some false
  ki_str_Tree : PySem.W.kitOne K (.type "str") (.ref C_Tree) = some false
  ki_tuple_Tree : PySem.W.kitOne K (.type "tuple") (.ref C_Tree) = some false
  ki_list_Tree : PySem.W.kitOne K (.type "list") (.ref C_Tree) = some false
  ki_dict_Tree : PySem.W.kitOne K (.type "dict") (.ref C_Tree) = some false
  m_FARTHEST : ∃ t, mg "FARTHEST" = some (.int 1000000 t)
  m_FIGURES : ∃ t, mg "FIGURES" = some (.str "0123456789" t)
  m_MOST_COLUMNS : ∃ t, mg "MOST_COLUMNS" = some (.int 4 t)
  m_MOST_FIGURES : ∃ t, mg "MOST_FIGURES" = some (.int 9 t)
  m_MOST_KINDS : ∃ t, mg "MOST_KINDS" = some (.int 60 t)
  m_MOST_LOSS : ∃ t, mg "MOST_LOSS" = some (.int 1000000 t)
  m_MOST_PERSONS : ∃ t, mg "MOST_PERSONS" = some (.int 60 t)
  m_MOST_SIGNS : ∃ t, mg "MOST_SIGNS" = some (.int 12 t)
  m_SIGNS : ∃ t, mg "SIGNS" = some (.str "abcdefghijklmnopqrstuvwxyz0123456789" t)
  n_abs : mg "abs" = none
  n_all : mg "all" = none
  n_bool : mg "bool" = none
  n_dict : mg "dict" = none
  n_enumerate : mg "enumerate" = none
  n_int : mg "int" = none
  n_isinstance : mg "isinstance" = none
  n_len : mg "len" = none
  n_list : mg "list" = none
  n_max : mg "max" = none
  n_min : mg "min" = none
  n_range : mg "range" = none
  n_repr : mg "repr" = none
  n_set : mg "set" = none
  n_sorted : mg "sorted" = none
  n_str : mg "str" = none
  n_sum : mg "sum" = none
  n_tuple : mg "tuple" = none
  n_zip : mg "zip" = none
section
variable {K : PySem.W.Frag} {mg : Str → Option Value}
theorem b_CrowdError___init__ (T : Tx K mg) : Binds K T.fd_CrowdError___init__ ["self", "value"] [] := T.F_CrowdError___init__.binds fun _ _ _ _ _ _ us hl => match us, hl with | [_, _], _ => rfl
theorem b_is_integer (T : Tx K mg) : Binds K T.fd_is_integer ["value"] [] := T.F_is_integer.binds fun _ _ _ _ _ _ us hl => match us, hl with | [_], _ => rfl
theorem b_is_name (T : Tx K mg) : Binds K T.fd_is_name ["value"] [] := T.F_is_name.binds fun _ _ _ _ _ _ us hl => match us, hl with | [_], _ => rfl
theorem b_is_tuple_of (T : Tx K mg) : Binds K T.fd_is_tuple_of ["value", "many"] [] := T.F_is_tuple_of.binds fun _ _ _ _ _ _ us hl => match us, hl with | [_, _], _ => rfl
theorem b_integer_in (T : Tx K mg) : Binds K T.fd_integer_in ["word"] [] := T.F_integer_in.binds fun _ _ _ _ _ _ us hl => match us, hl with | [_], _ => rfl
theorem b_values_stand (T : Tx K mg) : Binds K T.fd_values_stand ["scales", "values"] [] := T.F_values_stand.binds fun _ _ _ _ _ _ us hl => match us, hl with | [_, _], _ => rfl
theorem b_is_line_value (T : Tx K mg) : Binds K T.fd_is_line_value ["value"] [] := T.F_is_line_value.binds fun _ _ _ _ _ _ us hl => match us, hl with | [_], _ => rfl
theorem b_Line_is_value (T : Tx K mg) : Binds K T.fd_Line_is_value ["self", "value"] [] := T.F_Line_is_value.binds fun _ _ _ _ _ _ us hl => match us, hl with | [_, _], _ => rfl
theorem b_Line_is_mark (T : Tx K mg) : Binds K T.fd_Line_is_mark ["self", "mark"] [] := T.F_Line_is_mark.binds fun _ _ _ _ _ _ us hl => match us, hl with | [_, _], _ => rfl
theorem b_Line_value_in (T : Tx K mg) : Binds K T.fd_Line_value_in ["self", "word"] [] := T.F_Line_value_in.binds fun _ _ _ _ _ _ us hl => match us, hl with | [_, _], _ => rfl
theorem b_Line_covers (T : Tx K mg) : Binds K T.fd_Line_covers ["self", "mark", "value"] [] := T.F_Line_covers.binds fun _ _ _ _ _ _ us hl => match us, hl with | [_, _, _], _ => rfl
theorem b_Line_is_finer (T : Tx K mg) : Binds K T.fd_Line_is_finer ["self", "one", "other"] [] := T.F_Line_is_finer.binds fun _ _ _ _ _ _ us hl => match us, hl with | [_, _, _], _ => rfl
theorem b_Line_joined (T : Tx K mg) : Binds K T.fd_Line_joined ["self", "one", "other"] [] := T.F_Line_joined.binds fun _ _ _ _ _ _ us hl => match us, hl with | [_, _, _], _ => rfl
theorem b_Line_common (T : Tx K mg) : Binds K T.fd_Line_common ["self", "one", "other"] [] := T.F_Line_common.binds fun _ _ _ _ _ _ us hl => match us, hl with | [_, _, _], _ => rfl
theorem b_Line_least (T : Tx K mg) : Binds K T.fd_Line_least ["self", "values"] [] := T.F_Line_least.binds fun _ _ _ _ _ _ us hl => match us, hl with | [_, _], _ => rfl
theorem b_Line_loss (T : Tx K mg) : Binds K T.fd_Line_loss ["self", "mark"] [] := T.F_Line_loss.binds fun _ _ _ _ _ _ us hl => match us, hl with | [_, _], _ => rfl
theorem b_Tree___init__ (T : Tx K mg) : Binds K T.fd_Tree___init__ ["self"] [] := T.F_Tree___init__.binds fun _ _ _ _ _ _ us hl => match us, hl with | [_], _ => rfl
theorem b_Tree_add_kind (T : Tx K mg) : Binds K T.fd_Tree_add_kind ["self", "name", "up", "loss"] [] := T.F_Tree_add_kind.binds fun _ _ _ _ _ _ us hl => match us, hl with | [_, _, _, _], _ => rfl
theorem b_Tree__can_be_up (T : Tx K mg) : Binds K T.fd_Tree__can_be_up ["self", "up", "loss"] [] := T.F_Tree__can_be_up.binds fun _ _ _ _ _ _ us hl => match us, hl with | [_, _, _], _ => rfl
theorem b_Tree_is_value (T : Tx K mg) : Binds K T.fd_Tree_is_value ["self", "value"] [] := T.F_Tree_is_value.binds fun _ _ _ _ _ _ us hl => match us, hl with | [_, _], _ => rfl
theorem b_Tree_is_mark (T : Tx K mg) : Binds K T.fd_Tree_is_mark ["self", "mark"] [] := T.F_Tree_is_mark.binds fun _ _ _ _ _ _ us hl => match us, hl with | [_, _], _ => rfl
theorem b_Tree_value_in (T : Tx K mg) : Binds K T.fd_Tree_value_in ["self", "word"] [] := T.F_Tree_value_in.binds fun _ _ _ _ _ _ us hl => match us, hl with | [_, _], _ => rfl
theorem b_Tree_covers (T : Tx K mg) : Binds K T.fd_Tree_covers ["self", "mark", "value"] [] := T.F_Tree_covers.binds fun _ _ _ _ _ _ us hl => match us, hl with | [_, _, _], _ => rfl
theorem b_Tree_is_finer (T : Tx K mg) : Binds K T.fd_Tree_is_finer ["self", "one", "other"] [] := T.F_Tree_is_finer.binds fun _ _ _ _ _ _ us hl => match us, hl with | [_, _, _], _ => rfl
theorem b_Tree_joined (T : Tx K mg) : Binds K T.fd_Tree_joined ["self", "one", "other"] [] := T.F_Tree_joined.binds fun _ _ _ _ _ _ us hl => match us, hl with | [_, _, _], _ => rfl
theorem b_Tree_common (T : Tx K mg) : Binds K T.fd_Tree_common ["self", "one", "other"] [] := T.F_Tree_common.binds fun _ _ _ _ _ _ us hl => match us, hl with | [_, _, _], _ => rfl
theorem b_Tree_least (T : Tx K mg) : Binds K T.fd_Tree_least ["self", "values"] [] := T.F_Tree_least.binds fun _ _ _ _ _ _ us hl => match us, hl with | [_, _], _ => rfl
theorem b_Tree_loss (T : Tx K mg) : Binds K T.fd_Tree_loss ["self", "mark"] [] := T.F_Tree_loss.binds fun _ _ _ _ _ _ us hl => match us, hl with | [_, _], _ => rfl
theorem b_Draft___init__ (T : Tx K mg) : Binds K T.fd_Draft___init__ ["self"] [] := T.F_Draft___init__.binds fun _ _ _ _ _ _ us hl => match us, hl with | [_], _ => rfl
theorem b_Draft_is_ready (T : Tx K mg) : Binds K T.fd_Draft_is_ready ["self"] [] := T.F_Draft_is_ready.binds fun _ _ _ _ _ _ us hl => match us, hl with | [_], _ => rfl
theorem b_Draft_add_column (T : Tx K mg) : Binds K T.fd_Draft_add_column ["self", "entry"] [] := T.F_Draft_add_column.binds fun _ _ _ _ _ _ us hl => match us, hl with | [_, _], _ => rfl
theorem b_Draft_add_kind (T : Tx K mg) : Binds K T.fd_Draft_add_kind ["self", "entry"] [] := T.F_Draft_add_kind.binds fun _ _ _ _ _ _ us hl => match us, hl with | [_, _], _ => rfl
theorem b_Draft_add_person (T : Tx K mg) : Binds K T.fd_Draft_add_person ["self", "entry"] [] := T.F_Draft_add_person.binds fun _ _ _ _ _ _ us hl => match us, hl with | [_, _], _ => rfl
theorem b_Register___init__ (T : Tx K mg) : Binds K T.fd_Register___init__ ["self", "text"] [] := T.F_Register___init__.binds fun _ _ _ _ _ _ us hl => match us, hl with | [_, _], _ => rfl
theorem b_Register___eq__ (T : Tx K mg) : Binds K T.fd_Register___eq__ ["self", "other"] [] := T.F_Register___eq__.binds fun _ _ _ _ _ _ us hl => match us, hl with | [_, _], _ => rfl
theorem b_Register___len__ (T : Tx K mg) : Binds K T.fd_Register___len__ ["self"] [] := T.F_Register___len__.binds fun _ _ _ _ _ _ us hl => match us, hl with | [_], _ => rfl
theorem b_draft_in (T : Tx K mg) : Binds K T.fd_draft_in ["text"] [] := T.F_draft_in.binds fun _ _ _ _ _ _ us hl => match us, hl with | [_], _ => rfl
theorem b_add_line (T : Tx K mg) : Binds K T.fd_add_line ["draft", "words"] [] := T.F_add_line.binds fun _ _ _ _ _ _ us hl => match us, hl with | [_, _], _ => rfl
theorem b_kind_in (T : Tx K mg) : Binds K T.fd_kind_in ["words"] [] := T.F_kind_in.binds fun _ _ _ _ _ _ us hl => match us, hl with | [_], _ => rfl
theorem b_person_in (T : Tx K mg) : Binds K T.fd_person_in ["scales", "words"] [] := T.F_person_in.binds fun _ _ _ _ _ _ us hl => match us, hl with | [_, _], _ => rfl
theorem b_is_kinds_column (T : Tx K mg) : Binds K T.fd_is_kinds_column ["scales", "column"] [] := T.F_is_kinds_column.binds fun _ _ _ _ _ _ us hl => match us, hl with | [_, _], _ => rfl
theorem b_scale_of (T : Tx K mg) : Binds K T.fd_scale_of ["census", "column"] [] := T.F_scale_of.binds fun _ _ _ _ _ _ us hl => match us, hl with | [_, _], _ => rfl
theorem b_scale_of_marks (T : Tx K mg) : Binds K T.fd_scale_of_marks ["census", "column", "marks"] [] := T.F_scale_of_marks.binds fun _ _ _ _ _ _ us hl => match us, hl with | [_, _, _], _ => rfl
theorem b_is_mark (T : Tx K mg) : Binds K T.fd_is_mark ["census", "column", "value"] [] := T.F_is_mark.binds fun _ _ _ _ _ _ us hl => match us, hl with | [_, _, _], _ => rfl
theorem b_covers (T : Tx K mg) : Binds K T.fd_covers ["census", "column", "mark", "value"] [] := T.F_covers.binds fun _ _ _ _ _ _ us hl => match us, hl with | [_, _, _, _], _ => rfl
theorem b_is_finer (T : Tx K mg) : Binds K T.fd_is_finer ["census", "column", "one", "other"] [] := T.F_is_finer.binds fun _ _ _ _ _ _ us hl => match us, hl with | [_, _, _, _], _ => rfl
theorem b_joined_mark (T : Tx K mg) : Binds K T.fd_joined_mark ["census", "column", "one", "other"] [] := T.F_joined_mark.binds fun _ _ _ _ _ _ us hl => match us, hl with | [_, _, _, _], _ => rfl
theorem b_common_mark (T : Tx K mg) : Binds K T.fd_common_mark ["census", "column", "one", "other"] [] := T.F_common_mark.binds fun _ _ _ _ _ _ us hl => match us, hl with | [_, _, _, _], _ => rfl
theorem b_least_mark (T : Tx K mg) : Binds K T.fd_least_mark ["census", "column", "values"] [] := T.F_least_mark.binds fun _ _ _ _ _ _ us hl => match us, hl with | [_, _, _], _ => rfl
theorem b__law_pot (T : Tx K mg) : Binds K T.fd__law_pot ["script", "place"] [] := T.F__law_pot.binds fun _ _ _ _ _ _ us hl => match us, hl with | [_, _], _ => rfl
theorem b__law_take (T : Tx K mg) : Binds K T.fd__law_take ["pot", "upto"] [] := T.F__law_take.binds fun _ _ _ _ _ _ us hl => match us, hl with | [_, _], _ => rfl
theorem b__law_of (T : Tx K mg) : Binds K T.fd__law_of ["pot", "some"] [] := T.F__law_of.binds fun _ _ _ _ _ _ us hl => match us, hl with | [_, _], _ => rfl
theorem b__law_some (T : Tx K mg) : Binds K T.fd__law_some ["pot", "pool", "amount"] [] := T.F__law_some.binds fun _ _ _ _ _ _ us hl => match us, hl with | [_, _, _], _ => rfl
theorem b__law_cells (T : Tx K mg) : Binds K T.fd__law_cells ["script", "most"] [] := T.F__law_cells.binds fun _ _ _ _ _ _ us hl => match us, hl with | [_, _], _ => rfl
theorem b__law_names (T : Tx K mg) : Binds K T.fd__law_names ["pot", "amount"] [] := T.F__law_names.binds fun _ _ _ _ _ _ us hl => match us, hl with | [_, _], _ => rfl
theorem b__law_kinds (T : Tx K mg) : Binds K T.fd__law_kinds ["pot", "column", "amount"] [] := T.F__law_kinds.binds fun _ _ _ _ _ _ us hl => match us, hl with | [_, _, _], _ => rfl
theorem b__law_kind_names (T : Tx K mg) : Binds K T.fd__law_kind_names ["own", "column"] [] := T.F__law_kind_names.binds fun _ _ _ _ _ _ us hl => match us, hl with | [_, _], _ => rfl
theorem b__law_values (T : Tx K mg) : Binds K T.fd__law_values ["pot", "own", "near"] [] := T.F__law_values.binds fun _ _ _ _ _ _ us hl => match us, hl with | [_, _, _], _ => rfl
theorem b__law_register (T : Tx K mg) : Binds K T.fd__law_register ["pot", "columns", "kinds", "persons"] [] := T.F__law_register.binds fun _ _ _ _ _ _ us hl => match us, hl with | [_, _, _, _], _ => rfl
theorem b__law_register_text (T : Tx K mg) : Binds K T.fd__law_register_text ["own"] [] := T.F__law_register_text.binds fun _ _ _ _ _ _ us hl => match us, hl with | [_], _ => rfl
theorem b__law_chain (T : Tx K mg) : Binds K T.fd__law_chain ["own", "column", "kind"] [] := T.F__law_chain.binds fun _ _ _ _ _ _ us hl => match us, hl with | [_, _, _], _ => rfl
theorem b__law_does_cover (T : Tx K mg) : Binds K T.fd__law_does_cover ["own", "at", "mark", "value"] [] := T.F__law_does_cover.binds fun _ _ _ _ _ _ us hl => match us, hl with | [_, _, _, _], _ => rfl
theorem b__law_a_mark (T : Tx K mg) : Binds K T.fd__law_a_mark ["pot", "own", "at"] [] := T.F__law_a_mark.binds fun _ _ _ _ _ _ us hl => match us, hl with | [_, _, _], _ => rfl
theorem b__law_under (T : Tx K mg) : Binds K T.fd__law_under ["own", "at", "one", "other"] [] := T.F__law_under.binds fun _ _ _ _ _ _ us hl => match us, hl with | [_, _, _, _], _ => rfl
theorem b__law_joined (T : Tx K mg) : Binds K T.fd__law_joined ["own", "at", "one", "other"] [] := T.F__law_joined.binds fun _ _ _ _ _ _ us hl => match us, hl with | [_, _, _, _], _ => rfl
theorem b__law_common (T : Tx K mg) : Binds K T.fd__law_common ["own", "at", "one", "other"] [] := T.F__law_common.binds fun _ _ _ _ _ _ us hl => match us, hl with | [_, _, _, _], _ => rfl
theorem b__law_is_pair_right (T : Tx K mg) : Binds K T.fd__law_is_pair_right ["pot", "own", "census", "at"] [] := T.F__law_is_pair_right.binds fun _ _ _ _ _ _ us hl => match us, hl with | [_, _, _, _], _ => rfl
theorem b__law_is_least_right (T : Tx K mg) : Binds K T.fd__law_is_least_right ["pot", "own", "census", "at"] [] := T.F__law_is_least_right.binds fun _ _ _ _ _ _ us hl => match us, hl with | [_, _, _, _], _ => rfl
theorem b__law_are_odd_told (T : Tx K mg) : Binds K T.fd__law_are_odd_told ["pot", "own", "census", "at"] [] := T.F__law_are_odd_told.binds fun _ _ _ _ _ _ us hl => match us, hl with | [_, _, _, _], _ => rfl
theorem b__law_right (T : Tx K mg) : Binds K T.fd__law_right ["pot"] [] := T.F__law_right.binds fun _ _ _ _ _ _ us hl => match us, hl with | [_], _ => rfl
theorem b_law (T : Tx K mg) : Binds K T.fd_law ["script"] [] := T.F_law.binds fun _ _ _ _ _ _ us hl => match us, hl with | [_], _ => rfl
end
end Toy

namespace M
open PySem L2 TL
theorem signs_mem (c : Nat) : decide (c ∈ ("abcdefghijklmnopqrstuvwxyz0123456789" : Str).cps.toList) = sign c := by
  have e : ("abcdefghijklmnopqrstuvwxyz0123456789" : Str).cps.toList = (List.range' 97 26) ++ (List.range' 48 10) := by decide +kernel
  rw [e]
  unfold sign
  rw [Bool.eq_iff_iff]
  simp only [decide_eq_true_eq, List.mem_append, List.mem_range'_1, Bool.or_eq_true, Bool.and_eq_true]
  omega
theorem figs_mem (c : Nat) : decide (c ∈ ("0123456789" : Str).cps.toList) = (decide (48 ≤ c) && decide (c ≤ 57)) := by
  have e : ("0123456789" : Str).cps.toList = List.range' 48 10 := by decide +kernel
  rw [e, Bool.eq_iff_iff]
  simp only [decide_eq_true_eq, List.mem_range'_1, Bool.and_eq_true]
  omega
theorem starts_one (x : Str) (c : Nat) : Txt.startswith x ⟨#[c]⟩ = decide (x.cps.toList[0]? = some c) := by
  rw [Bool.eq_iff_iff, decide_eq_true_eq, ← PySem.StrLaws.subAt_one x c 0]
  unfold Txt.startswith
  rw [Bool.and_eq_true, decide_eq_true_eq]
theorem minus_one : ("-" : Str) = ⟨#[45]⟩ := by decide +kernel
theorem int_pos {z : Int} (h0 : 0 ≤ z) (h1 : z ≤ 1000000) : (toString z : Str).cps.toList = numL z.toNat ∧ (numL z.toNat).length ≤ 7 ∧ PySem.intText? (toString z : Str) = some z := by
  obtain ⟨n, rfl⟩ : ∃ n : Nat, z = (n : Int) := ⟨z.toNat, by omega⟩
  have l := numL_len (n := n) (k := 7) (by decide) (by omega)
  rw [Int.toNat_natCast]
  exact ⟨tl_num n, l, int_num (by omega)⟩
theorem int_negs {z : Int} (h0 : z < 0) (h1 : -1000000 ≤ z) : (toString z : Str).cps.toList = 45 :: numL (0 - z).toNat ∧ (numL (0 - z).toNat).length ≤ 7 ∧ PySem.intText? (toString z : Str) = some z := by
  obtain ⟨n, hn⟩ : ∃ n : Nat, 0 - z = (n : Int) := ⟨(0 - z).toNat, by omega⟩
  have l := numL_len (n := n) (k := 7) (by decide) (by omega)
  have e : (toString z : Str).cps.toList = 45 :: numL n := by
    show (Str.ofString (toString z)).cps.toList = _
    rw [PyProof.Rows.toString_neg h0, hn, PyProof.Rows.signs_ofString, String.toList_append, List.map_append]
    have e1 : "-".toList.map Char.toNat = [45] := by decide
    rw [e1, ← PyProof.Rows.signs_ofString, show (Str.ofString (toString (n : Int))).cps.toList = numL n from tl_num n]
    rfl
  rw [hn, Int.toNat_natCast]
  refine ⟨e, l, ?_⟩
  rw [PySem.intText_neg e (numL_digits n) (numL_ne n) (by rw [← len_list, e, List.length_cons]; omega), numL_val]
  congr 1
  omega
end M
namespace Toy
open PySem L2 U M TL
/-- [.. for sign in text], each a truth value -/
theorem all_signs {σ : L2.St} {H : Hp} {Q : VK} {g : TG} {te : TE} {vs : List Nat} {z : Str} {f : Nat → Bool} (hz : z.length ≤ 1000000)
    (turn : ∀ c H' (A : VK) (B : Hp → Prop), Same H H' → A (.bl (f c)) H' → g (.str ⟨#[c]⟩) (wipe σ vs) H' fun σ2 H2 => wipe σ2 vs = wipe σ vs ∧ tYes σ2 H2 fun b H3 => if b = true then te σ2 H3 A else B H3)
    (k : ∀ E H', H E = none → Same H H' → H' E = some (.lst ((z.cps.toList.map f).map V.bl)) → Q (.ref E) H') : lcI σ vs g tYes te Q (Its z) H := by
  refine lcI_same walk_str hz (fun i => (z.cps.toList[i]?).map fun c => .bl (f c)) (fun _ _ => trivial) (fun i H' x H'' y => by rw [y.1]; exact Same.refl _) (fun i x H' H'' A B hi s y kA kB => ?_) fun E H' nE s hE => k E H' nE s ?_
  · obtain ⟨rfl, c, hc, rfl⟩ := y
    have e : z.cps.toList[i]? = some c := by rw [Array.getElem?_toList]; exact hc
    exact turn c H'' A B s (kA _ _ (by rw [e]; rfl) (Same.refl _))
  · rw [hE, List.map_map]
    have h := range_fm (fun c => some (V.bl (f c))) z.cps.toList
    rw [Array.length_toList] at h
    have e : (fun i : Nat => (z.cps.toList[i]?).map fun c => V.bl (f c)) = fun i : Nat => (z.cps.toList[i]?).bind fun c => some (V.bl (f c)) := by funext i; cases z.cps.toList[i]? <;> rfl
    rw [e, h]
    have m : ∀ l : List Nat, l.filterMap (fun c => some (V.bl (f c))) = l.map (V.bl ∘ f) := fun l => by
      induction l with
      | nil => rfl
      | cons a r ih => rw [List.filterMap_cons, List.map_cons, ← ih]; rfl
    rw [m]
section
variable {P : Program} {w : World} {K : PySem.W.Frag} {mg : Str → Option Value} {base : Heap}
theorem sc_is_integer : FnScope ["value"] ["value"] (defScope s_is_integer) := ⟨rfl, rfl, rfl, by decide +kernel, rfl, by decide +kernel, by decide +kernel⟩
def sp_is_integer (K : PySem.W.Frag) : Sp := fun vs H Q _ => ∃ (x : V) (t : String) (b1 b2 : Bool), vs = [x] ∧ TyX K H x (.type t) ∧ kitB t "int" = some b1 ∧ kitB t "bool" = some b2 ∧ Q (.bl (b1 && !b2)) H
theorem ok_is_integer (T : Tx K mg) : FnOk P w K mg base CX0 1 T.a_is_integer T.fd_is_integer ["value"] (sp_is_integer K) := by
  refine T.F_is_integer.ok sc_is_integer (fun vs H Q E h => ?_) (fun cdv A outer s H vs Q E hr h => ?_)
  · obtain ⟨x, t, b1, b2, rfl, _⟩ := h
    rfl
  · obtain ⟨x, t, b1, b2, rfl, ht, k1, k2, kk⟩ := h
    have hu := hu_of hr
    have hu64 := hr.units
    refine ⟨_, (pss_one (ps_ret (pe_and (pe_callB (call_uIsi (K := K) rfl) (by rfl) T.n_isinstance (by decide +kernel) (pa_cons (pv 0) (pa_cons (u_ty (n := "int") (by rfl) T.n_int (by decide +kernel)) pa_nil))) (pe_one (pe_not (pe_callB (call_uIsi (K := K) rfl) (by rfl) T.n_isinstance (by decide +kernel) (pa_cons (pv 0) (pa_cons (u_ty (n := "bool") (by rfl) T.n_bool (by decide +kernel)) pa_nil)))))))), ?_⟩
    walk_at "st"
    walk_at "go"
    refine e_isi ht k1 ?_
    walk_at "go"
    cases b1 with
    | true =>
      walk_at "go"
      refine e_isi ht k2 ?_
      walk_at "go"
      exact kk
    | false =>
      walk_at "go"
      exact kk
theorem sc_is_name : FnScope ["value", "sign"] ["value"] (defScope s_is_name) := ⟨rfl, rfl, rfl, by decide +kernel, rfl, by decide +kernel, by decide +kernel⟩
def sp_is_name (K : PySem.W.Frag) : Sp := fun vs H Q _ => ∃ (x : V), vs = [x] ∧ ((∃ s : Str, x = .str s ∧ s.length ≤ 1000000 ∧ ∀ H', Same H H' → Q (.bl (isName s)) H') ∨ (∃ t : String, TyX K H x (.type t) ∧ kitB t "str" = some false ∧ Q (.bl false) H))
theorem ok_is_name (T : Tx K mg) : FnOk P w K mg base CX0 1 T.a_is_name T.fd_is_name ["value"] (sp_is_name K) := by
  refine T.F_is_name.ok sc_is_name (fun vs H Q E h => ?_) (fun cdv A outer s H vs Q E hr h => ?_)
  · obtain ⟨x, rfl, _⟩ := h
    rfl
  · obtain ⟨x, rfl, kk⟩ := h
    have hu := hu_of hr
    have hu64 := hr.units
    refine ⟨_, (pss_cons (ps_if (PW.pt (pw_or (pt_not (pt_val (pe_callB (call_uIsi (K := K) rfl) (by rfl) T.n_isinstance (by decide +kernel) (pa_cons (pv 0) (pa_cons (u_ty (n := "str") (by rfl) T.n_str (by decide +kernel)) pa_nil))))) (pw_or1 (pt_not (pt_chain op_uLe op_uLe (pe_int) (pe_callB (call_uLen (K := K) rfl) (by rfl) T.n_len (by decide +kernel) (pa_cons (pv 0) pa_nil)) (u_constI (by rfl) T.m_MOST_SIGNS)))))) (pss_one (ps_ret (pe_bl))) pss_nil)
        (pss_one (ps_ret (pe_callB (call_uAll (K := K) rfl rfl) (by rfl) T.n_all (by decide +kernel) (pa_cons (pe_lc rfl sc_is_name.nd (pi_str (pv 0)) (blkOk_by (own := [("sign", 1)]) (N := ["value", "sign"]) (sc := defScope s_is_name) (by decide +kernel)) (fun _ _ _ _ _ => (pg_name (i := 1) sc_is_name.nd rfl (Or.inl rfl))) (fun _ _ _ _ _ => pts_nil) (fun _ _ _ _ _ => (pe_cmpR op_in_sign (pv 1) (u_constS (by rfl) T.m_SIGNS) rfl))) pa_nil))))), ?_⟩
    walk_at "st"
    walk_at "go"
    rcases kk with ⟨z, rfl, hz, kk⟩ | ⟨t, ht, k1, kk⟩
    · refine e_isi ty_str (show kitB "str" "str" = some true by decide +kernel) ?_
      walk_at "go"
      refine U.g_lenS (Nat.le_trans hz (by decide)) ?_
      walk_at "go"
      refine U.g_2 (fun c => ?_) (fun c => ?_)
      · walk_at "go"
        refine U.g_2 (fun c2 => ?_) (fun c2 => ?_)
        · -- too long
          walk_at "go"
          have e : isName z = false := by
            cases e : isName z with
            | false => rfl
            | true =>
              have := isName_out e
              have c2 : ¬ ((z.length : Int) ≤ 12) := of_decide_eq_false (by simpa using c2)
              omega
          rw [← e]
          exact kk H (Same.refl H)
        · have c1 : (1 : Int) ≤ z.length := of_decide_eq_true c
          have c2 : (z.length : Int) ≤ 12 := of_decide_eq_true (by simpa using c2)
          walk_at "go"
          refine e_str ?_
          refine all_signs (f := sign) (hz := by omega) (fun c H' A B _ kA => ?_) fun E H' nE s' hE => ?_
          · walk_at "go"
            refine ⟨rfl, ?_⟩
            walk_at "go"
            refine ⟨c, _, rfl, rfl, ?_⟩
            rw [signs_mem]
            exact kA
          walk_at "go"
          refine U.g_allB (bs := z.cps.toList.map sign) (SqL.of hE) ?_
          have e : (z.cps.toList.map sign).all id = isName z := by
            unfold isName
            rw [decide_eq_true (show 1 ≤ z.length by omega), decide_eq_true (show z.length ≤ 12 by omega), List.all_map]
            rfl
          rw [e]
          exact kk H' s'
      · walk_at "go"
        have e : isName z = false := by
          cases e : isName z with
          | false => rfl
          | true =>
            have := isName_out e
            have c2 : ¬ ((1 : Int) ≤ z.length) := of_decide_eq_false c
            omega
        rw [← e]
        exact kk H (Same.refl H)
    · refine e_isi ht k1 ?_
      walk_at "go"
      exact kk
theorem sc_is_tuple_of : FnScope ["value", "many"] ["value", "many"] (defScope s_is_tuple_of) := ⟨rfl, rfl, rfl, by decide +kernel, rfl, by decide +kernel, by decide +kernel⟩
def sp_is_tuple_of (K : PySem.W.Frag) : Sp := fun vs H Q _ => ∃ (x : V) (n : Int), vs = [x, .int n] ∧ ((∃ (a : Addr) (xs : List V), x = .ref a ∧ H a = some (.tup xs) ∧ Q (.bl (decide ((xs.length : Int) = n))) H) ∨ (∃ t : String, TyX K H x (.type t) ∧ kitB t "tuple" = some false ∧ Q (.bl false) H))
theorem ok_is_tuple_of (T : Tx K mg) : FnOk P w K mg base CX0 1 T.a_is_tuple_of T.fd_is_tuple_of ["value", "many"] (sp_is_tuple_of K) := by
  refine T.F_is_tuple_of.ok sc_is_tuple_of (fun vs H Q E h => ?_) (fun cdv A outer s H vs Q E hr h => ?_)
  · obtain ⟨x, n, rfl, _⟩ := h
    rfl
  · obtain ⟨x, n, rfl, kk⟩ := h
    have hu := hu_of hr
    have hu64 := hr.units
    refine ⟨_, (pss_one (ps_ret (pe_and (pe_callB (call_uIsi (K := K) rfl) (by rfl) T.n_isinstance (by decide +kernel) (pa_cons (pv 0) (pa_cons (u_ty (n := "tuple") (by rfl) T.n_tuple (by decide +kernel)) pa_nil))) (pe_one (pe_cmpR (op_uEq (K := K) rfl hu64) (pe_callB (call_uLen (K := K) rfl) (by rfl) T.n_len (by decide +kernel) (pa_cons (pv 0) pa_nil)) (pv 1) (nomark _)))))), ?_⟩
    walk_at "st"
    walk_at "go"
    rcases kk with ⟨a, xs, rfl, ha, kk⟩ | ⟨t, ht, k1, kk⟩
    · refine e_isi (ty_tup ha) (show kitB "tuple" "tuple" = some true by decide +kernel) ?_
      walk_at "go"
      refine U.g_lenL (Or.inr (SqT.of ha)) ?_
      walk_at "go"
      have e : decide (V.int xs.length = V.int n) = decide ((xs.length : Int) = n) := by
        rw [Bool.eq_iff_iff, decide_eq_true_eq, decide_eq_true_eq]
        exact ⟨fun z => V.int.inj z, fun z => by rw [z]⟩
      show Q (.bl (decide (V.int xs.length = V.int n))) H
      rw [e]
      exact kk
    · refine e_isi ht k1 ?_
      walk_at "go"
      exact kk
theorem sc_integer_in : FnScope ["word", "figures", "number", "sign"] ["word"] (defScope s_integer_in) := ⟨rfl, rfl, rfl, by decide +kernel, rfl, by decide +kernel, by decide +kernel⟩
/-- a text as the program's integer_in reads it: told for texts that Python writes of small numbers, and for names -/
def sp_integer_in : Sp := fun vs H Q _ => ∃ (z : Int), vs = [.str (toString z : Str)] ∧ -1000000 ≤ z ∧ z ≤ 1000000 ∧ ∀ H', Same H H' → Q (.int z) H'
theorem ok_integer_in (T : Tx K mg) : FnOk P w K mg base CX0 1 T.a_integer_in T.fd_integer_in ["word"] sp_integer_in := by
  refine T.F_integer_in.ok sc_integer_in (fun vs H Q E h => ?_) (fun cdv A outer s H vs Q E hr h => ?_)
  · obtain ⟨z, rfl, _⟩ := h
    rfl
  · obtain ⟨z, rfl, z0, z1, kk⟩ := h
    have hu := hu_of hr
    have hu64 := hr.units
    refine ⟨_, (pss_cons (ps_set (i := 1) sc_integer_in.nd rfl (Or.inl rfl) (pe_ifExp (pt_val (pe_bm PySem.F.plainAttrs_str PySem.F.slot_str_startswith PySem.F.type_str_startswith mt_startswith (pv 0) (pa_cons (pe_str) pa_nil))) (pe_slice (sl_u (K := K) rfl) (pv 0) (po_some (pe_int)) po_none) (pv 0)))
        (pss_cons (ps_if (PW.pt (pw_or (pt_not (pt_chain op_uLe op_uLe (pe_int) (pe_callB (call_uLen (K := K) rfl) (by rfl) T.n_len (by decide +kernel) (pa_cons (pv 1) pa_nil)) (u_constI (by rfl) T.m_MOST_FIGURES))) (pw_or1 (pt_not (pt_val (pe_callB (call_uAll (K := K) rfl rfl) (by rfl) T.n_all (by decide +kernel) (pa_cons (pe_lc rfl sc_integer_in.nd (pi_str (pv 1)) (blkOk_by (own := [("sign", 3)]) (N := ["word", "figures", "number", "sign"]) (sc := defScope s_integer_in) (by decide +kernel)) (fun _ _ _ _ _ => (pg_name (i := 3) sc_integer_in.nd rfl (Or.inl rfl))) (fun _ _ _ _ _ => pts_nil) (fun _ _ _ _ _ => (pe_cmpR op_in_sign (pv 3) (u_constS (by rfl) T.m_FIGURES) rfl))) pa_nil))))))) (pss_one (ps_ret (pe_non))) pss_nil)
        (pss_cons (ps_set (i := 2) sc_integer_in.nd rfl (Or.inl rfl) (pe_callTy call_uInt (by rfl) T.n_int (by decide +kernel) (pa_cons (pv 0) pa_nil)))
        (pss_one (ps_ret (pe_ifExp (pt_cmpR (op_uEq (K := K) rfl hu64) (pe_callTy call_uStr (by rfl) T.n_str (by decide +kernel) (pa_cons (pv 2) pa_nil)) (pv 0) (nomark _)) (pv 2) (pe_non))))))), ?_⟩
    walk_at "st"
    have wl := int_len z0 z1
    have big : (1000 : Nat) ≤ sizeLine := by decide
    have txt : PySem.intText? (toString z : Str) = some z := by
      by_cases h : 0 ≤ z
      · exact (int_pos h z1).2.2
      · exact (int_negs (by omega) z0).2.2
    refine U.g_seq (U.g_asg (U.g_cut (fun v H1 => ∃ fg : Str, v = .str fg ∧ H1 = H ∧ 1 ≤ fg.length ∧ fg.length ≤ 7 ∧ (fg.cps.toList.all fun c => decide (48 ≤ c) && decide (c ≤ 57)) = true) (fun R kR => ?_) ?_))
    · walk_at "go"
      refine ⟨rfl, ?_⟩
      walk_at "go"
      refine ⟨_, _, rfl, rfl, ?_⟩
      rw [minus_one, starts_one]
      walk_at "go"
      have dig : ∀ n : Nat, ((numL n).all fun c => decide (48 ≤ c) && decide (c ≤ 57)) = true := fun n => List.all_eq_true.mpr fun c hc => by
        have := numL_digits n c hc
        rw [Bool.and_eq_true, decide_eq_true_eq, decide_eq_true_eq]
        exact this
      by_cases h : 0 ≤ z
      · obtain ⟨e1, e2, _⟩ := int_pos h z1
        have ne : ¬ ((toString z : Str).cps.toList[0]? = some 45) := by
          rw [e1]
          intro q
          have := numL_digits _ _ (List.mem_of_getElem? q)
          omega
        rw [decide_eq_false ne]
        walk_at "go"
        refine kR _ _ ⟨_, rfl, rfl, ?_, ?_, by rw [e1]; exact dig _⟩
        · rw [← len_list, e1]; exact List.length_pos_iff.mpr (numL_ne _)
        · rw [← len_list, e1]; exact e2
      · obtain ⟨e1, e2, _⟩ := int_negs (z := z) (by omega) z0
        have ye : (toString z : Str).cps.toList[0]? = some 45 := by rw [e1]; rfl
        rw [decide_eq_true ye]
        walk_at "go"
        refine U.g_slS (by omega) ?_
        have ec : (cutS (toString z : Str) (some 1) none).cps.toList = numL (0 - z).toNat := by
          unfold cutS
          have l : (toString z : Str).length = (numL (0 - z).toNat).length + 1 := by rw [← len_list, e1, List.length_cons]
          show ((_ : List Nat).drop _).take _ = _
          rw [e1, HT.sIx_none]
          have i1 : HT.sIx (toString z : Str).length 0 (some 1) = 1 := by
            have := HT.sIx_nat (toString z : Str).length 0 1
            rw [show ((1 : Nat) : Int) = 1 from rfl] at this
            rw [this]
            omega
          rw [i1, List.drop_succ_cons, List.drop_zero, List.take_of_length_le (by omega)]
        refine kR _ _ ⟨_, rfl, rfl, ?_, ?_, by rw [ec]; exact dig _⟩
        · rw [← len_list, ec]; exact List.length_pos_iff.mpr (numL_ne _)
        · rw [← len_list, ec]; exact e2
    rintro _ _ ⟨fg, rfl, rfl, f1, f7, fd⟩
    walk_at "go"
    refine U.g_lenS (by omega) ?_
    walk_at "go"
    have c1 : decide ((1 : Int) ≤ fg.length) = true := decide_eq_true (by omega)
    have c2 : decide ((fg.length : Int) ≤ 9) = true := decide_eq_true (by omega)
    rw [c1]
    walk_at "go"
    rw [c2]
    walk_at "go"
    refine e_str ?_
    refine all_signs (f := fun c => decide (48 ≤ c) && decide (c ≤ 57)) (by omega) (fun c H' A B _ kA => ?_) fun E H' nE s' hE => ?_
    · walk_at "go"
      refine ⟨rfl, ?_⟩
      walk_at "go"
      refine ⟨c, _, rfl, rfl, ?_⟩
      rw [figs_mem]
      exact kA
    walk_at "go"
    refine U.g_allB (SqL.of hE) ?_
    rw [List.all_map]
    have fd' : fg.cps.toList.all (id ∘ fun c => decide (48 ≤ c) && decide (c ≤ 57)) = true := fd
    rw [fd']
    walk_at "go"
    refine ⟨z, txt, by omega, ?_⟩
    walk_at "go"
    have es : decide (V.str (toString z : Str) = V.str (toString z : Str)) = true := decide_eq_true rfl
    rw [es]
    refine U.g_2 (fun _ => ?_) (fun c => absurd c (by decide))
    walk_at "go"
    exact kk H' s'
end
end Toy

namespace Toy
open PySem L2 U M
section
variable {P : Program} {w : World} {K : PySem.W.Frag} {mg : Str → Option Value} {base : Heap}
theorem sc_is_line_value : FnScope ["value"] ["value"] (defScope s_is_line_value) := ⟨rfl, rfl, rfl, by decide +kernel, rfl, by decide +kernel, by decide +kernel⟩
def sp_is_line_value (K : PySem.W.Frag) : Sp := fun vs H Q _ => ∃ (x : V), vs = [x] ∧ ((∃ z : Int, x = .int z ∧ Q (.bl (decide (-1000000 ≤ z) && decide (z ≤ 1000000))) H) ∨ (∃ (t : String) (b1 b2 : Bool), TyX K H x (.type t) ∧ kitB t "int" = some b1 ∧ kitB t "bool" = some b2 ∧ (b1 && !b2) = false ∧ Q (.bl false) H))
theorem ok_is_line_value (T : Tx K mg) : FnOk P w K mg base CX0 2 T.a_is_line_value T.fd_is_line_value ["value"] (sp_is_line_value K) := by
  refine T.F_is_line_value.ok sc_is_line_value (fun vs H Q E h => ?_) (fun cdv A outer s H vs Q E hr h => ?_)
  · obtain ⟨x, rfl, _⟩ := h
    rfl
  · obtain ⟨x, rfl, kk⟩ := h
    have hu := hu_of hr
    have hu64 := hr.units
    refine ⟨_, (pss_one (ps_ret (pe_and (pe_call (ok_is_integer T) (hr.mono (by decide)) rfl T.m_is_integer T.F_is_integer.kp (b_is_integer T) .nil pass0 (pa_cons (pv 0) pa_nil)) (pe_one (pe_chain op_uLe op_uLe (pe_un op_uNeg (u_constI (by rfl) T.m_FARTHEST)) (pv 0) (u_constI (by rfl) T.m_FARTHEST)))))), ?_⟩
    walk_at "st"
    walk_at "go"
    rcases kk with ⟨z, rfl, kk⟩ | ⟨t, b1, b2, ht, k1, k2, kb, kk⟩
    · refine ⟨.int z, "int", true, false, rfl, ty_int, by decide +kernel, by decide +kernel, ?_⟩
      refine ⟨true, rfl, ?_⟩
      rw [if_pos rfl]
      walk_at "go"
      by_cases c : -1000000 ≤ z
      · rw [if_pos (decide_eq_true c)]
        walk_at "go"
        rw [decide_eq_true c, Bool.true_and] at kk
        exact kk
      · rw [if_neg (by simpa using c)]
        rw [decide_eq_false c, Bool.false_and] at kk
        exact kk
    · refine ⟨x, t, b1, b2, rfl, ht, k1, k2, ?_⟩
      rw [kb]
      walk_at "go"
      exact kk
end
end Toy

namespace Toy
open PySem L2 U M TL
section
variable {P : Program} {w : World} {K : PySem.W.Frag} {mg : Str → Option Value} {base : Heap}
def isIntV (v : V) : Bool := match v with
  | .int _ => true
  | _ => false
theorem e_spName {H : Hp} {Q : VK} {E : XK} {x : V} (px : plainV x = true) (q : ∀ H', Same H H' → Q (.bl (isNameV x)) H') : sp_is_name K [x] H Q E := by
  by_cases c : ∃ z, x = .str z
  · obtain ⟨z, rfl⟩ := c
    exact ⟨_, rfl, .inl ⟨z, rfl, of_decide_eq_true px, q⟩⟩
  · obtain ⟨t, h1, h2⟩ := plain_str (K := K) (H := H) px fun z e => c ⟨z, e⟩
    have e : isNameV x = false := by
      unfold isNameV
      split
      · rename_i z; exact absurd ⟨z, rfl⟩ c
      · rfl
    have q := q H (Same.refl H)
    rw [e] at q
    exact ⟨_, rfl, .inr ⟨t, h1, h2, q⟩⟩
theorem e_spInt {H : Hp} {Q : VK} {E : XK} {x : V} (px : plainV x = true) (q : Q (.bl (isIntV x)) H) : sp_is_integer K [x] H Q E := by
  by_cases c : ∃ z, x = .int z
  · obtain ⟨z, rfl⟩ := c
    exact ⟨_, "int", true, false, rfl, ty_int, by decide +kernel, by decide +kernel, q⟩
  · obtain ⟨t, b1, b2, h1, h2, h3, h4⟩ := plain_int (K := K) (H := H) px fun z e => c ⟨z, e⟩
    have e : isIntV x = false := by
      unfold isIntV
      split
      · rename_i z; exact absurd ⟨z, rfl⟩ c
      · rfl
    rw [e, ← h4] at q
    exact ⟨_, t, b1, b2, rfl, h1, h2, h3, q⟩
theorem sc_Line_is_value : FnScope ["self", "value"] ["self", "value"] (defScope s_Line_is_value) := ⟨rfl, rfl, rfl, by decide +kernel, rfl, by decide +kernel, by decide +kernel⟩
def sp_Line_is_value (K : PySem.W.Frag) : Sp := fun vs H Q _ => ∃ (a x : V), vs = [a, x] ∧ ((∃ z : Int, x = .int z ∧ Q (.bl (decide (-1000000 ≤ z) && decide (z ≤ 1000000))) H) ∨ (∃ (t : String) (b1 b2 : Bool), TyX K H x (.type t) ∧ kitB t "int" = some b1 ∧ kitB t "bool" = some b2 ∧ (b1 && !b2) = false ∧ Q (.bl false) H))
theorem ok_Line_is_value (T : Tx K mg) : FnOk P w K mg base CX0 3 T.a_Line_is_value T.fd_Line_is_value ["self", "value"] (sp_Line_is_value K) := by
  refine T.F_Line_is_value.ok sc_Line_is_value (fun vs H Q E h => ?_) (fun cdv A outer s H vs Q E hr h => ?_)
  · obtain ⟨a, x, rfl, _⟩ := h
    rfl
  · obtain ⟨a, x, rfl, kk⟩ := h
    have hu := hu_of hr
    have hu64 := hr.units
    refine ⟨_, (pss_one (ps_ret (pe_call (ok_is_line_value T) (hr.mono (by decide)) rfl T.m_is_line_value T.F_is_line_value.kp (b_is_line_value T) .nil pass0 (pa_cons (pv 1) pa_nil)))), ?_⟩
    walk_at "st"
    walk_at "go"
    exact ⟨x, rfl, kk⟩
theorem sc_Line_value_in : FnScope ["self", "word"] ["self", "word"] (defScope s_Line_value_in) := ⟨rfl, rfl, rfl, by decide +kernel, rfl, by decide +kernel, by decide +kernel⟩
def sp_Line_value_in : Sp := fun vs H Q _ => ∃ (a : V) (z : Int), vs = [a, .str (toString z : Str)] ∧ -1000000 ≤ z ∧ z ≤ 1000000 ∧ ∀ H', Same H H' → Q (.int z) H'
theorem ok_Line_value_in (T : Tx K mg) : FnOk P w K mg base CX0 2 T.a_Line_value_in T.fd_Line_value_in ["self", "word"] sp_Line_value_in := by
  refine T.F_Line_value_in.ok sc_Line_value_in (fun vs H Q E h => ?_) (fun cdv A outer s H vs Q E hr h => ?_)
  · obtain ⟨a, z, rfl, _⟩ := h
    rfl
  · obtain ⟨a, z, rfl, z0, z1, kk⟩ := h
    have hu := hu_of hr
    have hu64 := hr.units
    refine ⟨_, (pss_one (ps_ret (pe_call (ok_integer_in T) (hr.mono (by decide)) rfl T.m_integer_in T.F_integer_in.kp (b_integer_in T) .nil pass0 (pa_cons (pv 1) pa_nil)))), ?_⟩
    walk_at "st"
    walk_at "go"
    refine ⟨z, rfl, z0, z1, fun H' s' => ?_⟩
    walk_at "go"
    exact kk H' s'
theorem sc_Tree_value_in : FnScope ["self", "word"] ["self", "word"] (defScope s_Tree_value_in) := ⟨rfl, rfl, rfl, by decide +kernel, rfl, by decide +kernel, by decide +kernel⟩
def sp_Tree_value_in : Sp := fun vs H Q _ => ∃ (a x : V), vs = [a, x] ∧ Q x H
theorem ok_Tree_value_in (T : Tx K mg) : FnOk P w K mg base CX0 1 T.a_Tree_value_in T.fd_Tree_value_in ["self", "word"] sp_Tree_value_in := by
  refine T.F_Tree_value_in.ok sc_Tree_value_in (fun vs H Q E h => ?_) (fun cdv A outer s H vs Q E hr h => ?_)
  · obtain ⟨a, x, rfl, _⟩ := h
    rfl
  · obtain ⟨a, x, rfl, kk⟩ := h
    refine ⟨_, (pss_one (ps_ret (pv 1))), ?_⟩
    walk_at "st"
    walk_at "go"
    exact kk
theorem e_spLine {H : Hp} {Q : VK} {E : XK} {a x : V} (px : plainV x = true) (q : Q (.bl (intIn (-1000000) 1000000 x)) H) : sp_Line_is_value K [a, x] H Q E := ⟨a, x, rfl, e_isval_line px q⟩
theorem sc_Tree_is_value : FnScope ["self", "value"] ["self", "value"] (defScope s_Tree_is_value) := ⟨rfl, rfl, rfl, by decide +kernel, rfl, by decide +kernel, by decide +kernel⟩
def sp_Tree_is_value (K : PySem.W.Frag) (CT : Addr) : Sp := fun vs H Q _ => ∃ (a dx u l : Addr) (ks : List Knd) (x : V), vs = [.ref a, x] ∧ TreeX CT H a dx u l ks ∧ ((∃ n : Str, x = .str n ∧ Q (.bl (decide (n ∈ ks.map (·.name)))) H) ∨ (∃ t : String, TyX K H x (.type t) ∧ kitB t "str" = some false ∧ Q (.bl false) H))
theorem ok_Tree_is_value (T : Tx K mg) : FnOk P w K mg base CX0 1 T.a_Tree_is_value T.fd_Tree_is_value ["self", "value"] (sp_Tree_is_value K T.C_Tree) := by
  refine T.F_Tree_is_value.ok sc_Tree_is_value (fun vs H Q E h => ?_) (fun cdv A outer s H vs Q E hr h => ?_)
  · obtain ⟨a, dx, u, l, ks, x, rfl, _⟩ := h
    rfl
  · obtain ⟨a, dx, u, l, ks, x, rfl, tr, kk⟩ := h
    have hu := hu_of hr
    have hu64 := hr.units
    refine ⟨_, (pss_one (ps_ret (pe_and (pe_callB (call_uIsi (K := K) rfl) (by rfl) T.n_isinstance (by decide +kernel) (pa_cons (pv 1) (pa_cons (u_ty (n := "str") (by rfl) T.n_str (by decide +kernel)) pa_nil))) (pe_one (pe_cmp (pc_din hu (pv 1) (u_fld (K := K) rfl (pv 0) rfl))))))), ?_⟩
    walk_at "st"
    walk_at "go"
    rcases kk with ⟨n, rfl, kk⟩ | ⟨t, ht, k1, kk⟩
    · refine e_isi ty_str (show kitB "str" "str" = some true by decide +kernel) ?_
      walk_at "go"
      refine g_fld ?_
      walk_at "go"
      refine tr.ups T.cl_Tree T.na_Tree_ups ?_
      obtain ⟨kvs, hk, _, e, _⟩ := tr.looks n
      refine e_dinS hk ?_
      rw [e]
      exact kk
    · refine e_isi ht k1 ?_
      walk_at "go"
      exact kk
theorem e_spTree {CT : Addr} {H : Hp} {Q : VK} {E : XK} {a dx u l : Addr} {ks : List Knd} {x : V} (tr : TreeX CT H a dx u l ks) (px : plainV x = true) (q : Q (.bl (isKind ks x)) H) : sp_Tree_is_value K CT [.ref a, x] H Q E := ⟨a, dx, u, l, ks, x, rfl, tr, e_isval_tree px q⟩
end
end Toy

namespace Toy
open PySem L2 U
/-! ### the pot: three numbers; n: how many draws it stands for still -/
def PotAt (H : Hp) (p : Addr) (n : Nat) : Prop := ∃ (o s : Int) (k : Nat), H p = some (.lst [.int o, .int s, .int k]) ∧ 0 ≤ o ∧ o < 10 ^ 300 ∧ 0 ≤ s ∧ s < 2 ^ 61 ∧ k + n ≤ 1000000
theorem PotAt.le {H : Hp} {p : Addr} {n m : Nat} (h : PotAt H p n) (l : m ≤ n) : PotAt H p m := by
  obtain ⟨o, s, k, a, b, c, d, e, f⟩ := h
  exact ⟨o, s, k, a, b, c, d, e, by omega⟩
section
variable {P : Program} {w : World} {K : PySem.W.Frag} {mg : Str → Option Value} {base : Heap}
theorem sc__law_take : FnScope ["pot", "upto", "digit", "prime", "blend"] ["pot", "upto"] (defScope s__law_take) := ⟨rfl, rfl, rfl, by decide +kernel, rfl, by decide +kernel, by decide +kernel⟩
def sp_take : Sp := fun vs H Q _ => ∃ (p : Addr) (u : Int) (n : Nat), vs = [.ref p, .int u] ∧ 0 < u ∧ u < 2 ^ 62 ∧ PotAt H p (n + 1) ∧ ∀ (r : Int) (H' : Hp), 0 ≤ r → r < u → PotAt H' p n → SB p H H' → Q (.int r) H'
theorem ok__law_take (T : Tx K mg) : FnOk P w K mg base CX0 1 T.a__law_take T.fd__law_take ["pot", "upto"] sp_take := by
  refine T.F__law_take.ok sc__law_take (fun vs H Q E h => ?_) (fun cdv A outer s H vs Q E hr h => ?_)
  · obtain ⟨p, u, n, rfl, _⟩ := h
    rfl
  · obtain ⟨p, u, n, rfl, u0, u1, ⟨ow, s, k, hp, h1, h2, h3, h4, h5⟩, kk⟩ := h
    have hu := hu_of hr
    have hu64 := hr.units
    refine ⟨_, (pss_cons (ps_if (pt_cmpR op_uGt (pe_ix (ix_u (K := K) rfl) (pv 0) (pe_int) (fun _ _ => rfl)) (pe_int) (nomark _)) (pss_cons (ps_set (i := 2) sc__law_take.nd rfl (Or.inl rfl) (pe_op op_uMod (pe_callTy call_uInt (by rfl) T.n_int (by decide +kernel) (pa_cons (pe_ix (ix_u (K := K) rfl) (pv 0) (pe_int) (fun _ _ => rfl)) pa_nil)) (pv 1)))
        (pss_cons (ps_asg (pe_op op_uDiv (pe_ix (ix_u (K := K) rfl) (pv 0) (pe_int) (fun _ _ => rfl)) (pv 1)) (pg_sub (pv 0) (pe_int) set_list))
        (pss_one (ps_ret (pv 2))))) pss_nil)
        (pss_cons (ps_asg (pe_op (op_uAdd (K := K) rfl) (pe_ix (ix_u (K := K) rfl) (pv 0) (pe_int) (fun _ _ => rfl)) (pe_int)) (pg_sub (pv 0) (pe_int) set_list))
        (pss_cons (ps_set (i := 3) sc__law_take.nd rfl (Or.inl rfl) (pe_ix (ix_u (K := K) rfl) (pe_lst (pa_cons (pe_int) (pa_cons (pe_int) (pa_cons (pe_int) (pa_cons (pe_int) (pa_cons (pe_int) pa_nil)))))) (pe_op op_uMod (pe_callTy call_uInt (by rfl) T.n_int (by decide +kernel) (pa_cons (pe_ix (ix_u (K := K) rfl) (pv 0) (pe_int) (fun _ _ => rfl)) pa_nil)) (pe_int)) (fun _ _ => rfl)))
        (pss_cons (ps_set (i := 4) sc__law_take.nd rfl (Or.inl rfl) (pe_op op_uMod (pe_callTy call_uInt (by rfl) T.n_int (by decide +kernel) (pa_cons (pe_op op_uPow (pe_callTy call_uInt (by rfl) T.n_int (by decide +kernel) (pa_cons (pe_op (op_uAdd (K := K) rfl) (pe_op (op_uAdd (K := K) rfl) (pe_ix (ix_u (K := K) rfl) (pv 0) (pe_int) (fun _ _ => rfl)) (pe_op op_uMul (pe_op op_uMul (pe_int) (pe_ix (ix_u (K := K) rfl) (pv 0) (pe_int) (fun _ _ => rfl))) (pe_ix (ix_u (K := K) rfl) (pv 0) (pe_int) (fun _ _ => rfl)))) (pe_int)) pa_nil)) (pe_int)) pa_nil)) (pv 3)))
        (pss_cons (ps_set (i := 4) sc__law_take.nd rfl (Or.inl rfl) (pe_op op_uMod (pe_callTy call_uInt (by rfl) T.n_int (by decide +kernel) (pa_cons (pe_op op_uMul (pv 4) (pe_op (op_uAdd (K := K) rfl) (pe_op op_uMod (pe_callTy call_uInt (by rfl) T.n_int (by decide +kernel) (pa_cons (pv 4) pa_nil)) (pe_int)) (pe_op op_uMul (pe_int) (pe_ix (ix_u (K := K) rfl) (pv 0) (pe_int) (fun _ _ => rfl))))) pa_nil)) (pe_int)))
        (pss_one (ps_ret (pe_op op_uMod (pe_callTy call_uInt (by rfl) T.n_int (by decide +kernel) (pa_cons (pe_op op_uDiv (pv 4) (pe_int)) pa_nil)) (pv 1))))))))), ?_⟩
    walk_at "st"
    walk_at "go"
    walk_at "c2"
    · walk_at "go"
      refine kk _ _ (Int.emod_nonneg _ (by omega)) (Int.emod_lt_of_pos _ u0) ⟨ow / u, s, k, upd_same, Int.ediv_nonneg h1 (by omega), ?_, h3, h4, by omega⟩ SB.upd
      exact Int.lt_of_le_of_lt (Int.ediv_le_self _ h1) h2
    · walk_at "go"
      refine ⟨by decide, fun a na => ?_⟩
      walk_at "go"
      refine U.g_ix5 (SqL.of (by walk_at "hp")) (by decide) (Int.emod_nonneg _ (by decide)) (Int.emod_lt_of_pos _ (by decide)) fun pr pr0 pr1 => ?_
      walk_at "go"
      refine U.g_powB h3 h4 (by decide) (by decide) (by omega) (by omega) (by decide) (by decide) ?_
      walk_at "go"
      exact kk _ _ (Int.emod_nonneg _ (by omega)) (Int.emod_lt_of_pos _ u0) ⟨ow, s, k + 1, by walk_at "hp", h1, h2, h3, h4, by omega⟩ (SB.upd.new na)
theorem sc__law_of : FnScope ["pot", "some"] ["pot", "some"] (defScope s__law_of) := ⟨rfl, rfl, rfl, by decide +kernel, rfl, by decide +kernel, by decide +kernel⟩
/-- some[take]: any item of a list, a tuple, a text -/
def sp_of (K : PySem.W.Frag) : Sp := fun vs H Q _ => ∃ (p : Addr) (x : V) (n : Nat), vs = [.ref p, x] ∧ PotAt H p (n + 1) ∧
  ((∃ (b : Addr) (ys : List V), x = .ref b ∧ (SqL K H b ys ∨ SqT K H b ys) ∧ 0 < ys.length ∧ ys.length ≤ 1000000 ∧ (∀ H', SB p H H' → SqL K H' b ys ∨ SqT K H' b ys) ∧ ∀ (j : Nat) (y : V) (H' : Hp), ys[j]? = some y → PotAt H' p n → SB p H H' → Q y H') ∨
   (∃ z : Str, x = .str z ∧ 0 < z.length ∧ z.length ≤ 1000000 ∧ ∀ (c : Nat) (H' : Hp), c ∈ z.cps.toList → PotAt H' p n → SB p H H' → Q (.str ⟨#[c]⟩) H'))
theorem ok__law_of (T : Tx K mg) : FnOk P w K mg base CX0 2 T.a__law_of T.fd__law_of ["pot", "some"] (sp_of K) := by
  refine T.F__law_of.ok sc__law_of (fun vs H Q E h => ?_) (fun cdv A outer s H vs Q E hr h => ?_)
  · obtain ⟨p, x, n, rfl, _⟩ := h
    rfl
  · obtain ⟨p, x, n, rfl, hp, kk⟩ := h
    have hu := hu_of hr
    have hu64 := hr.units
    refine ⟨_, (pss_one (ps_ret (pe_ix (ix_u (K := K) rfl) (pv 1) (pe_call (ok__law_take T) (hr.mono (by decide)) rfl T.m__law_take T.F__law_take.kp (b__law_take T) .nil pass0 (pa_cons (pv 0) (pa_cons (pe_callB (call_uLen (K := K) rfl) (by rfl) T.n_len (by decide +kernel) (pa_cons (pv 1) pa_nil)) pa_nil))) (fun _ _ => rfl)))), ?_⟩
    walk_at "st"
    walk_at "go"
    rcases kk with ⟨b, ys, rfl, hb, l0, l1, st, kk⟩ | ⟨z, rfl, l0, l1, kk⟩
    · refine U.g_lenL hb ?_
      walk_at "go"
      refine ⟨p, ys.length, n, rfl, by omega, by omega, hp, fun r H' r0 r1 hp' sb => ?_⟩
      have e : r = ((r.toNat : Nat) : Int) := by omega
      have hj : r.toNat < ys.length := by omega
      refine U.g_ix (st H' sb) (at_of e (List.getElem?_eq_getElem hj)) ?_
      exact kk _ _ _ (List.getElem?_eq_getElem hj) hp' sb
    · refine U.g_lenS (Nat.le_trans l1 (by decide)) ?_
      walk_at "go"
      refine ⟨p, z.length, n, rfl, by omega, by omega, hp, fun r H' r0 r1 hp' sb => ?_⟩
      have hj : r.toNat < z.cps.toList.length := by rw [Array.length_toList]; show r.toNat < z.length; omega
      refine U.g_ixS (Nat.le_trans l1 (by decide)) (c := z.cps.toList[r.toNat]) ?_ ?_
      · exact U.at_nat (show r = ((r.toNat : Nat) : Int) by omega) (List.getElem?_eq_getElem hj)
      · exact kk _ _ (List.getElem_mem hj) hp' sb
theorem sc__law_pot : FnScope ["script", "place", "cell", "own", "small"] ["script", "place"] (defScope s__law_pot) := ⟨rfl, rfl, rfl, by decide +kernel, rfl, by decide +kernel, by decide +kernel⟩
def sp_pot (K : PySem.W.Frag) : Sp := fun vs H Q _ => ∃ (a : Addr) (ns : List Int) (i : Int), vs = [.ref a, .int i] ∧ SqL K H a (ns.map V.int) ∧ 0 ≤ i ∧ i ≤ 100 ∧ ∀ (p : Addr) (H' : Hp), H p = none → Same H H' → PotAt H' p 1000000 → Q (.ref p) H'
theorem ok__law_pot (T : Tx K mg) : FnOk P w K mg base CX0 1 T.a__law_pot T.fd__law_pot ["script", "place"] (sp_pot K) := by
  refine T.F__law_pot.ok sc__law_pot (fun vs H Q E h => ?_) (fun cdv A outer s H vs Q E hr h => ?_)
  · obtain ⟨a, ns, i, rfl, _⟩ := h
    rfl
  · obtain ⟨a, ns, i, rfl, ha, i0, i1, kk⟩ := h
    have hu := hu_of hr
    have hu64 := hr.units
    refine ⟨_, (pss_cons (ps_set (i := 2) sc__law_pot.nd rfl (Or.inl rfl) (pe_ifExp (pt_cmpR op_uLt (pv 1) (pe_callB (call_uLen (K := K) rfl) (by rfl) T.n_len (by decide +kernel) (pa_cons (pv 0) pa_nil)) (nomark _)) (pe_ix (ix_u (K := K) rfl) (pv 0) (pv 1) (fun _ _ => rfl)) (pe_op (op_uAdd (K := K) rfl) (pe_op (op_uAdd (K := K) rfl) (pe_op op_uMod (pe_callB (call_uSum (K := K) rfl rfl) (by rfl) T.n_sum (by decide +kernel) (pa_cons (pe_slice (sl_u (K := K) rfl) (pv 0) po_none (po_some (pe_int))) pa_nil)) (pe_int)) (pe_op op_uMul (pe_int) (pv 1))) (pe_int))))
        (pss_cons (ps_set (i := 3) sc__law_pot.nd rfl (Or.inl rfl) (pe_op op_uMul (pe_op op_uMod (pe_callTy call_uInt (by rfl) T.n_int (by decide +kernel) (pa_cons (pe_callB call_uAbs (by rfl) T.n_abs (by decide +kernel) (pa_cons (pv 2) pa_nil)) pa_nil)) (pe_op op_uPow (pe_op op_uPow (pe_int) (pe_int)) (pe_int))) (pe_callTy call_uInt (by rfl) T.n_int (by decide +kernel) (pa_cons (pe_cmpR op_uGe (pe_callB call_uAbs (by rfl) T.n_abs (by decide +kernel) (pa_cons (pv 2) pa_nil)) (pe_op op_uPow (pe_int) (pe_int)) (nomark _)) pa_nil))))
        (pss_cons (ps_set (i := 4) sc__law_pot.nd rfl (Or.inl rfl) (pe_op op_uMod (pe_callTy call_uInt (by rfl) T.n_int (by decide +kernel) (pa_cons (pv 2) pa_nil)) (pe_int)))
        (pss_one (ps_ret (pe_lst (pa_cons (pv 3) (pa_cons (pe_op op_uMod (pe_callTy call_uInt (by rfl) T.n_int (by decide +kernel) (pa_cons (pe_op (op_uAdd (K := K) rfl) (pe_op (op_uAdd (K := K) rfl) (pe_op op_uMul (pv 4) (pe_int)) (pe_op op_uMul (pe_op op_uMul (pe_int) (pv 1)) (pv 1))) (pe_int)) pa_nil)) (pe_int)) (pa_cons (pe_int) pa_nil))))))))), ?_⟩
    walk_at "st"
    refine U.g_seq (U.g_asg (U.g_cut (fun v H1 => (∃ c : Int, v = .int c) ∧ Same H H1) (fun R kR => ?_) ?_))
    · walk_at "go"
      refine U.g_lenL (Or.inl ha) ?_
      walk_at "go"
      refine U.g_2 (fun c => ?_) (fun c => ?_)
      · walk_at "go"
        rw [List.length_map] at c
        have c := of_decide_eq_true c
        have hj : i.toNat < ns.length := by omega
        refine U.g_ix (Or.inl ha) (U.at_nat (show i = ((i.toNat : Nat) : Int) by omega) (by rw [List.getElem?_map, List.getElem?_eq_getElem hj]; rfl)) ?_
        exact kR _ _ ⟨⟨_, rfl⟩, Same.refl _⟩
      · walk_at "go"
        refine U.g_slL ha fun q nq => ?_
        rw [U.cut1]
        walk_at "go"
        refine U.g_sum (SqL.of upd_same) ?_
        walk_at "go"
        exact kR _ _ ⟨⟨_, rfl⟩, U.same_new nq⟩
    · rintro v H1 ⟨⟨c, rfl⟩, s1⟩
      walk_at "go"
      refine ⟨by show 3 ≤ sizeLine; decide, fun q nq => ?_⟩
      obtain ⟨m0, m1⟩ := U.mulB_bd (b := decide (10 ^ (18 : Int).toNat ≤ (if c < 0 then -c else c))) (Int.emod_nonneg (if c < 0 then -c else c) (show ((10 : Int) ^ (60 : Int).toNat) ^ (5 : Int).toNat ≠ 0 by decide +kernel)) (Int.emod_lt_of_pos (if c < 0 then -c else c) (show (0 : Int) < ((10 : Int) ^ (60 : Int).toNat) ^ (5 : Int).toNat by decide +kernel))
      refine kk q _ (s1.free nq) (fun b o e => U.same_new nq b o (s1 b o e)) ⟨_, _, 0, upd_same, m0, Int.lt_of_lt_of_le m1 (by decide +kernel), Int.emod_nonneg _ (by decide), ?_, by decide⟩
      exact Int.lt_of_lt_of_le (Int.emod_lt_of_pos _ (by decide)) (by decide)
theorem sc__law_cells : FnScope ["script", "most"] ["script", "most"] (defScope s__law_cells) := ⟨rfl, rfl, rfl, by decide +kernel, rfl, by decide +kernel, by decide +kernel⟩
def sp_cells (K : PySem.W.Frag) : Sp := fun vs H Q _ => ∃ (a : Addr) (ns : List Int) (m : Int), vs = [.ref a, .int m] ∧ SqL K H a (ns.map V.int) ∧ ns.length ≤ 63 ∧ 1 ≤ m ∧ m ≤ 100 ∧ ∀ (p : Addr) (c : Nat), H p = none → 1 ≤ c → c ≤ 100 → Q (.ref p) (upd H p (.lst (rgV 0 c)))
theorem ok__law_cells (T : Tx K mg) : FnOk P w K mg base CX0 1 T.a__law_cells T.fd__law_cells ["script", "most"] (sp_cells K) := by
  refine T.F__law_cells.ok sc__law_cells (fun vs H Q E h => ?_) (fun cdv A outer s H vs Q E hr h => ?_)
  · obtain ⟨a, ns, m, rfl, _⟩ := h
    rfl
  · obtain ⟨a, ns, m, rfl, ha, hl, m0, m1, kk⟩ := h
    have hu := hu_of hr
    have hu64 := hr.units
    refine ⟨_, (pss_one (ps_ret (pe_listRg rfl rfl T.n_list (prg_1 rfl T.n_range (pe_callB (call_uMax rfl) (by rfl) T.n_max (by decide +kernel) (pa_cons (pe_int) (pa_cons (pe_callB (call_uMin rfl) (by rfl) T.n_min (by decide +kernel) (pa_cons (pv 1) (pa_cons (pe_callB (call_uLen (K := K) rfl) (by rfl) T.n_len (by decide +kernel) (pa_cons (pv 0) pa_nil)) pa_nil))) pa_nil))))))), ?_⟩
    walk_at "st"
    walk_at "go"
    refine U.g_lenL (Or.inl ha) ?_
    walk_at "go"
    have e : ∃ c : Nat, (if (if ((List.map V.int ns).length : Int) < m then ((List.map V.int ns).length : Int) else m) > 1 then if ((List.map V.int ns).length : Int) < m then ((List.map V.int ns).length : Int) else m else 1) = (c : Int) ∧ 1 ≤ c ∧ c ≤ 100 := by
      rw [List.length_map]
      by_cases h1 : (ns.length : Int) < m
      · rw [if_pos h1]
        by_cases h2 : (ns.length : Int) > 1
        · rw [if_pos h2]; exact ⟨ns.length, rfl, by omega, by omega⟩
        · rw [if_neg h2]; exact ⟨1, rfl, by omega, by omega⟩
      · rw [if_neg h1]
        by_cases h2 : m > 1
        · rw [if_pos h2]; exact ⟨m.toNat, by omega, by omega, by omega⟩
        · rw [if_neg h2]; exact ⟨1, rfl, by omega, by omega⟩
    obtain ⟨c, e, c1, c2⟩ := e
    rw [e]
    exact ⟨RgOk.of_le (by omega) (by omega) (by omega) (by omega), fun q nq => kk q c nq c1 c2⟩
end
end Toy

namespace Toy
open PySem L2 U M
/-- what stands while names are drawn: the words, the list found, the dict known; b: the draws that are left -/
structure NmI (H : Hp) (p wd f k : Addr) (ws : List V) (m b : Nat) (ns : List Str) (H' : Hp) : Prop where
  hw : H' wd = some (.lst ws)
  hf : H' f = some (.lst (ns.map V.str))
  hk : H' k = some (.dK (known ns))
  nd : ns.Nodup
  ok : ∀ s ∈ ns, isName s = true
  le : ns.length ≤ m
  pot : PotAt H' p b
  sb : SB p H H'
structure NmD (H : Hp) (p wd f k : Addr) : Prop where
  wp : wd ≠ p
  fp : f ≠ p
  kp : k ≠ p
  wf : wd ≠ f
  wk : wd ≠ k
  fk : f ≠ k
  nf : H f = none
  nk : H k = none
theorem NmI.step {H H' H'' : Hp} {p wd f k : Addr} {ws : List V} {m b b' : Nat} {ns : List Str} (D : NmD H p wd f k) (I : NmI H p wd f k ws m b ns H') (h : PotAt H'' p b') (s : SB p H' H'') : NmI H p wd f k ws m b' ns H'' :=
  ⟨s _ _ I.hw D.wp, s _ _ I.hf D.fp, s _ _ I.hk D.kp, I.nd, I.ok, I.le, h, I.sb.trans s⟩
theorem NmI.new {H H' : Hp} {p wd f k a : Addr} {o : HO} {ws : List V} {m b : Nat} {ns : List Str} (I : NmI H p wd f k ws m b ns H') (h : H' a = none) : NmI H p wd f k ws m b ns (upd H' a o) := by
  obtain ⟨ow, s, q, hp, r⟩ := I.pot
  exact ⟨get_new h I.hw, get_new h I.hf, get_new h I.hk, I.nd, I.ok, I.le, ⟨ow, s, q, get_new h hp, r⟩, I.sb.new h⟩
theorem NmI.lo {H H' : Hp} {p wd f k : Addr} {ws : List V} {m b b' : Nat} {ns : List Str} (I : NmI H p wd f k ws m b ns H') (h : b' ≤ b) : NmI H p wd f k ws m b' ns H' := ⟨I.hw, I.hf, I.hk, I.nd, I.ok, I.le, I.pot.le h, I.sb⟩
/-- a name goes into both -/
theorem NmI.add {H H' : Hp} {p wd f k : Addr} {ws : List V} {m b : Nat} {ns : List Str} {x : Str} (D : NmD H p wd f k) (I : NmI H p wd f k ws m b ns H') (hx : isName x = true) (hn : x ∉ ns) (hl : ns.length < m) :
    NmI H p wd f k ws m b (ns ++ [x]) (upd (upd H' k (.dK (known (ns ++ [x])))) f (.lst ((ns ++ [x]).map V.str))) := by
  obtain ⟨ow, s, q, hp, r⟩ := I.pot
  refine ⟨get_ne D.wf (get_ne D.wk I.hw), upd_same, get_ne D.fk.symm upd_same, ?_, ?_, ?_, ⟨ow, s, q, get_ne D.fp.symm (get_ne D.kp.symm hp), r⟩, (I.sb.mut D.nk).mut D.nf⟩
  · rw [List.nodup_append]
    exact ⟨I.nd, by simp, fun a ha b hb => by rw [List.mem_singleton] at hb; subst hb; intro e; subst e; exact hn ha⟩
  · intro s hs
    rcases List.mem_append.mp hs with h | h
    · exact I.ok s h
    · rw [List.mem_singleton] at h; subst h; exact hx
  · rw [List.length_append]; show ns.length + 1 ≤ m; omega
section
variable {P : Program} {w : World} {K : PySem.W.Frag} {mg : Str → Option Value} {base : Heap}
theorem sc__law_names : FnScope ["pot", "amount", "signs", "words", "found", "known", "lap", "name", "place", "rest", "one", "at"] ["pot", "amount"] (defScope s__law_names) := ⟨rfl, rfl, rfl, by decide +kernel, rfl, by decide +kernel, by decide +kernel⟩
def sp_names : Sp := fun vs H Q _ => ∃ (p : Addr) (m n : Nat), vs = [.ref p, .int m] ∧ m ≤ 60 ∧ PotAt H p (n + 16 * m) ∧ ∀ (l : Addr) (ns : List Str) (H' : Hp), H l = none → H' l = some (.lst (ns.map V.str)) → ns.length = m → ns.Nodup → (∀ s ∈ ns, isName s = true) → PotAt H' p n → SB p H H' → Q (.ref l) H'
theorem ok__law_names (T : Tx K mg) : FnOk P w K mg base CX0 3 T.a__law_names T.fd__law_names ["pot", "amount"] sp_names := by
  refine T.F__law_names.ok sc__law_names (fun vs H Q E h => ?_) (fun cdv A outer s H vs Q E hr h => ?_)
  · obtain ⟨p, m, n, rfl, _⟩ := h
    rfl
  · obtain ⟨p, m, n, rfl, hm, hp, kk⟩ := h
    have hu := hu_of hr
    have hu64 := hr.units
    refine ⟨_, (pss_cons (ps_par rfl sc__law_names.nd (i := 2) (j := 3) rfl rfl (by decide) rfl rfl (pa_cons (pe_str) (pa_cons (pe_lst (pa_cons (pe_str) (pa_cons (pe_str) (pa_cons (pe_str) (pa_cons (pe_str) (pa_cons (pe_str) (pa_cons (pe_str) (pa_cons (pe_str) (pa_cons (pe_str) (pa_cons (pe_str) pa_nil)))))))))) pa_nil)) (by rfl))
        (pss_cons (ps_asg (pe_tup (pa_cons (pe_lst pa_nil) (pa_cons (pe_dnewK) pa_nil))) (u_gtup (K := K) (n := 2) rfl rfl (pgs_cons (pg_name (i := 4) sc__law_names.nd rfl (Or.inl rfl)) (pgs_cons (pg_name (i := 5) sc__law_names.nd rfl (Or.inr rfl)) pgs_nil))))
        (pss_cons (ps_for PassesOwn.never rfl (pi_range1 (by rfl) T.n_range (pa_cons (pe_op op_uMul (pe_int) (pv 1)) pa_nil)) (pg_name (i := 6) sc__law_names.nd rfl (Or.inl rfl)) (pss_cons (ps_set (i := 7) sc__law_names.nd rfl (Or.inl rfl) (pe_ifExp (pt_cmpR (op_uEq (K := K) rfl hu64) (pe_call (ok__law_take T) (hr.mono (by decide)) rfl T.m__law_take T.F__law_take.kp (b__law_take T) .nil pass0 (pa_cons (pv 0) (pa_cons (pe_int) pa_nil))) (pe_int) (nomark _)) (pe_call (ok__law_of T) (hr.mono (by decide)) rfl T.m__law_of T.F__law_of.kp (b__law_of T) .nil pass0 (pa_cons (pv 0) (pa_cons (pv 3) pa_nil))) (pe_str)))
        (pss_cons (ps_for PassesOwn.never rfl (pi_range1 (by rfl) T.n_range (pa_cons (pe_ifExp (pt_cmpR (op_uEq (K := K) rfl hu64) (pv 7) (pe_str) (nomark _)) (pe_call (ok__law_of T) (hr.mono (by decide)) rfl T.m__law_of T.F__law_of.kp (b__law_of T) .nil pass0 (pa_cons (pv 0) (pa_cons (pe_lst (pa_cons (pe_int) (pa_cons (pe_int) (pa_cons (pe_int) (pa_cons (pe_int) (pa_cons (pe_int) pa_nil)))))) pa_nil))) (pe_int)) pa_nil)) (pg_name (i := 8) sc__law_names.nd rfl (Or.inl rfl)) (pss_one (ps_set (i := 7) sc__law_names.nd rfl (Or.inl rfl) (pe_op (op_uAdd (K := K) rfl) (pv 7) (pe_call (ok__law_of T) (hr.mono (by decide)) rfl T.m__law_of T.F__law_of.kp (b__law_of T) .nil pass0 (pa_cons (pv 0) (pa_cons (pv 2) pa_nil)))))))
        (pss_one (ps_if (PW.pt (pw_and (pt_cmp (pc_dnotin hu (pv 7) (pv 5))) (pw_and1 (pt_cmpR op_uLt (pe_callB (call_uLen (K := K) rfl) (by rfl) T.n_len (by decide +kernel) (pa_cons (pv 4) pa_nil)) (pv 1) (nomark _))))) (pss_cons (ps_dput hu (pv 5) (pv 7) (pe_bl) rfl)
        (pss_one (ps_expr (pe_bm PySem.F.plainAttrs_list PySem.F.slot_list_append PySem.F.type_list_append mt_append (pv 4) (pa_cons (pv 7) pa_nil))))) pss_nil)))))
        (pss_cons (ps_for PassesOwn.never rfl (pi_range1 (by rfl) T.n_range (pa_cons (pe_op op_uSub (pv 1) (pe_callB (call_uLen (K := K) rfl) (by rfl) T.n_len (by decide +kernel) (pa_cons (pv 4) pa_nil))) pa_nil)) (pg_name (i := 6) sc__law_names.nd rfl (Or.inl rfl)) (pss_cons (ps_setLc (i := 9) rfl sc__law_names.nd rfl rfl (sw_true rfl rfl rfl (by decide +kernel)) (u_list (K := K) rfl (pe_lc rfl sc__law_names.nd (pi_range1 (by rfl) T.n_range (pa_cons (pe_op op_uMul (pe_int) (pv 1)) pa_nil)) (blkOk_by (own := [("at", 11)]) (N := ["pot", "amount", "signs", "words", "found", "known", "lap", "name", "place", "rest", "one", "at"]) (sc := defScope s__law_names) (by decide +kernel)) (fun _ _ _ _ _ => (pg_name (i := 11) sc__law_names.nd rfl (Or.inl rfl))) (fun _ _ _ _ _ => pts_nil) (fun _ _ _ _ _ => (pe_op (op_uAdd (K := K) rfl) (pe_str) (pe_callTy call_uStr (by rfl) T.n_str (by decide +kernel) (pa_cons (pv 11) pa_nil)))))) (blkOk_by (own := [("one", 10)]) (N := ["pot", "amount", "signs", "words", "found", "known", "lap", "name", "place", "rest", "one", "at"]) (sc := defScope s__law_names) (by decide +kernel)) (fun _ _ _ _ _ => (pg_name (i := 10) sc__law_names.nd rfl (Or.inl rfl))) (fun _ _ _ _ _ => (pts_one (pt_cmp (pc_dnotin hu (pv 10) (pv 5))))) (fun _ _ _ _ _ => (pv 10)))
        (pss_cons (ps_dput hu (pv 5) (pe_ix (ix_u (K := K) rfl) (pv 9) (pe_int) (fun _ _ => rfl)) (pe_bl) rfl)
        (pss_one (ps_expr (pe_bm PySem.F.plainAttrs_list PySem.F.slot_list_append PySem.F.type_list_append mt_append (pv 4) (pa_cons (pe_ix (ix_u (K := K) rfl) (pv 9) (pe_int) (fun _ _ => rfl)) pa_nil)))))))
        (pss_one (ps_ret (pv 4))))))), ?_⟩
    walk_at "st"
    walk_at "go"
    refine ⟨by decide, fun wd nwd => ?_⟩
    walk_at "go"
    refine ⟨by decide, fun f nf => ?_⟩
    walk_at "go"
    intro k nk
    walk_at "go"
    refine ⟨by show 2 ≤ sizeLine; decide, fun t nt => ?_⟩
    walk_at "go"
    obtain ⟨ow, sd, q, hp0, hp1⟩ := id hp
    have X : NmD H p wd f k := ⟨(ne_of_none hp0 nwd).symm, (ne_of_none hp0 (nb1 nf)).symm, (ne_of_none hp0 (nb1 (nb1 nk))).symm, (nb2 nf).symm, (nb2 (nb1 nk)).symm, (nb2 nk).symm, nb1 nf, nb1 (nb1 nk)⟩
    refine e_rng (by omega) (by omega) ?_
    refine forI_by walk_range (fun i σ' H' => ∃ (ns : List Str) (v6 v7 v8 : Option V), σ' = [some (.ref p), some (.int m), some (.str "abcxyz0189"), some (.ref wd), some (.ref f), some (.ref k), v6, v7, v8, none, none, none] ∧
        NmI H p wd f k words m (n + 8 * (2 * m - i)) ns H') ?h0 (fun _ _ _ _ _ => trivial) ?hs ?hd
    case h0 =>
      refine ⟨[], none, none, none, rfl, ⟨by walk_at "hp", by walk_at "hp", by walk_at "hp", List.nodup_nil, (fun s h => by cases h), Nat.zero_le _, ⟨ow, sd, q, by walk_at "hp", ?_⟩, (((SB.refl p H).new nwd).new nf |>.new nk).new nt⟩⟩
      obtain ⟨a1, a2, a3, a4, a5⟩ := hp1
      exact ⟨a1, a2, a3, a4, by omega⟩
    case hs =>
      rintro i x σ' H' _ hi ⟨ns, v6, v7, v8, rfl, I⟩ ⟨rfl, rfl⟩
      have hi' : i < 2 * m := by omega
      -- name: a word, or empty
      refine U.g_seq (U.g_asg (U.g_cut (fun v H1 => ∃ x : Str, v = .str x ∧ (x = "" ∨ isName x = true) ∧ NmI H p wd f k words m (n + 8 * (2 * m - i) - 2) ns H1) (fun R kR => ?_) ?_))
      · walk_at "go"
        refine ⟨p, 7, n + 8 * (2 * m - i) - 1, rfl, by decide, by decide, I.pot.le (by omega), fun r H1 r0 r1 hp1 s1 => ?_⟩
        have I1 := I.step X hp1 s1
        walk_at "go"
        refine U.g_2 (fun c => ?_) (fun c => ?_)
        · walk_at "go"
          refine ⟨p, .ref wd, n + 8 * (2 * m - i) - 2, rfl, hp1.le (by omega), Or.inl ⟨wd, _, rfl, Or.inl (SqL.of I1.hw), by decide, by decide, fun H2 s2 => Or.inl (SqL.of (s2 _ _ I1.hw X.wp)), fun j y H2 hy hp2 s2 => ?_⟩⟩
          obtain ⟨x, rfl, hx⟩ := isNameV_out (all_at (f := isNameV) (by decide +kernel) hy)
          exact kR _ _ ⟨x, rfl, Or.inr hx, I1.step X hp2 s2⟩
        · walk_at "go"
          exact kR _ _ ⟨"", rfl, Or.inl rfl, I1.lo (by omega)⟩
      rintro _ H1 ⟨x, rfl, hx, I1⟩
      refine U.g_name ?_
      walk_at "ds"
      -- the signs of a name of its own
      refine U.g_seq (U.g_cutS (fun σ' H' => ∃ (x : Str) (v6 v8 : Option V), σ' = [some (.ref p), some (.int m), some (.str "abcxyz0189"), some (.ref wd), some (.ref f), some (.ref k), v6, some (.str x), v8, none, none, none] ∧ isName x = true ∧ NmI H p wd f k words m (n + 8 * (2 * m - i) - 8) ns H') (fun R kR => ?_) ?_)
      · walk_at "go"
        have ex : V.str x = V.str "" ↔ x = "" := ⟨fun e => V.str.inj e, fun e => by rw [e]⟩
        refine U.g_2 (fun c => ?_) (fun c => ?_)
        · have c := ex.mp (of_decide_eq_true c)
          subst c
          walk_at "go"
          refine ⟨by decide, fun a na => ?_⟩
          have I1' := I1.new (o := .lst [.int 1, .int 2, .int 2, .int 3, .int 5]) na
          walk_at "go"
          refine ⟨p, .ref a, n + 8 * (2 * m - i) - 3, rfl, I1'.pot.le (by omega), Or.inl ⟨a, _, rfl, Or.inl (SqL.of upd_same), by decide, by decide, fun H2 s2 => Or.inl (SqL.of (s2 _ _ upd_same ?_)), fun j y H2 hy hp2 s2 => ?_⟩⟩
          · obtain ⟨_, _, _, e, _⟩ := I1.pot
            exact (ne_of_none e na).symm
          obtain ⟨z, rfl, z0, z1⟩ := intIn_out (all_at (f := intIn 1 5) (by decide +kernel) hy)
          have I2 := I1'.step X hp2 s2
          walk_at "go"
          refine e_rng (by omega) (by omega) ?_
          refine forI_by walk_range (fun l σ' H' => ∃ (x : Str) (v8 : Option V), σ' = [some (.ref p), some (.int m), some (.str "abcxyz0189"), some (.ref wd), some (.ref f), some (.ref k), some (.int (0 + (i : Int))), some (.str x), v8, none, none, none] ∧ x.length = l ∧ (∀ c ∈ x.cps.toList, sign c = true) ∧ NmI H p wd f k words m (n + 8 * (2 * m - i) - 3 - l) ns H') ⟨"", v8, rfl, rfl, (fun c h => by cases h), I2⟩ (fun _ _ _ _ _ => trivial) ?_ ?_
          · rintro l _ σ' H' _ hl ⟨x, v8, rfl, hx1, hx2, I3⟩ ⟨rfl, rfl⟩
            walk_at "go"
            refine ⟨p, .str "abcxyz0189", n + 8 * (2 * m - i) - 3 - (l + 1), rfl, I3.pot.le (by omega), Or.inr ⟨_, rfl, by decide +kernel, by decide +kernel, fun c H4 hc hp4 s4 => ?_⟩⟩
            have I4 := I3.step X hp4 s4
            refine U.g_addS ?_ ?_
            · show x.length + 1 ≤ sizeLine
              have : (10 : Nat) ≤ sizeLine := by decide
              omega
            walk_at "go"
            refine ⟨x ++ ⟨#[c]⟩, _, rfl, by rw [len_app, hx1]; rfl, ?_, I4⟩
            intro d hd
            rw [app_list] at hd
            rcases List.mem_append.mp hd with hd | hd
            · exact hx2 d hd
            · have : d = c := by simpa using hd
              subst this
              exact all_at (f := sign) (xs := ("abcxyz0189" : Str).cps.toList) (by decide +kernel) (List.getElem?_of_mem hc).choose_spec
          · rintro σ' H' ⟨x, v8, rfl, hx1, hx2, I3⟩
            exact kR _ _ ⟨x, _, v8, rfl, isName_of (by omega) (by omega) hx2, I3.lo (by omega)⟩
        · have c := of_decide_eq_false c
          have hx : isName x = true := hx.resolve_left fun e => c (ex.mpr e)
          walk_at "go"
          refine e_rng (by omega) (by omega) ?_
          refine forI_by walk_range (fun l σ' H' => σ' = [some (.ref p), some (.int m), some (.str "abcxyz0189"), some (.ref wd), some (.ref f), some (.ref k), some (.int (0 + (i : Int))), some (.str x), v8, none, none, none] ∧ H' = H1) ⟨rfl, rfl⟩ (fun _ _ _ _ _ => trivial) ?_ ?_
          · intro l _ _ _ _ hl
            exact absurd hl (Nat.not_lt_zero _)
          · rintro σ' H' ⟨rfl, rfl⟩
            exact kR _ _ ⟨x, _, v8, rfl, hx, I1.lo (by omega)⟩
      rintro _ H2 ⟨x, v6, v8, rfl, hx, I2⟩
      dsimp only
      walk_at "go"
      refine e_dinS I2.hk ?_
      rw [known_val]
      walk_at "go"
      refine U.g_2 (fun c => ?_) (fun c => ?_)
      · have c : x ∉ ns := of_decide_eq_false (by simpa using c)
        walk_at "go"
        refine U.g_lenL (Or.inl (SqL.of I2.hf)) ?_
        walk_at "go"
        refine U.g_2 (fun c2 => ?_) (fun c2 => ?_)
        · rw [List.length_map] at c2
          have c2 := of_decide_eq_true c2
          walk_at "go"
          refine e_dputS I2.hk (by unfold known; rw [List.length_map]; omega) ?_
          rw [known_put c]
          walk_at "go"
          refine U.ty_lst (get_ne X.fk I2.hf) ?_
          walk_at "go"
          refine U.g_appL (get_ne X.fk I2.hf) (by rw [List.length_map]; omega) ?_
          rw [show ns.map V.str ++ [V.str x] = (ns ++ [x]).map V.str by rw [List.map_append]; rfl]
          exact ⟨ns ++ [x], v6, some (.str x), v8, rfl, (I2.add X hx c (by omega)).lo (by omega)⟩
        · walk_at "go"
          exact ⟨ns, v6, some (.str x), v8, rfl, I2.lo (by omega)⟩
      · walk_at "go"
        exact ⟨ns, v6, some (.str x), v8, rfl, I2.lo (by omega)⟩
    case hd =>
      rintro σ' H' ⟨ns, v6, v7, v8, rfl, I⟩
      walk_at "go"
      refine U.g_lenL (Or.inl (SqL.of I.hf)) ?_
      walk_at "go"
      rw [List.length_map]
      have hle := I.le
      refine e_rng (by omega) (by omega) ?_
      refine forI_by walk_range (fun i σ' H' => ∃ (ns' : List Str) (v6 v9 : Option V), σ' = [some (.ref p), some (.int m), some (.str "abcxyz0189"), some (.ref wd), some (.ref f), some (.ref k), v6, v7, v8, v9, none, none] ∧ ns'.length = ns.length + i ∧ NmI H p wd f k words m n ns' H') ⟨ns, v6, none, rfl, rfl, I.lo (by omega)⟩ (fun _ _ _ _ _ => trivial) ?_ ?_
      · rintro i _ σ' H1 _ hi ⟨ns', v6, v9, rfl, hl, I1⟩ ⟨rfl, rfl⟩
        walk_at "go"
        refine e_rng (by omega) (by omega) ?_
        refine lcI_rng (by omega) (fun i => some (.str (qn i))) (fun j H' A B hj s' kA kB => ?_) fun L H2 nL s2 hL => ?_
        · walk_at "go"
          refine ⟨rfl, ?_⟩
          walk_at "go"
          refine U.g_addS ?_ ?_
          · have z := (qn_ok (i := j) (by omega)).2
            have : (12 : Nat) ≤ sizeLine := by decide
            exact Nat.le_trans z this
          exact kA _ _ rfl (Same.refl _)
        have I2 : NmI H p wd f k words m n ns' H2 := I1.step X (by obtain ⟨a1, a2, a3, a4, a5⟩ := I1.pot; exact ⟨a1, a2, a3, s2 _ _ a4, a5⟩) (SB.of s2)
        refine e_list (SqL.of hL) ?_
        refine lcI_list (SqL.of hL) ?_ (notIn ns') (fun x H' A B hx s' kA kB => ?_) fun L2' H3 nL2 s3 hL2 => ?_
        · exact Nat.le_trans (List.length_filterMap_le _ _) (by rw [List.length_range]; omega)
        · obtain ⟨j, hj, hx⟩ := List.mem_filterMap.mp hx
          cases hx
          walk_at "go"
          refine ⟨rfl, ?_⟩
          walk_at "go"
          refine e_dinS (s' _ _ I2.hk) ?_
          rw [known_val]
          walk_at "go"
          have en : notIn ns' (.str (qn j)) = if qn j ∈ ns' then none else some (.str (qn j)) := rfl
          refine U.g_2 (fun c => ?_) (fun c => ?_)
          · walk_at "go"
            have c : qn j ∉ ns' := of_decide_eq_false (by simpa using c)
            exact kA _ _ (by rw [en, if_neg c]) (Same.refl _)
          · have c : qn j ∈ ns' := of_decide_eq_true (by simpa using c)
            exact kB (by rw [en, if_pos c]) _ (Same.refl _)
        have I3 : NmI H p wd f k words m n ns' H3 := I2.step X (by obtain ⟨a1, a2, a3, a4, a5⟩ := I2.pot; exact ⟨a1, a2, a3, s3 _ _ a4, a5⟩) (SB.of s3)
        obtain ⟨r, tl, er, hr1, hr2⟩ := rest_first (ns := ns') (n := (2 * (m : Int)).toNat) (by omega) (by omega)
        rw [er] at hL2
        walk_at "go"
        refine U.g_ix (Or.inl (SqL.of hL2)) (U.at_nat (j := 0) rfl rfl) ?_
        refine e_dputS I3.hk (by unfold known; rw [List.length_map]; omega) ?_
        rw [known_put hr1]
        have L2k : L2' ≠ k := by
          intro e
          subst e
          rw [I3.hk] at hL2
          cases hL2
        walk_at "go"
        refine U.ty_lst (get_ne X.fk I3.hf) ?_
        walk_at "go"
        refine U.g_ix (Or.inl (SqL.of (get_ne L2k hL2))) (U.at_nat (j := 0) rfl rfl) ?_
        walk_at "go"
        refine U.g_appL (get_ne X.fk I3.hf) (by rw [List.length_map]; omega) ?_
        rw [show ns'.map V.str ++ [V.str r] = (ns' ++ [r]).map V.str by rw [List.map_append]; rfl]
        exact ⟨ns' ++ [r], _, _, rfl, by rw [List.length_append]; show ns'.length + 1 = _; omega, I3.add X hr2 hr1 (by omega)⟩
      · rintro σ' H1 ⟨ns', v6, v9, rfl, hl, I1⟩
        walk_at "go"
        exact kk f ns' H1 X.nf I1.hf (by omega) I1.nd I1.ok I1.pot I1.sb
end
end Toy

namespace Toy
open PySem L2 U M
/-- what stands while kinds are drawn: the names, the list found -/
structure KdI (H : Hp) (p S f : Addr) (c : Str) (ms : List Str) (b : Nat) (ks : List Knd) (H' : Hp) : Prop where
  hS : H' S = some (.lst (ms.map V.str))
  kvs : ∃ kvs, H' f = some (.lst kvs) ∧ TupL H' kvs (ks.map kindV)
  ok : KOk c ks
  nm : ks.map (·.name) = ms.take ks.length
  pot : PotAt H' p b
  sb : SB p H H'
structure KdD (H : Hp) (p S f : Addr) : Prop where
  Sp : S ≠ p
  fp : f ≠ p
  Sf : S ≠ f
  nf : H f = none
theorem PotAt.ts {H H' : Hp} {p : Addr} {n : Nat} (h : PotAt H p n) (s : SB p H H') : TS H H' := fun a xs e => s a _ e (by
  obtain ⟨_, _, _, q, _⟩ := h
  exact ne_of e q (by intro z; cases z))
theorem PotAt.new {H : Hp} {p a : Addr} {n : Nat} {o : HO} (h : PotAt H p n) (na : H a = none) : PotAt (upd H a o) p n := by
  obtain ⟨x, y, z, q, r⟩ := h
  exact ⟨x, y, z, get_new na q, r⟩
theorem PotAt.put {H : Hp} {p a : Addr} {n : Nat} {o : HO} (h : PotAt H p n) (na : p ≠ a) : PotAt (upd H a o) p n := by
  obtain ⟨x, y, z, q, r⟩ := h
  exact ⟨x, y, z, get_ne na q, r⟩
theorem KdI.step {H H' H'' : Hp} {p S f : Addr} {c : Str} {ms : List Str} {b b' : Nat} {ks : List Knd} (D : KdD H p S f) (I : KdI H p S f c ms b ks H') (h : PotAt H'' p b') (s : SB p H' H'') : KdI H p S f c ms b' ks H'' := by
  obtain ⟨kvs, h1, h2⟩ := I.kvs
  exact ⟨s _ _ I.hS D.Sp, ⟨kvs, s _ _ h1 D.fp, h2.mono (I.pot.ts s)⟩, I.ok, I.nm, h, I.sb.trans s⟩
theorem KdI.new {H H' : Hp} {p S f a : Addr} {o : HO} {c : Str} {ms : List Str} {b : Nat} {ks : List Knd} (I : KdI H p S f c ms b ks H') (h : H' a = none) : KdI H p S f c ms b ks (upd H' a o) := by
  obtain ⟨kvs, h1, h2⟩ := I.kvs
  exact ⟨get_new h I.hS, ⟨kvs, get_new h h1, h2.mono (TS.new h)⟩, I.ok, I.nm, I.pot.new h, I.sb.new h⟩
theorem KdI.lo {H H' : Hp} {p S f : Addr} {c : Str} {ms : List Str} {b b' : Nat} {ks : List Knd} (I : KdI H p S f c ms b ks H') (h : b' ≤ b) : KdI H p S f c ms b' ks H' := ⟨I.hS, I.kvs, I.ok, I.nm, I.pot.le h, I.sb⟩
theorem KdI.add {H H' : Hp} {p S f a : Addr} {c : Str} {ms : List Str} {b : Nat} {ks : List Knd} {k : Knd} {kvs : List V} (D : KdD H p S f) (I : KdI H p S f c ms b ks H') (h1 : H' f = some (.lst kvs)) (h2 : TupL H' kvs (ks.map kindV)) (ha : H' a = some (.tup (kindV k))) (ok : KOk c (ks ++ [k])) (nm : (ks ++ [k]).map (·.name) = ms.take (ks.length + 1)) :
    KdI H p S f c ms b (ks ++ [k]) (upd H' f (.lst (kvs ++ [.ref a]))) := by
  have t : TS H' (upd H' f (.lst (kvs ++ [.ref a]))) := TS.lst h1
  refine ⟨get_ne D.Sf I.hS, ⟨_, upd_same, ?_⟩, ok, by rw [List.length_append]; exact nm, I.pot.put D.fp.symm, I.sb.mut D.nf⟩
  rw [List.map_append]
  exact PySem.Paired.snoc (h2.mono t) ⟨a, rfl, t a _ ha⟩
section
variable {P : Program} {w : World} {K : PySem.W.Frag} {mg : Str → Option Value} {base : Heap}
theorem sc__law_kinds : FnScope ["pot", "column", "amount", "names", "found", "at", "name", "over", "loss"] ["pot", "column", "amount"] (defScope s__law_kinds) := ⟨rfl, rfl, rfl, by decide +kernel, rfl, by decide +kernel, by decide +kernel⟩
def sp_kinds : Sp := fun vs H Q _ => ∃ (p : Addr) (c : Str) (m n : Nat), vs = [.ref p, .str c, .int m] ∧ m ≤ 50 ∧ PotAt H p (n + 21 * (m + 1)) ∧
  ∀ (l : Addr) (kvs : List V) (ks : List Knd) (H' : Hp), H l = none → H' l = some (.lst kvs) → TupL H' kvs (ks.map kindV) → ks.length = m → KOk c ks → PotAt H' p n → SB p H H' → Q (.ref l) H'
theorem ok__law_kinds (T : Tx K mg) : FnOk P w K mg base CX0 4 T.a__law_kinds T.fd__law_kinds ["pot", "column", "amount"] sp_kinds := by
  refine T.F__law_kinds.ok sc__law_kinds (fun vs H Q E h => ?_) (fun cdv A outer s H vs Q E hr h => ?_)
  · obtain ⟨p, c, m, n, rfl, _⟩ := h
    rfl
  · obtain ⟨p, c, m, n, rfl, hm, hp, kk⟩ := h
    have hu := hu_of hr
    have hu64 := hr.units
    refine ⟨_, (pss_cons (ps_par rfl sc__law_kinds.nd (i := 3) (j := 4) rfl rfl (by decide) rfl rfl (pa_cons (pe_slice (sl_u (K := K) rfl) (pe_lc rfl sc__law_kinds.nd (u_list (K := K) rfl (pe_call (ok__law_names T) (hr.mono (by decide)) rfl T.m__law_names T.F__law_names.kp (b__law_names T) .nil pass0 (pa_cons (pv 0) (pa_cons (pe_op (op_uAdd (K := K) rfl) (pv 2) (pe_int)) pa_nil)))) (blkOk_by (own := [("name", 6)]) (N := ["pot", "column", "amount", "names", "found", "at", "name", "over", "loss"]) (sc := defScope s__law_kinds) (by decide +kernel)) (fun _ _ _ _ _ => (pg_name (i := 6) sc__law_kinds.nd rfl (Or.inl rfl))) (fun _ _ _ _ _ => (pts_one (pt_cmpR (op_uNe (K := K) rfl hu64) (pv 6) (pe_str) (nomark _)))) (fun _ _ _ _ _ => (pv 6))) po_none (po_some (pv 2))) (pa_cons (pe_lst pa_nil) pa_nil)) (by rfl))
        (pss_cons (ps_for PassesOwn.never rfl (pi_enum (by rfl) T.n_enumerate (pa_cons (pv 3) pa_nil)) (u_gtup (K := K) (n := 2) rfl rfl (pgs_cons (pg_name (i := 5) sc__law_kinds.nd rfl (Or.inl rfl)) (pgs_cons (pg_name (i := 6) sc__law_kinds.nd rfl (Or.inl rfl)) pgs_nil))) (pss_cons (ps_if (pt_cmpR (op_uEq (K := K) rfl hu64) (pv 5) (pe_int) (nomark _)) (pss_cons (ps_expr (pe_bm PySem.F.plainAttrs_list PySem.F.slot_list_append PySem.F.type_list_append mt_append (pv 4) (pa_cons (pe_tup (pa_cons (pv 1) (pa_cons (pv 6) (pa_cons (pe_non) (pa_cons (pe_callTy call_uInt (by rfl) T.n_int (by decide +kernel) (pa_cons (pe_call (ok__law_of T) (hr.mono (by decide)) rfl T.m__law_of T.F__law_of.kp (b__law_of T) .nil pass0 (pa_cons (pv 0) (pa_cons (pe_lst (pa_cons (pe_int) (pa_cons (pe_int) (pa_cons (pe_int) (pa_cons (pe_op op_uPow (pe_int) (pe_int)) (pa_cons (pe_call (ok__law_take T) (hr.mono (by decide)) rfl T.m__law_take T.F__law_take.kp (b__law_take T) .nil pass0 (pa_cons (pv 0) (pa_cons (pe_int) pa_nil))) pa_nil)))))) pa_nil))) pa_nil)) pa_nil))))) pa_nil)))
        (pss_one (ps_continue))) pss_nil)
        (pss_cons (ps_set (i := 7) sc__law_kinds.nd rfl (Or.inl rfl) (pe_ifExp (pt_cmpR (op_uEq (K := K) rfl hu64) (pe_call (ok__law_take T) (hr.mono (by decide)) rfl T.m__law_take T.F__law_take.kp (b__law_take T) .nil pass0 (pa_cons (pv 0) (pa_cons (pe_int) pa_nil))) (pe_int) (nomark _)) (pe_ix (ix_u (K := K) rfl) (pv 4) (pe_op op_uSub (pv 5) (pe_int)) (fun _ _ => rfl)) (pe_call (ok__law_of T) (hr.mono (by decide)) rfl T.m__law_of T.F__law_of.kp (b__law_of T) .nil pass0 (pa_cons (pv 0) (pa_cons (pv 4) pa_nil)))))
        (pss_cons (ps_set (i := 8) sc__law_kinds.nd rfl (Or.inl rfl) (pe_ifExp (pt_cmpR (op_uEq (K := K) rfl hu64) (pe_call (ok__law_take T) (hr.mono (by decide)) rfl T.m__law_take T.F__law_take.kp (b__law_take T) .nil pass0 (pa_cons (pv 0) (pa_cons (pe_int) pa_nil))) (pe_int) (nomark _)) (pe_ix (ix_u (K := K) rfl) (pv 7) (pe_int) (fun _ _ => rfl)) (pe_call (ok__law_take T) (hr.mono (by decide)) rfl T.m__law_take T.F__law_take.kp (b__law_take T) .nil pass0 (pa_cons (pv 0) (pa_cons (pe_op (op_uAdd (K := K) rfl) (pe_ix (ix_u (K := K) rfl) (pv 7) (pe_int) (fun _ _ => rfl)) (pe_int)) pa_nil)))))
        (pss_one (ps_expr (pe_bm PySem.F.plainAttrs_list PySem.F.slot_list_append PySem.F.type_list_append mt_append (pv 4) (pa_cons (pe_tup (pa_cons (pv 1) (pa_cons (pv 6) (pa_cons (pe_ix (ix_u (K := K) rfl) (pv 7) (pe_int) (fun _ _ => rfl)) (pa_cons (pe_callTy call_uInt (by rfl) T.n_int (by decide +kernel) (pa_cons (pe_ifExp (pt_cmpR (op_uEq (K := K) rfl hu64) (pe_call (ok__law_take T) (hr.mono (by decide)) rfl T.m__law_take T.F__law_take.kp (b__law_take T) .nil pass0 (pa_cons (pv 0) (pa_cons (pe_int) pa_nil))) (pe_int) (nomark _)) (pe_int) (pv 8)) pa_nil)) pa_nil))))) pa_nil))))))))
        (pss_one (ps_ret (pv 4))))), ?_⟩
    walk_at "st"
    walk_at "go"
    refine ⟨p, m + 1, n + 5 * m, rfl, by omega, hp.le (by omega), fun l ns H1 nl hl e1 nd ok hp1 s1 => ?_⟩
    refine e_list (SqL.of hl) ?_
    refine lcI_list (SqL.of hl) (by rw [List.length_map]; omega) notNone (fun x H' A B hx s' kA kB => ?_) fun L H2 nL s2 hL => ?_
    · obtain ⟨x, hx, rfl⟩ := List.mem_map.mp hx
      walk_at "go"
      refine ⟨rfl, ?_⟩
      walk_at "go"
      have en : notNone (.str x) = if x = "none" then none else some (.str x) := rfl
      have ex : V.str x = V.str "none" ↔ x = "none" := ⟨fun e => V.str.inj e, fun e => by rw [e]⟩
      refine U.g_2 (fun c => ?_) (fun c => ?_)
      · walk_at "go"
        have c : ¬ x = "none" := fun e => by rw [decide_eq_true (ex.mpr e)] at c; exact absurd c (by decide)
        exact kA _ _ (by rw [en, if_neg c]) (Same.refl _)
      · have c : x = "none" := ex.mp (of_decide_eq_true (by simpa using c))
        exact kB (by rw [en, if_pos c]) _ (Same.refl _)
    rw [notNone_map] at hL
    walk_at "go"
    refine U.g_slL (SqL.of hL) fun S nS => ?_
    rw [cut_take, ← List.map_take]
    generalize hms : (ns.filter fun x : Str => !decide (x = "none")).take m = ms
    have mlen : ms.length = m := by
      rw [← hms, List.length_take]
      have := notNone_len nd
      omega
    have mnd : ms.Nodup := by
      rw [← hms]
      exact ((nd.filter _).sublist (List.take_sublist _ _))
    have mok : ∀ x ∈ ms, isName x = true ∧ x ≠ "none" := by
      intro x hx
      rw [← hms] at hx
      have hx := List.mem_of_mem_take hx
      rw [List.mem_filter] at hx
      exact ⟨ok x hx.1, fun e => by rw [decide_eq_true e] at hx; exact absurd hx.2 (by decide)⟩
    walk_at "go"
    refine ⟨by decide, fun f nf => ?_⟩
    walk_at "go"
    obtain ⟨ow, sd, q, hp0, _⟩ := id hp
    have s12 : SB p H H2 := s1.trans (SB.of s2)
    have p2 : PotAt H2 p (n + 5 * m) := by
      obtain ⟨a1, a2, a3, a4, a5⟩ := hp1
      exact ⟨a1, a2, a3, s2 _ _ a4, a5⟩
    have hpot := p2
    obtain ⟨_, _, _, p2, _⟩ := p2
    have nfH : H f = none := by
      cases e : H f with
      | none => rfl
      | some o =>
        by_cases ef : f = p
        · subst ef
          have := nb1 nf
          rw [p2] at this; cases this
        · have := s12 f o e ef
          rw [nb1 nf] at this; cases this
    have X : KdD H p S f := ⟨(ne_of_none p2 nS).symm, (ne_of_none p2 (nb1 nf)).symm, (nb2 nf).symm, nfH⟩
    refine e_enum (SqL.of (by walk_at "hp")) ?_
    refine forI_by walk_enum (fun i σ' H' => ∃ (ks : List Knd) (v5 v6 v7 v8 : Option V), σ' = [some (.ref p), some (.str c), some (.int m), some (.ref S), some (.ref f), v5, v6, v7, v8] ∧ ks.length = i ∧ KdI H p S f c ms (n + 5 * (m - i)) ks H') ?h0 (fun i σ' H' _ ⟨ks, v5, v6, v7, v8, e, l, I⟩ => SqL.of I.hS) ?hs ?hd
    case h0 =>
      exact ⟨[], none, none, none, none, rfl, rfl, by walk_at "hp", ⟨[], by walk_at "hp", .nil⟩, .nil, rfl, (hpot.new nS).new nf, (s12.new nS).new nf⟩
    case hs =>
      rintro i x σ' H' H'' hi ⟨ks, v5, v6, v7, v8, rfl, hl, I⟩ ⟨t, x1, x2, rfl, nt, rfl, e1, e2⟩
      cases e1
      rw [List.length_map] at hi
      have e2 : (ms.map V.str)[i]? = some x2 := e2
      rw [List.getElem?_map, List.getElem?_eq_getElem hi] at e2
      cases e2
      have I := I.new (o := .tup [.int (i : Nat), .str ms[i]]) nt
      obtain ⟨ok1, ok2⟩ := mok _ (List.getElem_mem hi)
      have tk : ms.take (i + 1) = ms.take i ++ [ms[i]] := by rw [List.take_succ, List.getElem?_eq_getElem hi]; rfl
      have ex : V.int (i : Int) = V.int 0 ↔ i = 0 := ⟨fun e => by have := V.int.inj e; omega, fun e => by rw [e]; rfl⟩
      walk_at "go"
      refine U.g_2 (fun cc => ?_) (fun cc => ?_)
      · have i0 : i = 0 := ex.mp (of_decide_eq_true cc)
        have ks0 : ks = [] := List.eq_nil_of_length_eq_zero (by omega)
        subst ks0
        walk_at "go"
        obtain ⟨kvs, h1, h2⟩ := I.kvs
        refine U.ty_lst h1 ?_
        walk_at "go"
        refine ⟨p, 30, n + 5 * (m - i) - 1, rfl, by decide, by decide, I.pot.le (by omega), fun r H3 r0 r1 hp3 s3 => ?_⟩
        have I := I.step X hp3 s3
        walk_at "go"
        refine ⟨by show 5 ≤ sizeLine; decide, fun a na => ?_⟩
        have I := I.new (o := .lst [.int 0, .int 1, .int 9, .int (10 ^ (6 : Int).toNat), .int r]) na
        refine ⟨p, .ref a, n + 5 * (m - i) - 2, rfl, I.pot.le (by omega), Or.inl ⟨a, _, rfl, Or.inl (SqL.of upd_same), by show 0 < 5; decide, by show 5 ≤ 1000000; decide, fun H4 s4 => Or.inl (SqL.of (s4 _ _ upd_same ?_)), fun j y H4 hy hp4 s4 => ?_⟩⟩
        · obtain ⟨_, _, _, e, _⟩ := hp3
          exact (ne_of_none e na).symm
        have I := I.step X hp4 s4
        obtain ⟨z, rfl, z0, z1⟩ : ∃ z, y = .int z ∧ 0 ≤ z ∧ z ≤ 1000000 := by
          have := List.mem_of_getElem? hy
          simp only [List.mem_cons, List.not_mem_nil, or_false] at this
          rcases this with rfl | rfl | rfl | rfl | rfl
          · exact ⟨_, rfl, by decide, by decide⟩
          · exact ⟨_, rfl, by decide, by decide⟩
          · exact ⟨_, rfl, by decide, by decide⟩
          · exact ⟨_, rfl, by decide, by decide⟩
          · exact ⟨_, rfl, r0, by omega⟩
        walk_at "go"
        refine ⟨by show 4 ≤ sizeLine; decide, fun b nb => ?_⟩
        have I := I.new (o := .tup [.str c, .str ms[i], .non, .int z]) nb
        obtain ⟨kvs, h1, h2⟩ := I.kvs
        walk_at "go"
        refine U.g_appL h1 (by have := prd_len h2; rw [List.length_map] at this; omega) ?_
        walk_at "go"
        refine ⟨[] ++ [⟨c, ms[i], none, z⟩], _, _, _, _, rfl, by show 1 = i + 1; omega, (I.add (k := ⟨c, ms[i], none, z⟩) X h1 h2 upd_same (.top ok1 ok2 z0 z1) ?_).lo (by omega)⟩
        show [ms[i]] = ms.take (0 + 1)
        subst i0
        exact tk.symm
      · have i0 : ¬ i = 0 := fun e => by rw [decide_eq_true (ex.mpr e)] at cc; cases cc
        have kpos : 0 < ks.length := by omega
        -- over
        refine U.g_next ?_
        dsimp only
        refine U.g_seq (U.g_asg (U.g_cut (fun v H1 => ∃ o ∈ ks, TupAt H1 v (kindV o) ∧ KdI H p S f c ms (n + 5 * (m - i) - 2) ks H1) (fun R kR => ?_) ?_))
        · walk_at "go"
          refine ⟨p, 3, n + 5 * (m - i) - 1, rfl, by decide, by decide, I.pot.le (by omega), fun r H3 r0 r1 hp3 s3 => ?_⟩
          have I := I.step X hp3 s3
          obtain ⟨kvs, h1, h2⟩ := I.kvs
          have hkl : kvs.length = ks.length := by have := prd_len h2; rw [List.length_map] at this; exact this
          have item : ∀ (j : Nat) (y : V), kvs[j]? = some y → ∃ o ∈ ks, TupAt H3 y (kindV o) := fun j y hy => by
            obtain ⟨x, ex, tx⟩ := prd_at h2 hy
            rw [List.getElem?_map] at ex
            cases eo : ks[j]? with
            | none => rw [eo] at ex; cases ex
            | some o => rw [eo] at ex; cases ex; exact ⟨o, List.mem_of_getElem? eo, tx⟩
          walk_at "go"
          refine U.g_2 (fun cc => ?_) (fun cc => ?_)
          · walk_at "go"
            have hj : i - 1 < kvs.length := by omega
            refine U.g_ix (Or.inl (SqL.of h1)) (U.at_nat (show (i : Int) - 1 = ((i - 1 : Nat) : Int) by omega) (List.getElem?_eq_getElem hj)) ?_
            obtain ⟨o, ho, to⟩ := item (i - 1) _ (List.getElem?_eq_getElem hj)
            exact kR _ _ ⟨o, ho, to, I.lo (by omega)⟩
          · walk_at "go"
            refine ⟨p, .ref f, n + 5 * (m - i) - 2, rfl, hp3.le (by omega), Or.inl ⟨f, kvs, rfl, Or.inl (SqL.of h1), by omega, by omega, fun H4 s4 => Or.inl (SqL.of (s4 _ _ h1 X.fp)), fun j y H4 hy hp4 s4 => ?_⟩⟩
            obtain ⟨o, ho, to⟩ := item j y hy
            exact kR _ _ ⟨o, ho, to.mono (hp3.ts s4), I.step X hp4 s4⟩
        rintro v H3 ⟨o, ho, ⟨oa, rfl, hoa⟩, I⟩
        obtain ⟨ol0, ol1⟩ := I.ok.loss o ho
        refine U.g_name ?_
        walk_at "ds"
        -- loss
        refine U.g_seq (U.g_asg (U.g_cut (fun v H1 => ∃ z : Int, v = .int z ∧ 0 ≤ z ∧ z ≤ o.loss ∧ H1 oa = some (.tup (kindV o)) ∧ KdI H p S f c ms (n + 5 * (m - i) - 4) ks H1) (fun R kR => ?_) ?_))
        · walk_at "go"
          refine ⟨p, 5, n + 5 * (m - i) - 3, rfl, by decide, by decide, I.pot.le (by omega), fun r H4 r0 r1 hp4 s4 => ?_⟩
          have hoa4 := I.pot.ts s4 _ _ hoa
          have I := I.step X hp4 s4
          walk_at "go"
          refine U.g_2 (fun cc => ?_) (fun cc => ?_)
          · walk_at "go"
            exact kR _ _ ⟨_, rfl, ol0, Int.le_refl _, hoa4, I.lo (by omega)⟩
          · walk_at "go"
            walk_at "go"
            refine ⟨p, o.loss + 1, n + 5 * (m - i) - 4, rfl, by omega, by omega, hp4.le (by omega), fun r H5 r0 r1 hp5 s5 => ?_⟩
            exact kR _ _ ⟨r, rfl, r0, by omega, hp4.ts s5 _ _ hoa4, I.step X hp5 s5⟩
        rintro v H4 ⟨z, rfl, z0, z1, hoa4, I⟩
        walk_at "go"
        obtain ⟨kvs, h1, h2⟩ := I.kvs
        refine U.ty_lst h1 ?_
        walk_at "go"
        walk_at "go"
        refine ⟨p, 5, n + 5 * (m - i) - 5, rfl, by decide, by decide, I.pot.le (by omega), fun r H5 r0 r1 hp5 s5 => ?_⟩
        have I := I.step X hp5 s5
        have more : ∀ (z' : Int) (b : Addr), 0 ≤ z' → z' ≤ o.loss → H5 b = none → ∃ (ks' : List Knd), ks'.length = i + 1 ∧ ∃ kvs', kvs'.length ≤ 1000000 ∧ H5 f = some (.lst kvs') ∧ KdI H p S f c ms (n + 5 * (m - (i + 1))) ks' (upd (upd H5 b (.tup [.str c, .str ms[i], .str o.name, .int z'])) f (.lst (kvs' ++ [.ref b]))) := fun z' b z0 z1 nb => by
          obtain ⟨kvs, h1, h2⟩ := I.kvs
          have I := I.new (o := .tup [.str c, .str ms[i], .str o.name, .int z']) nb
          refine ⟨ks ++ [⟨c, ms[i], some o.name, z'⟩], by rw [List.length_append]; show ks.length + 1 = _; omega, kvs, by have := prd_len h2; rw [List.length_map] at this; omega, h1, (I.add (k := ⟨c, ms[i], some o.name, z'⟩) X (get_new nb h1) (h2.mono (TS.new nb)) upd_same (.more I.ok ho ok1 ok2 ?_ z0 z1) ?_).lo (by omega)⟩
          · rw [I.nm, hl]
            intro hm
            rw [List.mem_take_iff_getElem] at hm
            obtain ⟨j, hj, e⟩ := hm
            have := (List.getElem_inj mnd).mp e
            omega
          · rw [List.map_append, I.nm, hl, tk]
            rfl
        walk_at "go"
        refine U.g_2 (fun cc => ?_) (fun cc => ?_)
        · walk_at "go"
          refine ⟨by show 4 ≤ sizeLine; decide, fun b nb => ?_⟩
          obtain ⟨ks', hk', kvs', hl', hf', I'⟩ := more 0 b (by decide) ol0 nb
          walk_at "go"
          refine U.g_appL (get_new nb hf') hl' ?_
          walk_at "go"
          exact ⟨ks', _, _, _, _, rfl, hk', I'⟩
        · walk_at "go"
          refine ⟨by show 4 ≤ sizeLine; decide, fun b nb => ?_⟩
          obtain ⟨ks', hk', kvs', hl', hf', I'⟩ := more z b z0 z1 nb
          walk_at "go"
          refine U.g_appL (get_new nb hf') hl' ?_
          walk_at "go"
          exact ⟨ks', _, _, _, _, rfl, hk', I'⟩
    case hd =>
      rintro σ' H' ⟨ks, v5, v6, v7, v8, rfl, hl, I⟩
      walk_at "go"
      rw [List.length_map] at hl
      obtain ⟨kvs, h1, h2⟩ := I.kvs
      exact kk f kvs ks H' X.nf h1 h2 (by omega) I.ok (I.pot.le (by omega)) I.sb
end
end Toy

namespace Toy
open PySem L2 U M
theorem own_nep {H : Hp} {o lc lk lp p : Addr} {R : Reg} {n : Nat} (I : OwnX H o lc lk lp R) (hp : PotAt H p n) : o ≠ p ∧ lc ≠ p ∧ lk ≠ p ∧ lp ≠ p := by
  obtain ⟨_, _, _, q, _⟩ := hp
  obtain ⟨cv, c1, c2⟩ := I.c
  obtain ⟨kv, k1, k2⟩ := I.k
  obtain ⟨pv, p1, p2⟩ := I.p
  exact ⟨ne_of I.d q (by intro z; cases z), ne_pot q c1 (TupL.refs c2), ne_pot q k1 (TupL.refs k2), ne_pot q p1 (PerL.refs p2)⟩
theorem own_step {H H' : Hp} {o lc lk lp p : Addr} {R : Reg} {n : Nat} (I : OwnX H o lc lk lp R) (hp : PotAt H p n) (s : SB p H H') : OwnX H' o lc lk lp R := by
  obtain ⟨n1, n2, n3, n4⟩ := own_nep I hp
  obtain ⟨cv, c1, c2⟩ := I.c
  obtain ⟨kv, k1, k2⟩ := I.k
  obtain ⟨pv, p1, p2⟩ := I.p
  have t := hp.ts s
  exact ⟨s _ _ I.d n1, ⟨cv, s _ _ c1 n2, c2.mono t⟩, ⟨kv, s _ _ k1 n3, k2.mono t⟩, ⟨pv, s _ _ p1 n4, p2.mono t⟩⟩
theorem own_same {H H' : Hp} {o lc lk lp : Addr} {R : Reg} (I : OwnX H o lc lk lp R) (s : Same H H') : OwnX H' o lc lk lp R := by
  obtain ⟨cv, c1, c2⟩ := I.c
  obtain ⟨kv, k1, k2⟩ := I.k
  obtain ⟨pv, p1, p2⟩ := I.p
  have t := TS.of s
  exact ⟨s _ _ I.d, ⟨cv, s _ _ c1, c2.mono t⟩, ⟨kv, s _ _ k1, k2.mono t⟩, ⟨pv, s _ _ p1, p2.mono t⟩⟩
theorem PotAt.same {H H' : Hp} {p : Addr} {n : Nat} (h : PotAt H p n) (s : Same H H') : PotAt H' p n := by
  obtain ⟨x, y, z, q, r⟩ := h
  exact ⟨x, y, z, s _ _ q, r⟩
section
variable {P : Program} {w : World} {K : PySem.W.Frag} {mg : Str → Option Value} {base : Heap}
theorem sc__law_kind_names : FnScope ["own", "column", "kind"] ["own", "column"] (defScope s__law_kind_names) := ⟨rfl, rfl, rfl, by decide +kernel, rfl, by decide +kernel, by decide +kernel⟩
/-- the names of a column's kinds, a new list -/
def sp_kind_names : Sp := fun vs H Q _ => ∃ (o lc lk lp : Addr) (R : Reg) (c : Str), vs = [.ref o, .str c] ∧ OwnX H o lc lk lp R ∧ R.kinds.length ≤ 1000 ∧
  ∀ (l : Addr) (H' : Hp), H l = none → Same H H' → H' l = some (.lst ((kindNames R c).map V.str)) → Q (.ref l) H'
theorem ok__law_kind_names (T : Tx K mg) : FnOk P w K mg base CX0 1 T.a__law_kind_names T.fd__law_kind_names ["own", "column"] sp_kind_names := by
  refine T.F__law_kind_names.ok sc__law_kind_names (fun vs H Q E h => ?_) (fun cdv A outer s H vs Q E hr h => ?_)
  · obtain ⟨o, lc, lk, lp, R, c, rfl, _⟩ := h
    rfl
  · obtain ⟨o, lc, lk, lp, R, c, rfl, I, hl, kk⟩ := h
    have hu := hu_of hr
    have hu64 := hr.units
    refine ⟨_, (pss_one (ps_ret (pe_lc rfl sc__law_kind_names.nd (u_list (K := K) rfl (pe_dget hu (pv 0) (pe_str) (fun _ _ => rfl))) (blkOk_by (own := [("kind", 2)]) (N := ["own", "column", "kind"]) (sc := defScope s__law_kind_names) (by decide +kernel)) (fun _ _ _ _ _ => (pg_name (i := 2) sc__law_kind_names.nd rfl (Or.inl rfl))) (fun _ _ _ _ _ => (pts_one (pt_cmpR (op_uEq (K := K) rfl hu64) (pe_ix (ix_u (K := K) rfl) (pv 2) (pe_int) (fun _ _ => rfl)) (pv 1) (nomark _)))) (fun _ _ _ _ _ => (pe_ix (ix_u (K := K) rfl) (pv 2) (pe_int) (fun _ _ => rfl)))))), ?_⟩
    walk_at "st"
    walk_at "go"
    refine e_dgetS I.d (own_k lc lk lp) ?_
    obtain ⟨kv, k1, k2⟩ := I.k
    refine e_list (SqL.of k1) ?_
    have hkl := prd_len k2
    rw [List.length_map] at hkl
    refine lcI_same walk_list (by omega) (fun i => (R.kinds[i]?).bind fun k => if k.col = c then some (.str k.name) else none) (fun H' s => s.seq (SqL.of k1)) (fun i H' x H'' y => by rw [y.1]; exact Same.refl _) (fun i x H' H'' A B hi s' y kA kB => ?_) fun E H' nE s' hE => ?_
    · obtain ⟨rfl, ex⟩ := y
      obtain ⟨xs, exs, a, rfl, ha⟩ := prd_at k2 ex
      rw [List.getElem?_map] at exs
      cases ek : R.kinds[i]? with
      | none => rw [ek] at exs; cases exs
      | some k =>
        rw [ek] at exs
        cases exs
        have ha' := s' _ _ ha
        rw [ek] at kA kB
        walk_at "go"
        refine ⟨rfl, ?_⟩
        walk_at "go"
        have ex : V.str k.col = V.str c ↔ k.col = c := ⟨fun e => V.str.inj e, fun e => by rw [e]⟩
        refine U.g_2 (fun cc => ?_) (fun cc => ?_)
        · have cc := ex.mp (of_decide_eq_true cc)
          walk_at "go"
          exact kA _ _ (by show (if k.col = c then _ else _) = _; rw [if_pos cc]) (Same.refl _)
        · have cc : ¬ k.col = c := fun e => by rw [decide_eq_true (ex.mpr e)] at cc; cases cc
          exact kB (by show (if k.col = c then _ else _) = _; rw [if_neg cc]) _ (Same.refl _)
    · rw [hkl, range_fm] at hE
      have e : (R.kinds.filterMap fun k => if k.col = c then some (V.str k.name) else none) = (kindNames R c).map V.str := by
        unfold kindNames
        rw [List.map_map]
        induction R.kinds with
        | nil => rfl
        | cons a r ih =>
          rw [List.filterMap_cons, List.filter_cons]
          by_cases h : a.col = c
          · rw [if_pos h, decide_eq_true h, if_pos rfl, List.map_cons, ih]
            rfl
          · rw [if_neg h, decide_eq_false h, if_neg (by decide), ih]
      rw [e] at hE
      exact kk E H' nE s' hE
theorem sc__law_values : FnScope ["pot", "own", "near", "found", "name", "word"] ["pot", "own", "near"] (defScope s__law_values) := ⟨rfl, rfl, rfl, by decide +kernel, rfl, by decide +kernel, by decide +kernel⟩
def sp_values : Sp := fun vs H Q _ => ∃ (p o lc lk lp : Addr) (R : Reg) (near : Int) (n : Nat), vs = [.ref p, .ref o, .int near] ∧ OwnX H o lc lk lp R ∧ R.cols.length ≤ 4 ∧ R.kinds.length ≤ 1000 ∧ (∀ c ∈ R.cols, c.2 = true → ∃ k ∈ R.kinds, k.col = c.1) ∧
  -1000000 ≤ near ∧ near ≤ 999992 ∧ PotAt H p (n + 8) ∧ ∀ (t : Addr) (ws : List V) (H' : Hp), H' t = some (.tup ws) → Paired (valOk R) R.cols ws → PotAt H' p n → SB p H H' → Q (.ref t) H'
theorem ok__law_values (T : Tx K mg) : FnOk P w K mg base CX0 3 T.a__law_values T.fd__law_values ["pot", "own", "near"] sp_values := by
  refine T.F__law_values.ok sc__law_values (fun vs H Q E h => ?_) (fun cdv A outer s H vs Q E hr h => ?_)
  · obtain ⟨p, o, lc, lk, lp, R, near, n, rfl, _⟩ := h
    rfl
  · obtain ⟨p, o, lc, lk, lp, R, near, n, rfl, I, c4, k1000, hk, n0, n1, hp, kk⟩ := h
    have hu := hu_of hr
    have hu64 := hr.units
    refine ⟨_, (pss_cons (ps_set (i := 3) sc__law_values.nd rfl (Or.inl rfl) (pe_lst pa_nil))
        (pss_cons (ps_for PassesOwn.never rfl (u_list (K := K) rfl (pe_dget hu (pv 1) (pe_str) (fun _ _ => rfl))) (u_gtup (K := K) (n := 2) rfl rfl (pgs_cons (pg_name (i := 4) sc__law_values.nd rfl (Or.inl rfl)) (pgs_cons (pg_name (i := 5) sc__law_values.nd rfl (Or.inl rfl)) pgs_nil))) (pss_one (ps_if (pt_cmpR (op_uEq (K := K) rfl hu64) (pv 5) (pe_str) (nomark _)) (pss_one (ps_expr (pe_bm PySem.F.plainAttrs_list PySem.F.slot_list_append PySem.F.type_list_append mt_append (pv 3) (pa_cons (pe_call (ok__law_of T) (hr.mono (by decide)) rfl T.m__law_of T.F__law_of.kp (b__law_of T) .nil pass0 (pa_cons (pv 0) (pa_cons (pe_call (ok__law_kind_names T) (hr.mono (by decide)) rfl T.m__law_kind_names T.F__law_kind_names.kp (b__law_kind_names T) .nil pass0 (pa_cons (pv 1) (pa_cons (pv 4) pa_nil))) pa_nil))) pa_nil)))) (pss_one (ps_if (pt_cmpR (op_uEq (K := K) rfl hu64) (pe_call (ok__law_take T) (hr.mono (by decide)) rfl T.m__law_take T.F__law_take.kp (b__law_take T) .nil pass0 (pa_cons (pv 0) (pa_cons (pe_int) pa_nil))) (pe_int) (nomark _)) (pss_one (ps_expr (pe_bm PySem.F.plainAttrs_list PySem.F.slot_list_append PySem.F.type_list_append mt_append (pv 3) (pa_cons (pe_callTy call_uInt (by rfl) T.n_int (by decide +kernel) (pa_cons (pe_call (ok__law_of T) (hr.mono (by decide)) rfl T.m__law_of T.F__law_of.kp (b__law_of T) .nil pass0 (pa_cons (pv 0) (pa_cons (pe_lst (pa_cons (pe_op op_uPow (pe_int) (pe_int)) (pa_cons (pe_un op_uNeg (pe_op op_uPow (pe_int) (pe_int))) (pa_cons (pe_int) pa_nil)))) pa_nil))) pa_nil)) pa_nil)))) (pss_one (ps_expr (pe_bm PySem.F.plainAttrs_list PySem.F.slot_list_append PySem.F.type_list_append mt_append (pv 3) (pa_cons (pe_callTy call_uInt (by rfl) T.n_int (by decide +kernel) (pa_cons (pe_op (op_uAdd (K := K) rfl) (pv 2) (pe_call (ok__law_take T) (hr.mono (by decide)) rfl T.m__law_take T.F__law_take.kp (b__law_take T) .nil pass0 (pa_cons (pv 0) (pa_cons (pe_int) pa_nil)))) pa_nil)) pa_nil)))))))))
        (pss_one (ps_ret (pe_callTy (call_uTuple (K := K) rfl) (by rfl) T.n_tuple (by decide +kernel) (pa_cons (pv 3) pa_nil)))))), ?_⟩
    walk_at "st"
    walk_at "go"
    refine ⟨by decide, fun f nf => ?_⟩
    have hpp := hp
    obtain ⟨_, _, _, hp0, _⟩ := hpp
    have fp : f ≠ p := (ne_of_none hp0 nf).symm
    walk_at "go"
    have I1 := own_same I (same_new (o := .lst []) nf)
    refine e_dgetS I1.d (own_c lc lk lp) ?_
    obtain ⟨cv, h1, h2⟩ := I1.c
    refine e_list (SqL.of h1) ?_
    have hcl := prd_len h2
    rw [List.length_map] at hcl
    have stay : ∀ H', SB p H H' → ∃ cv', H' lc = some (.lst cv') ∧ TupL H' cv' (R.cols.map colV) ∧ cv' = cv := fun H' s' => by
      obtain ⟨cv0, a1, a2⟩ := I.c
      have e : cv0 = cv := by
        have z := get_new (o := .lst []) nf a1
        rw [h1] at z
        cases z
        rfl
      exact ⟨cv0, s' _ _ a1 (own_nep I hp).2.1, a2.mono (hp.ts s'), e⟩
    refine forI_by walk_list (fun i σ' H' => ∃ (ws : List V) (v4 v5 : Option V), σ' = [some (.ref p), some (.ref o), some (.int near), some (.ref f), v4, v5] ∧ Paired (valOk R) (R.cols.take i) ws ∧ H' f = some (.lst ws) ∧ PotAt H' p (n + 2 * (4 - i)) ∧ SB p H H') ⟨[], none, none, rfl, .nil, upd_same, hp.new nf, (SB.refl p H).new nf⟩
      (fun i σ' H' _ ⟨ws, v4, v5, _, _, _, _, s'⟩ => by obtain ⟨cv', e1, _, e2⟩ := stay H' s'; rw [e2] at e1; exact SqL.of e1) ?_ ?_
    · rintro i x σ' H' _ hi ⟨ws, v4, v5, rfl, hv, hf, hpi, s'⟩ ⟨rfl, ex⟩
      obtain ⟨cv', e1, e2, e3⟩ := stay _ s'
      rw [← e3] at ex
      obtain ⟨xs, exs, a, rfl, ha⟩ := prd_at e2 ex
      rw [List.getElem?_map] at exs
      have I2 := own_step I hp s'
      cases ec : R.cols[i]? with
      | none => rw [ec] at exs; cases exs
      | some c =>
        rw [ec] at exs
        cases exs
        have hc : c ∈ R.cols := List.mem_of_getElem? ec
        replace ha : _ = some (HO.tup [V.str c.1, V.str (wordOf c.2)]) := ha
        have i4 : i < 4 := by
          have := (List.getElem?_eq_some_iff.mp ec).1
          omega
        have tk : R.cols.take (i + 1) = R.cols.take i ++ [c] := by rw [List.take_succ, ec]; rfl
        have wl : ws.length ≤ 4 := by have := prd_len hv; rw [List.length_take] at this; omega
        have fin : ∀ (v : V) (H2 : Hp), valOk R c v → H2 f = some (.lst ws) → PotAt H2 p (n + 2 * (4 - i) - 2) → SB p H H2 → ∃ (ws' : List V), Paired (valOk R) (R.cols.take (i + 1)) ws' ∧ (upd H2 f (.lst (ws ++ [v]))) f = some (.lst ws') ∧ PotAt (upd H2 f (.lst (ws ++ [v]))) p (n + 2 * (4 - (i + 1))) ∧ SB p H (upd H2 f (.lst (ws ++ [v]))) := fun v H2 hv2 hf2 hp2 s2 =>
          ⟨ws ++ [v], by rw [tk]; exact PySem.Paired.snoc hv hv2, upd_same, (hp2.put fp.symm).le (by omega), s2.mut nf⟩
        walk_at "go"
        have ew : V.str (wordOf c.2) = V.str "kinds" ↔ c.2 = true := by
          cases c.2 with
          | true => exact ⟨fun _ => rfl, fun _ => rfl⟩
          | false => exact ⟨fun e => absurd (V.str.inj e) (by decide +kernel), fun e => by cases e⟩
        refine U.g_2 (fun cc => ?_) (fun cc => ?_)
        · have cc := ew.mp (of_decide_eq_true cc)
          walk_at "go"
          refine ⟨o, lc, lk, lp, R, c.1, rfl, I2, k1000, fun l H2 nl s2 hl => ?_⟩
          walk_at "go"
          have lp' : l ≠ p := by
            obtain ⟨_, _, _, q, _⟩ := hpi
            exact (ne_of_none q nl).symm
          obtain ⟨k, hk1, hk2⟩ := hk c hc cc
          have mem : k.name ∈ kindNames R c.1 := List.mem_map.mpr ⟨k, List.mem_filter.mpr ⟨hk1, decide_eq_true hk2⟩, rfl⟩
          have kl : (kindNames R c.1).length ≤ 1000 := by
            unfold kindNames
            rw [List.length_map]
            exact Nat.le_trans (List.length_filter_le _ _) k1000
          refine ⟨p, .ref l, n + 2 * (4 - i) - 1, rfl, (hpi.same s2).le (by omega), Or.inl ⟨l, _, rfl, Or.inl (SqL.of hl), by rw [List.length_map]; exact List.length_pos_of_mem mem, by rw [List.length_map]; omega, fun H3 s3 => Or.inl (SqL.of (s3 _ _ hl lp')), fun j y H3 hy hp3 s3 => ?_⟩⟩
          obtain ⟨nm, hnm, rfl⟩ := List.mem_map.mp (List.mem_of_getElem? hy)
          obtain ⟨k', hk', e1, e2⟩ := kindNames_mem hnm
          have hf3 := s3 _ _ (s2 _ _ hf) fp
          walk_at "go"
          refine U.g_appL hf3 (by omega) ?_
          walk_at "go"
          obtain ⟨ws', q1, q2, q3, q4⟩ := fin (.str nm) H3 (by unfold valOk; rw [if_pos cc]; exact ⟨k', hk', e1, by rw [e2]⟩) hf3 (hp3.le (by omega)) ((s'.trans (SB.of s2)).trans s3)
          exact ⟨ws', _, _, rfl, q1, q2, q3, q4⟩
        · have cc : c.2 = false := by
            cases e : c.2 with
            | true => rw [decide_eq_true (ew.mpr e)] at cc; cases cc
            | false => rfl
          walk_at "go"
          refine ⟨p, 12, n + 2 * (4 - i) - 1, rfl, by decide, by decide, hpi.le (by omega), fun r H2 r0 r1 hp2 s2 => ?_⟩
          have hf2 := s2 _ _ hf fp
          walk_at "go"
          refine U.g_2 (fun cc2 => ?_) (fun cc2 => ?_)
          · walk_at "go"
            refine ⟨by decide, fun a na => ?_⟩
            refine ⟨p, .ref a, n + 2 * (4 - i) - 2, rfl, (hp2.new na).le (by omega), Or.inl ⟨a, _, rfl, Or.inl (SqL.of upd_same), by decide, by decide, fun H4 s4 => Or.inl (SqL.of (s4 _ _ upd_same ?_)), fun j y H4 hy hp4 s4 => ?_⟩⟩
            · obtain ⟨_, _, _, e, _⟩ := hp2
              exact (ne_of_none e na).symm
            obtain ⟨z, rfl, z0, z1⟩ := intIn_out (all_at (f := intIn (-1000000) 1000000) (by decide +kernel) hy)
            have hf4 := s4 _ _ (get_new na hf2) fp
            walk_at "go"
            refine U.g_appL hf4 (by omega) ?_
            walk_at "go"
            obtain ⟨ws', q1, q2, q3, q4⟩ := fin (.int z) H4 (by unfold valOk; rw [cc, if_neg (by decide)]; exact ⟨z, rfl, z0, z1⟩) hf4 hp4 (((s'.trans s2).new na).trans s4)
            exact ⟨ws', _, _, rfl, q1, q2, q3, q4⟩
          · walk_at "go"
            refine ⟨p, 9, n + 2 * (4 - i) - 2, rfl, by decide, by decide, hp2.le (by omega), fun r' H3 r0' r1' hp3 s3 => ?_⟩
            have hf3 := s3 _ _ hf2 fp
            walk_at "go"
            refine U.g_appL hf3 (by omega) ?_
            walk_at "go"
            obtain ⟨ws', q1, q2, q3, q4⟩ := fin (.int (near + r')) H3 (by unfold valOk; rw [cc, if_neg (by decide)]; exact ⟨_, rfl, by omega, by omega⟩) hf3 hp3 ((s'.trans s2).trans s3)
            exact ⟨ws', _, _, rfl, q1, q2, q3, q4⟩
    · rintro σ' H' ⟨ws, v4, v5, rfl, hv, hf, hpi, s'⟩
      walk_at "go"
      rw [hcl, List.take_of_length_le (Nat.le_refl _)] at hv
      refine U.g_tupL (SqL.of hf) fun t nt => ?_
      exact kk t ws _ upd_same hv ((hpi.new nt).le (by omega)) (s'.new nt)
end
end Toy

namespace Toy
open PySem L2 U M
theorem prd_app {α β : Type} {R : α → β → Prop} : ∀ {xs xs' : List α} {ys ys' : List β}, Paired R xs ys → Paired R xs' ys' → Paired R (xs ++ xs') (ys ++ ys')
  | _, _, _, _, .nil, h => h
  | _, _, _, _, .cons a r, h => .cons a (prd_app r h)
theorem sb_fresh {p a : Addr} {n : Nat} {H H' : Hp} (s : SB p H H') (hp : PotAt H' p n) (na : H' a = none) : H a = none := by
  cases e : H a with
  | none => rfl
  | some o =>
    by_cases ea : a = p
    · subst ea
      obtain ⟨_, _, _, q, _⟩ := hp
      rw [na] at q; cases q
    · have := s a o e ea
      rw [na] at this; cases this
theorem pot_ne {H : Hp} {p a : Addr} {n : Nat} (hp : PotAt H p n) (na : H a = none) : a ≠ p := by
  obtain ⟨_, _, _, q, _⟩ := hp
  exact (ne_of_none q na).symm
/-- kinds more -/
theorem own_kinds {H : Hp} {o lc lk lp : Addr} {R : Reg} {kv more : List V} {ks : List Knd} (I : OwnX H o lc lk lp R) (h : H lk = some (.lst kv)) (m : TupL H more (ks.map kindV)) (n1 : lc ≠ lk) (n2 : lp ≠ lk) : OwnX (upd H lk (.lst (kv ++ more))) o lc lk lp ⟨R.cols, R.kinds ++ ks, R.persons⟩ := by
  obtain ⟨cv, c1, c2⟩ := I.c
  obtain ⟨kv', k1, k2⟩ := I.k
  obtain ⟨pv, p1, p2⟩ := I.p
  have e : kv' = kv := by rw [h] at k1; cases k1; rfl
  subst e
  have t : M.TS H (upd H lk (.lst (kv' ++ more))) := TS.lst h
  refine ⟨get_ne (ne_of I.d h (by intro z; cases z)) I.d, ⟨cv, get_ne n1 c1, c2.mono t⟩, ⟨_, upd_same, ?_⟩, ⟨pv, get_ne n2 p1, p2.mono t⟩⟩
  rw [List.map_append]
  exact prd_app (k2.mono t) (m.mono t)
/-- a person more -/
theorem own_person {H : Hp} {o lc lk lp : Addr} {R : Reg} {pv : List V} {v : V} {q : Str × List V} (I : OwnX H o lc lk lp R) (h : H lp = some (.lst pv)) (m : PerAt H v q) (n1 : lc ≠ lp) (n2 : lk ≠ lp) : OwnX (upd H lp (.lst (pv ++ [v]))) o lc lk lp ⟨R.cols, R.kinds, R.persons ++ [q]⟩ := by
  obtain ⟨cv, c1, c2⟩ := I.c
  obtain ⟨kv, k1, k2⟩ := I.k
  obtain ⟨pv', p1, p2⟩ := I.p
  have e : pv' = pv := by rw [h] at p1; cases p1; rfl
  subst e
  have t : M.TS H (upd H lp (.lst (pv' ++ [v]))) := TS.lst h
  refine ⟨get_ne (ne_of I.d h (by intro z; cases z)) I.d, ⟨cv, get_ne n1 c1, c2.mono t⟩, ⟨kv, get_ne n2 k1, k2.mono t⟩, ⟨_, upd_same, ?_⟩⟩
  obtain ⟨a, b, e, h1, h2⟩ := m
  exact PySem.Paired.snoc (p2.mono t) ⟨a, b, e, t a _ h1, t b _ h2⟩
section
variable {P : Program} {w : World} {K : PySem.W.Frag} {mg : Str → Option Value} {base : Heap}
theorem sc__law_register : FnScope ["pot", "columns", "kinds", "persons", "names", "own", "name", "word", "near", "some", "old"] ["pot", "columns", "kinds", "persons"] (defScope s__law_register) := ⟨rfl, rfl, rfl, by decide +kernel, rfl, by decide +kernel, by decide +kernel⟩
/-- a drawn register, new -/
def sp_register : Sp := fun vs H Q _ => ∃ (p : Addr) (mc mk mp n : Nat), vs = [.ref p, .int mc, .int mk, .int mp] ∧ 1 ≤ mc ∧ mc ≤ 4 ∧ 1 ≤ mk ∧ mk ≤ 40 ∧ 1 ≤ mp ∧ mp ≤ 60 ∧ PotAt H p (n + 9000) ∧
  ∀ (o lc lk lp : Addr) (R : Reg) (H' : Hp), H o = none → OwnX H' o lc lk lp R → RegOk R → R.cols.length ≤ mc → R.persons.length ≤ mp → lc ≠ lk → lc ≠ lp → lk ≠ lp → PotAt H' p n → SB p H H' → Q (.ref o) H'
theorem ok__law_register (T : Tx K mg) : FnOk P w K mg base CX0 5 T.a__law_register T.fd__law_register ["pot", "columns", "kinds", "persons"] sp_register := by
  refine T.F__law_register.ok sc__law_register (fun vs H Q E h => ?_) (fun cdv A outer s H vs Q E hr h => ?_)
  · obtain ⟨p, mc, mk, mp, n, rfl, _⟩ := h
    rfl
  · obtain ⟨p, mc, mk, mp, n, rfl, c1, c4, k1, k40, p1, p60, hp, kk⟩ := h
    have hu := hu_of hr
    have hu64 := hr.units
    refine ⟨_, (pss_cons (ps_set (i := 4) sc__law_register.nd rfl (Or.inl rfl) (pe_call (ok__law_names T) (hr.mono (by decide)) rfl T.m__law_names T.F__law_names.kp (b__law_names T) .nil pass0 (pa_cons (pv 0) (pa_cons (pe_op (op_uAdd (K := K) rfl) (pe_int) (pe_call (ok__law_take T) (hr.mono (by decide)) rfl T.m__law_take T.F__law_take.kp (b__law_take T) .nil pass0 (pa_cons (pv 0) (pa_cons (pv 1) pa_nil)))) pa_nil))))
        (pss_cons (ps_set (i := 5) sc__law_register.nd rfl (Or.inl rfl) (pe_disp (pps_cons (pe_str) (pe_lc rfl sc__law_register.nd (u_list (K := K) rfl (pv 4)) (blkOk_by (own := [("name", 6)]) (N := ["pot", "columns", "kinds", "persons", "names", "own", "name", "word", "near", "some", "old"]) (sc := defScope s__law_register) (by decide +kernel)) (fun _ _ _ _ _ => (pg_name (i := 6) sc__law_register.nd rfl (Or.inl rfl))) (fun _ _ _ _ _ => pts_nil) (fun _ _ _ _ _ => (pe_tup (pa_cons (pv 6) (pa_cons (pe_call (ok__law_of T) (hr.mono (by decide)) rfl T.m__law_of T.F__law_of.kp (b__law_of T) .nil pass0 (pa_cons (pv 0) (pa_cons (pe_lst (pa_cons (pe_str) (pa_cons (pe_str) pa_nil))) pa_nil))) pa_nil))))) (pps_cons (pe_str) (pe_lst pa_nil) (pps_cons (pe_str) (pe_lst pa_nil) pps_nil))) (by rfl) (by rfl) (fun z => by cases z) (by decide)))
        (pss_cons (ps_for PassesOwn.never rfl (u_list (K := K) rfl (pe_dget hu (pv 5) (pe_str) (fun _ _ => rfl))) (u_gtup (K := K) (n := 2) rfl rfl (pgs_cons (pg_name (i := 6) sc__law_register.nd rfl (Or.inl rfl)) (pgs_cons (pg_name (i := 7) sc__law_register.nd rfl (Or.inl rfl)) pgs_nil))) (pss_one (ps_if (pt_cmpR (op_uEq (K := K) rfl hu64) (pv 7) (pe_str) (nomark _)) (pss_one (ps_expr (pe_bm PySem.F.plainAttrs_list PySem.F.slot_list_extend PySem.F.type_list_extend mt_extend (pe_dget hu (pv 5) (pe_str) (fun _ _ => rfl)) (pa_cons (pe_call (ok__law_kinds T) (hr.mono (by decide)) rfl T.m__law_kinds T.F__law_kinds.kp (b__law_kinds T) .nil pass0 (pa_cons (pv 0) (pa_cons (pv 6) (pa_cons (pe_op (op_uAdd (K := K) rfl) (pe_int) (pe_call (ok__law_take T) (hr.mono (by decide)) rfl T.m__law_take T.F__law_take.kp (b__law_take T) .nil pass0 (pa_cons (pv 0) (pa_cons (pv 2) pa_nil)))) pa_nil)))) pa_nil)))) pss_nil)))
        (pss_cons (ps_set (i := 8) sc__law_register.nd rfl (Or.inl rfl) (pe_callTy call_uInt (by rfl) T.n_int (by decide +kernel) (pa_cons (pe_call (ok__law_of T) (hr.mono (by decide)) rfl T.m__law_of T.F__law_of.kp (b__law_of T) .nil pass0 (pa_cons (pv 0) (pa_cons (pe_lst (pa_cons (pe_int) (pa_cons (pe_int) (pa_cons (pe_un op_uNeg (pe_int)) (pa_cons (pe_int) pa_nil))))) pa_nil))) pa_nil)))
        (pss_cons (ps_set (i := 9) sc__law_register.nd rfl (Or.inl rfl) (pe_lst (pa_cons (pv 3) (pa_cons (pe_op (op_uAdd (K := K) rfl) (pe_int) (pe_call (ok__law_take T) (hr.mono (by decide)) rfl T.m__law_take T.F__law_take.kp (b__law_take T) .nil pass0 (pa_cons (pv 0) (pa_cons (pv 3) pa_nil)))) (pa_cons (pe_op (op_uAdd (K := K) rfl) (pe_int) (pe_call (ok__law_take T) (hr.mono (by decide)) rfl T.m__law_take T.F__law_take.kp (b__law_take T) .nil pass0 (pa_cons (pv 0) (pa_cons (pv 3) pa_nil)))) (pa_cons (pe_call (ok__law_take T) (hr.mono (by decide)) rfl T.m__law_take T.F__law_take.kp (b__law_take T) .nil pass0 (pa_cons (pv 0) (pa_cons (pe_op (op_uAdd (K := K) rfl) (pv 3) (pe_int)) pa_nil))) pa_nil))))))
        (pss_cons (ps_for PassesOwn.never rfl (u_list (K := K) rfl (pe_call (ok__law_names T) (hr.mono (by decide)) rfl T.m__law_names T.F__law_names.kp (b__law_names T) .nil pass0 (pa_cons (pv 0) (pa_cons (pe_call (ok__law_of T) (hr.mono (by decide)) rfl T.m__law_of T.F__law_of.kp (b__law_of T) .nil pass0 (pa_cons (pv 0) (pa_cons (pv 9) pa_nil))) pa_nil)))) (pg_name (i := 6) sc__law_register.nd rfl (Or.inl rfl)) (pss_cons (ps_set (i := 10) sc__law_register.nd rfl (Or.inl rfl) (pe_ifExp (PW.pt (pw_and (pt_cmpR (op_uNe (K := K) rfl hu64) (pe_dget hu (pv 5) (pe_str) (fun _ _ => rfl)) (pe_lst pa_nil) (nomark _)) (pw_and1 (pt_cmpR (op_uEq (K := K) rfl hu64) (pe_call (ok__law_take T) (hr.mono (by decide)) rfl T.m__law_take T.F__law_take.kp (b__law_take T) .nil pass0 (pa_cons (pv 0) (pa_cons (pe_int) pa_nil))) (pe_int) (nomark _))))) (pe_ix (ix_u (K := K) rfl) (pe_call (ok__law_of T) (hr.mono (by decide)) rfl T.m__law_of T.F__law_of.kp (b__law_of T) .nil pass0 (pa_cons (pv 0) (pa_cons (pe_dget hu (pv 5) (pe_str) (fun _ _ => rfl)) pa_nil))) (pe_int) (fun _ _ => rfl)) (pe_non)))
        (pss_one (ps_expr (pe_bm PySem.F.plainAttrs_list PySem.F.slot_list_append PySem.F.type_list_append mt_append (pe_dget hu (pv 5) (pe_str) (fun _ _ => rfl)) (pa_cons (pe_tup (pa_cons (pv 6) (pa_cons (pe_ifExp (pt_cmpR op_isN (pv 10) pe_non (nomark _)) (pe_call (ok__law_values T) (hr.mono (by decide)) rfl T.m__law_values T.F__law_values.kp (b__law_values T) .nil pass0 (pa_cons (pv 0) (pa_cons (pv 5) (pa_cons (pv 8) pa_nil)))) (pv 10)) pa_nil))) pa_nil))))))
        (pss_one (ps_ret (pv 5))))))))), ?_⟩
    walk_at "st"
    walk_at "go"
    refine ⟨p, mc, n + 8999, rfl, by omega, by omega, hp, fun r H1 r0 r1 hp1 s1 => ?_⟩
    walk_at "go"
    obtain ⟨m, em⟩ : ∃ m : Nat, 1 + r = (m : Int) := ⟨(1 + r).toNat, by omega⟩
    rw [em]
    refine ⟨p, m, n + 8900, rfl, by omega, hp1.le (by omega), fun l ns H2 nl hl e1 nd ok hp2 s2 => ?_⟩
    walk_at "go"
    intro o no
    walk_at "go"
    refine e_list (SqL.of (by walk_at "hp")) ?_
    have hpo := (hp2.new (o := .dK []) no)
    have so : SB p H2 (upd H2 o (.dK [])) := (SB.refl p H2).new no
    generalize hHc : upd H2 o (.dK []) = Hc at *
    have hlc : Hc l = some (.lst (ns.map V.str)) := by rw [← hHc]; exact get_new no hl
    have hoc : Hc o = some (.dK []) := by rw [← hHc]; exact upd_same
    have lp0 : l ≠ p := by
      intro e
      subst e
      obtain ⟨x, y, z, q, _⟩ := hpo
      rw [hlc] at q
      have q := List.map_eq_cons_iff.mp (HO.lst.inj (Option.some.inj q))
      obtain ⟨_, _, _, q, _⟩ := q
      cases q
    have op0 : o ≠ p := pot_ne hp2 no
    have m1 : 1 ≤ m := by omega
    have m4 : m ≤ 4 := by omega
    refine lcI_by walk_list (by rw [List.length_map]; omega) fun lc nlc => ⟨fun i acc H' => ∃ bs : List Bool, bs.length = i ∧ TupL H' acc (((ns.take i).zip bs).map colV) ∧ PotAt H' p (n + 8900 - i) ∧ SB p Hc H', ⟨[], rfl, .nil, hpo.new nlc, (SB.refl p Hc).new nlc⟩, fun i acc H' _ ⟨_, _, _, _, s'⟩ => SqL.of (s' _ _ hlc lp0), ?_, ?_⟩
    · rintro i x acc _ H' A B hi hE ⟨bs, hb, ht, hpi, s'⟩ ⟨rfl, ex⟩ kA kB
      rw [List.length_map] at hi
      have lcp : lc ≠ p := pot_ne hpo nlc
      rw [List.getElem?_map, List.getElem?_eq_getElem hi] at ex
      cases ex
      have tk : ns.take (i + 1) = ns.take i ++ [ns[i]] := by rw [List.take_succ, List.getElem?_eq_getElem hi]; rfl
      walk_at "go"
      refine ⟨rfl, ?_⟩
      walk_at "go"
      refine ⟨by decide, fun a na => ?_⟩
      refine ⟨p, .ref a, n + 8900 - (i + 1), rfl, (hpi.new na).le (by omega), Or.inl ⟨a, _, rfl, Or.inl (SqL.of upd_same), by decide, by decide, fun H4 s4 => Or.inl (SqL.of (s4 _ _ upd_same (pot_ne hpi na))), fun j y H4 hy hp4 s4 => ?_⟩⟩
      obtain ⟨b, rfl⟩ : ∃ b, y = .str (wordOf b) := by
        have := List.mem_of_getElem? hy
        simp only [List.mem_cons, List.not_mem_nil, or_false] at this
        rcases this with rfl | rfl
        · exact ⟨false, rfl⟩
        · exact ⟨true, rfl⟩
      walk_at "go"
      refine ⟨by show 2 ≤ sizeLine; decide, fun t nt => ?_⟩
      have sA : SB p Hc (upd H4 t (.tup [.str ns[i], .str (wordOf b)])) := ((s'.new na).trans s4).new nt
      have hE4 := get_new (o := .tup [.str ns[i], .str (wordOf b)]) nt (s4 _ _ (get_new na hE) lcp)
      have tS : M.TS H' (upd H4 t (.tup [.str ns[i], .str (wordOf b)])) := ((TS.new na).trans ((hpi.new na).ts s4)).trans (TS.new nt)
      have tE : ∀ o, M.TS (upd H4 t (.tup [.str ns[i], .str (wordOf b)])) (upd (upd H4 t (.tup [.str ns[i], .str (wordOf b)])) lc o) := fun o => TS.lst hE4
      refine kA _ _ hE4 ⟨bs ++ [b], by rw [List.length_append, hb]; rfl, ?_, ((hp4.new nt).put (Ne.symm lcp)).le (by omega), sA.mut nlc⟩
      rw [tk, List.zip_append (by rw [List.length_take]; omega), List.map_append]
      exact PySem.Paired.snoc ((ht.mono tS).mono (tE _)) ⟨t, rfl, tE _ t _ upd_same⟩
    intro cv H3 hE ⟨bs, hb, ht, hp3, s3⟩
    rw [List.length_map] at hb hp3 ht
    rw [List.take_of_length_le (Nat.le_refl _)] at ht
    have lcp : lc ≠ p := pot_ne hpo nlc
    have ho3 := s3 _ _ hoc op0
    walk_at "go"
    refine ⟨by decide, fun lk nlk => ?_⟩
    walk_at "go"
    refine ⟨by decide, fun lp nlp => ?_⟩
    walk_at "go"
    refine ⟨by walk_at "hp", ownD lc lk lp, rfl, by show 3 ≤ 15; decide, ?_⟩
    rw [own_merge]
    generalize hcols : ns.zip bs = cols at ht
    have sH : SB p H H3 := ((s1.trans s2).trans so).trans s3
    have nlcH : H lc = none := sb_fresh ((s1.trans s2).trans so) hpo nlc
    have nlkH : H lk = none := sb_fresh sH hp3 nlk
    have nlpH : H lp = none := sb_fresh (sH.new nlk) (hp3.new nlk) nlp
    have noH : H o = none := sb_fresh (s1.trans s2) hp2 no
    have d1 : lc ≠ lk := ne_of_none hE nlk
    have d2 : lc ≠ lp := ne_of_none (get_new nlk hE) nlp
    have d3 : lk ≠ lp := (nb2 nlp).symm
    have o1 : lc ≠ o := ne_of hE ho3 (by intro z; cases z)
    have o2 : lk ≠ o := (ne_of_none ho3 nlk).symm
    have o3 : lp ≠ o := (ne_of_none (get_new nlk ho3) nlp).symm
    have hcl : cols.length = m := by rw [← hcols, List.length_zip]; omega
    have hcm : cols.map (·.1) = ns := by rw [← hcols]; exact List.map_fst_zip (by omega)
    have colsOk : ColsOk cols := ⟨by omega, by omega, by rw [hcm]; exact nd, fun c hc => ok _ (by rw [← hcm]; exact List.mem_map_of_mem hc)⟩
    have hOwn : ∃ Hd, Hd = upd (upd (upd H3 lk (.lst [])) lp (.lst [])) o (.dK (ownD lc lk lp)) ∧ OwnX Hd o lc lk lp ⟨cols, [], []⟩ ∧ PotAt Hd p (n + 8800) ∧ SB p H Hd := by
      refine ⟨_, rfl, ⟨upd_same, ⟨cv, by walk_at "hp", ?_⟩, ⟨[], by walk_at "hp", .nil⟩, ⟨[], by walk_at "hp", .nil⟩⟩, (((hp3.new nlk).new nlp).put (Ne.symm op0)).le (by omega), ((sH.new nlk).new nlp).mut noH⟩
      exact ((ht.mono (TS.new nlk)).mono (TS.new nlp)).mono (TS.dK (get_new nlp (get_new nlk ho3)))
    obtain ⟨Hd, eHd, I, hpd, sd⟩ := hOwn
    rw [← eHd]
    clear eHd hHc
    walk_at "go"
    refine e_dgetS I.d (own_c lc lk lp) ?_
    obtain ⟨cv', hc1, hc2⟩ := I.c
    have hcvl := prd_len hc2
    rw [List.length_map] at hcvl
    replace hcvl : cv'.length = m := by rw [hcvl]; exact hcl
    have stay : ∀ {H' : Hp} {R' : Reg}, R'.cols = cols → OwnX H' o lc lk lp R' → H' lc = some (.lst cv') → TupL H' cv' (cols.map colV) := fun {H' R'} eR I' e => by
      obtain ⟨cw, w1, w2⟩ := I'.c
      rw [e] at w1
      cases w1
      rw [eR] at w2
      exact w2
    refine e_list (SqL.of hc1) ?_
    refine forI_by walk_list (fun i σ' H' => ∃ (ks : List Knd) (v6 v7 : Option V), σ' = [some (.ref p), some (.int mc), some (.int mk), some (.int mp), some (.ref l), some (.ref o), v6, v7, none, none, none] ∧ OwnX H' o lc lk lp ⟨cols, ks, []⟩ ∧ KindsOk (cols.take i) ks ∧ ks.length ≤ 60 * i ∧ PotAt H' p (n + 8800 - 1000 * i) ∧ SB p H H' ∧ H' lc = some (.lst cv'))
      ⟨[], none, none, rfl, I, ⟨(fun c hc => by cases hc), (fun k hk => by cases hk)⟩, Nat.zero_le _, hpd, sd, hc1⟩ (fun i σ' H' _ ⟨ks, v6, v7, _, _, _, _, _, _, e⟩ => SqL.of e) ?_ ?_
    · rintro i x σ' _ H' hi ⟨ks, v6, v7, rfl, I1, kok, kl, hpi, si, hlci⟩ ⟨rfl, ex⟩
      have w2 := stay rfl I1 hlci
      obtain ⟨xs, exs, a, rfl, ha⟩ := prd_at w2 ex
      rw [List.getElem?_map] at exs
      cases ec : cols[i]? with
      | none => rw [ec] at exs; cases exs
      | some c =>
        rw [ec] at exs
        cases exs
        replace ha : _ = some (HO.tup [V.str c.1, V.str (wordOf c.2)]) := ha
        have tk : cols.take (i + 1) = cols.take i ++ [c] := by rw [List.take_succ, ec]; rfl
        have ew : V.str (wordOf c.2) = V.str "kinds" ↔ c.2 = true := by
          cases c.2 with
          | true => exact ⟨fun _ => rfl, fun _ => rfl⟩
          | false => exact ⟨fun e => absurd (V.str.inj e) (by decide +kernel), fun e => by cases e⟩
        walk_at "go"
        refine U.g_2 (fun cc => ?_) (fun cc => ?_)
        · have cc := ew.mp (of_decide_eq_true cc)
          walk_at "go"
          refine e_dgetS I1.d (own_k lc lk lp) ?_
          obtain ⟨kv, hk1, hk2⟩ := I1.k
          refine U.ty_lst hk1 ?_
          walk_at "go"
          refine ⟨p, mk, n + 8800 - 1000 * i - 1, rfl, by omega, by omega, hpi.le (by omega), fun r' H4 r0' r1' hp4 s4 => ?_⟩
          walk_at "go"
          obtain ⟨q, eq⟩ : ∃ q : Nat, 1 + r' = (q : Int) := ⟨(1 + r').toNat, by omega⟩
          rw [eq]
          refine ⟨p, c.1, q, n + 8800 - 1000 * (i + 1), rfl, by omega, hp4.le (by omega), fun l' kvs ks' H5 nl' hl' tl' ql' kok' hp5 s5 => ?_⟩
          have I5 := own_step (own_step I1 hpi s4) hp4 s5
          obtain ⟨kv5, hk51, hk52⟩ := I5.k
          have ekv : kv5 = kv := by
            have e := s5 _ _ (s4 _ _ hk1 (own_nep I1 hpi).2.2.1) (own_nep I1 hpi).2.2.1
            rw [hk51] at e; cases e; rfl
          subst ekv
          have kvl := prd_len hk52
          have kvl' := prd_len tl'
          rw [List.length_map] at kvl kvl'
          replace kvl : kv5.length = ks.length := kvl
          walk_at "go"
          refine U.g_ext hk51 hl' (by omega) ?_
          walk_at "go"
          refine ⟨ks ++ ks', _, _, rfl, own_kinds I5 hk51 tl' d1 d3.symm, ?_, by rw [List.length_append]; omega, hp5.put (Ne.symm (own_nep I1 hpi).2.2.1), ((si.trans s4).trans s5).mut nlkH, get_ne d1 (s5 _ _ (s4 _ _ hlci lcp) lcp)⟩
          · rw [tk]
            refine kok.more ?_ cc kok' (by omega) (by omega)
            rw [← tk, List.map_take, hcm]
            exact nd.sublist (List.take_sublist _ _)
        · have cc : c.2 = false := by
            cases e : c.2 with
            | true => rw [decide_eq_true (ew.mpr e)] at cc; cases cc
            | false => rfl
          walk_at "go"
          exact ⟨ks, _, _, rfl, I1, by rw [tk]; exact kok.line cc, by omega, hpi.le (by omega), si, hlci⟩
    · rintro σ' H4 ⟨ks, v6, v7, rfl, I4, kok, kl, hp4, s4, hlc4⟩
      walk_at "go"
      have hcl' : cv'.length = cols.length := by omega
      rw [hcl', List.take_of_length_le (Nat.le_refl _)] at kok
      rw [hcvl] at hp4
      have hp4 := hp4.le (show n + 4000 ≤ n + 8800 - 1000 * m by omega)
      have kl : ks.length ≤ 240 := by omega
      refine ⟨by decide, fun a na => ?_⟩
      refine ⟨p, .ref a, n + 3999, rfl, (hp4.new na), Or.inl ⟨a, _, rfl, Or.inl (SqL.of upd_same), by decide, by decide, fun H5 s5 => Or.inl (SqL.of (s5 _ _ upd_same (pot_ne hp4 na))), fun j y H5 hy hp5 s5 => ?_⟩⟩
      obtain ⟨near, rfl, z0, z1⟩ := intIn_out (all_at (f := intIn (-1000000) 999992) (by decide +kernel) hy)
      have I5 := own_step (own_same I4 (same_new (o := .lst [.int 0, .int 20, .int (-4), .int 999990]) na)) (hp4.new na) s5
      have s5 : SB p H H5 := (s4.new na).trans s5
      walk_at "go"
      refine ⟨p, mp, n + 3998, rfl, by omega, by omega, hp5, fun r6 H6 r60 r61 hp6 s6 => ?_⟩
      walk_at "go"
      refine ⟨p, mp, n + 3997, rfl, by omega, by omega, hp6, fun r7 H7 r70 r71 hp7 s7 => ?_⟩
      walk_at "go"
      refine ⟨p, mp + 1, n + 3996, rfl, by omega, by omega, hp7, fun r8 H8 r80 r81 hp8 s8 => ?_⟩
      walk_at "go"
      refine ⟨by show 4 ≤ sizeLine; decide, fun b nb => ?_⟩
      walk_at "go"
      have I8 := own_same (own_step (own_step (own_step I5 hp5 s6) hp6 s7) hp7 s8) (same_new (o := .lst [.int mp, .int (1 + r6), .int (1 + r7), .int r8]) nb)
      have s8 : SB p H H8 := ((s5.trans s6).trans s7).trans s8
      refine ⟨p, .ref b, n + 3995, rfl, (hp8.new nb), Or.inl ⟨b, _, rfl, Or.inl (SqL.of upd_same), by show 0 < 4; decide, by show 4 ≤ 1000000; decide, fun H9 s9 => Or.inl (SqL.of (s9 _ _ upd_same (pot_ne hp8 nb))), fun j y H9 hy hp9 s9 => ?_⟩⟩
      obtain ⟨m2, rfl, hm2⟩ : ∃ m2 : Nat, y = .int m2 ∧ m2 ≤ mp := by
        have := List.mem_of_getElem? hy
        simp only [List.mem_cons, List.not_mem_nil, or_false] at this
        rcases this with rfl | rfl | rfl | rfl
        · exact ⟨mp, rfl, Nat.le_refl _⟩
        · exact ⟨(1 + r6).toNat, by rw [Int.toNat_of_nonneg (by omega)], by omega⟩
        · exact ⟨(1 + r7).toNat, by rw [Int.toNat_of_nonneg (by omega)], by omega⟩
        · exact ⟨r8.toNat, by rw [Int.toNat_of_nonneg (by omega)], by omega⟩
      have I9 := own_step I8 (hp8.new nb) s9
      have s9 : SB p H H9 := (s8.new nb).trans s9
      walk_at "go"
      refine ⟨p, m2, n + 1000, rfl, by omega, hp9.le (by omega), fun l2 ns2 H10 nl2 hl2 e2 nd2 ok2 hp10 s10 => ?_⟩
      have I10 := own_step I9 hp9 s10
      have s10 : SB p H H10 := s9.trans s10
      walk_at "go"
      have l2p : l2 ≠ p := pot_ne hp9 nl2
      have l2lp : l2 ≠ lp := by
        obtain ⟨pv, q1, _⟩ := I9.p
        exact (ne_of_none q1 nl2).symm
      have kn : ∀ k ∈ ks, isName k.name = true := fun k hk => (kok.name k hk).1
      have hkc : ∀ c ∈ cols, c.2 = true → ∃ k ∈ ks, k.col = c.1 := fun c hc h => by
        obtain ⟨_, h1, _⟩ := kok.each c hc h
        obtain ⟨k, hk⟩ := List.exists_mem_of_length_pos (show 0 < (ks.filter fun k => decide (k.col = c.1)).length from h1)
        rw [List.mem_filter] at hk
        exact ⟨k, hk.1, of_decide_eq_true hk.2⟩
      refine e_list (SqL.of hl2) ?_
      refine forI_by walk_list (fun i σ' H' => ∃ (ps : List (Str × List V)) (v6 v10 : Option V), σ' = [some (.ref p), some (.int mc), some (.int mk), some (.int mp), some (.ref l), some (.ref o), v6, v7, some (.int near), some (.ref b), v10] ∧ OwnX H' o lc lk lp ⟨cols, ks, ps⟩ ∧ ps.map (·.1) = ns2.take i ∧ (∀ q ∈ ps, Paired (valOk ⟨cols, ks, []⟩) cols q.2) ∧ PotAt H' p (n + 1000 - 12 * i) ∧ SB p H H' ∧ H' l2 = some (.lst (ns2.map V.str)))
        ⟨[], v6, none, rfl, I10, rfl, (fun q hq => by cases hq), hp10, s10, hl2⟩ (fun i σ' H' _ ⟨ps, v6, v10, _, _, _, _, _, _, e⟩ => SqL.of e) ?_ ?_
      · rintro i x σ' _ H' hi ⟨ps, v6, v10, rfl, I1, pn, pok, hpi, si, hl2i⟩ ⟨rfl, ex⟩
        rw [List.length_map] at hi
        rw [List.getElem?_map, List.getElem?_eq_getElem hi] at ex
        cases ex
        have i60 : i < 60 := by omega
        have tk : ns2.take (i + 1) = ns2.take i ++ [ns2[i]] := by rw [List.take_succ, List.getElem?_eq_getElem hi]; rfl
        have psl : ps.length = i := by
          have := congrArg List.length pn
          rw [List.length_map, List.length_take] at this
          omega
        refine U.g_name ?_
        walk_at "ds"
        refine U.g_seq (U.g_asg (U.g_cut (fun v H1 => (v = .non ∨ ∃ (b' : Addr) (vals : List V), v = .ref b' ∧ H1 b' = some (.tup vals) ∧ Paired (valOk ⟨cols, ks, []⟩) cols vals) ∧ OwnX H1 o lc lk lp ⟨cols, ks, ps⟩ ∧ PotAt H1 p (n + 1000 - 12 * i - 2) ∧ SB p H H1 ∧ H1 l2 = some (.lst (ns2.map V.str))) (fun R kR => ?_) ?_))
        · walk_at "go"
          refine e_dgetS I1.d (own_p lc lk lp) ?_
          refine ⟨by decide, fun e ne => ?_⟩
          have I2 := own_same I1 (same_new (o := .lst []) ne)
          obtain ⟨pv, hpv1, hpv2⟩ := I2.p
          have hpvl := prd_len hpv2
          have flat : ∀ q ∈ ps, perFlat q := fun q hq => ⟨isName_lay (ok2 _ (by
            have : q.1 ∈ ps.map (·.1) := List.mem_map_of_mem hq
            rw [pn] at this
            exact List.mem_of_mem_take this)), valsOk_flat kn (pok q hq)⟩
          refine Or.inr ⟨.list (ps.map perD), .list [], Dp.lst (SqL.of hpv1) (pers_dp hpv2 flat), Dp.lst (SqL.of upd_same) .nil, pers_shaped flat, rfl, ?_⟩
          have none : ∀ H1, SB p (upd H' e (.lst [])) H1 → PotAt H1 p (n + 1000 - 12 * i - 2) → R .non H1 := fun H1 s1 q1 => kR _ _ ⟨Or.inl rfl, own_step I2 (hpi.new ne) s1, q1, (si.new ne).trans s1, s1 _ _ (get_new ne hl2i) l2p⟩
          walk_at "go"
          refine U.g_2 (fun cc => ?_) (fun cc => ?_)
          · have ps0 : 0 < ps.length := by
              rcases ps with _ | ⟨q, ps⟩
              · exact absurd cc (by decide)
              · exact Nat.succ_pos _
            walk_at "go"
            refine ⟨p, 4, n + 1000 - 12 * i - 1, rfl, by decide, by decide, (hpi.new ne).le (by omega), fun r' H3 r0' r1' hp3 s3 => ?_⟩
            walk_at "go"
            refine U.g_2 (fun c2 => ?_) (fun c2 => ?_)
            · walk_at "go"
              have I3 := own_step I2 (hpi.new ne) s3
              refine e_dgetS I3.d (own_p lc lk lp) ?_
              obtain ⟨pv3, hp31, hp32⟩ := I3.p
              have hpvl3 := prd_len hp32
              replace hpvl3 : pv3.length = ps.length := hpvl3
              walk_at "go"
              refine ⟨p, .ref lp, n + 1000 - 12 * i - 2, rfl, hp3.le (by omega), Or.inl ⟨lp, pv3, rfl, Or.inl (SqL.of hp31), by omega, by omega, fun H4 s4 => Or.inl (SqL.of (s4 _ _ hp31 (own_nep I3 hp3).2.2.2)), fun j y H4 hy hp4 s4 => ?_⟩⟩
              obtain ⟨q, eq, a', b', rfl, ha', hb'⟩ := prd_at hp32 hy
              have tt := hp3.ts s4
              walk_at "go"
              refine U.g_ix (Or.inr (SqT.of (tt _ _ ha'))) (v := .ref b') rfl ?_
              exact kR _ _ ⟨Or.inr ⟨b', q.2, rfl, tt _ _ hb', pok q (List.mem_of_getElem? eq)⟩, own_step I3 hp3 s4, hp4, ((si.new ne).trans s3).trans s4, s4 _ _ (s3 _ _ (get_new ne hl2i) l2p) l2p⟩
            · walk_at "go"
              exact none _ s3 (hp3.le (by omega))
          · walk_at "go"
            exact none _ (SB.refl p _) ((hpi.new ne).le (by omega))
        rintro v H3 ⟨hv, I3, hp3, s3, hl23⟩
        walk_at "go"
        refine e_dgetS I3.d (own_p lc lk lp) ?_
        obtain ⟨pv3, hp31, hp32⟩ := I3.p
        have hpvl3 := prd_len hp32
        replace hpvl3 : pv3.length = ps.length := hpvl3
        refine U.ty_lst hp31 ?_
        walk_at "go"
        have fin : ∀ (b' : Addr) (vals : List V) (H4 : Hp) (t : Addr), H4 b' = some (.tup vals) → Paired (valOk ⟨cols, ks, []⟩) cols vals → OwnX H4 o lc lk lp ⟨cols, ks, ps⟩ → PotAt H4 p (n + 1000 - 12 * (i + 1)) → SB p H H4 → H4 l2 = some (.lst (ns2.map V.str)) → H4 t = none →
            ∃ pv4, pv4.length ≤ 1000 ∧ (upd H4 t (.tup [.str ns2[i], .ref b'])) lp = some (.lst pv4) ∧ ∃ (ps' : List (Str × List V)), OwnX (upd (upd H4 t (.tup [.str ns2[i], .ref b'])) lp (.lst (pv4 ++ [.ref t]))) o lc lk lp ⟨cols, ks, ps'⟩ ∧ ps'.map (·.1) = ns2.take (i + 1) ∧ (∀ q ∈ ps', Paired (valOk ⟨cols, ks, []⟩) cols q.2) ∧ PotAt (upd (upd H4 t (.tup [.str ns2[i], .ref b'])) lp (.lst (pv4 ++ [.ref t]))) p (n + 1000 - 12 * (i + 1)) ∧ SB p H (upd (upd H4 t (.tup [.str ns2[i], .ref b'])) lp (.lst (pv4 ++ [.ref t]))) ∧ (upd (upd H4 t (.tup [.str ns2[i], .ref b'])) lp (.lst (pv4 ++ [.ref t]))) l2 = some (.lst (ns2.map V.str)) := by
          intro b' vals H4 t hb hvals I4 hp4 s4 hl24 nt
          have I5 := own_same I4 (same_new (o := .tup [.str ns2[i], .ref b']) nt)
          obtain ⟨pv5, h51, h52⟩ := I5.p
          have hl5 := prd_len h52
          replace hl5 : pv5.length = ps.length := hl5
          have pp := (own_nep I4 hp4).2.2.2
          refine ⟨pv5, by omega, h51, ps ++ [(ns2[i], vals)], own_person I5 h51 ⟨t, b', rfl, upd_same, get_new nt hb⟩ d2 d3, ?_, ?_, (hp4.new nt).put (Ne.symm pp), (s4.new nt).mut nlpH, get_ne l2lp (get_new nt hl24)⟩
          · rw [List.map_append, pn, tk]
            rfl
          · intro q hq
            rcases List.mem_append.mp hq with hq | hq
            · exact pok q hq
            · rw [List.mem_singleton] at hq
              subst hq
              exact hvals
        refine U.g_2 (fun cc => ?_) (fun cc => ?_)
        · walk_at "go"
          refine ⟨p, o, lc, lk, lp, ⟨cols, ks, ps⟩, near, n + 1000 - 12 * i - 10, rfl, I3, by show cols.length ≤ 4; omega, by show ks.length ≤ 1000; omega, hkc, z0, z1, hp3.le (by omega), fun t' vals H4 ht' hvals hp4 s4 => ?_⟩
          walk_at "go"
          refine ⟨by show 2 ≤ sizeLine; decide, fun t nt => ?_⟩
          obtain ⟨pv4, g1, g2, ps', g3, g4, g5, g6, g7, g8⟩ := fin t' vals H4 t ht' hvals (own_step I3 hp3 s4) (hp4.le (by omega)) (s3.trans s4) (s4 _ _ hl23 l2p) nt
          walk_at "go"
          refine U.g_appL g2 (by omega) ?_
          walk_at "go"
          exact ⟨ps', _, _, rfl, g3, g4, g5, g6, g7, g8⟩
        · rcases hv with rfl | ⟨b', vals, rfl, hb', hvals⟩
          · exact absurd cc (by decide)
          walk_at "go"
          refine ⟨by show 2 ≤ sizeLine; decide, fun t nt => ?_⟩
          obtain ⟨pv4, g1, g2, ps', g3, g4, g5, g6, g7, g8⟩ := fin b' vals H3 t hb' hvals I3 (hp3.le (by omega)) s3 hl23 nt
          walk_at "go"
          refine U.g_appL g2 (by omega) ?_
          walk_at "go"
          exact ⟨ps', _, _, rfl, g3, g4, g5, g6, g7, g8⟩
      · rintro σ' H' ⟨ps, v6, v10, rfl, I1, pn, pok, hpi, si, hl2i⟩
        walk_at "go"
        rw [List.length_map, List.take_of_length_le (Nat.le_refl _)] at pn
        rw [List.length_map] at hpi
        have psl : ps.length = m2 := by
          have := congrArg List.length pn
          rw [List.length_map] at this
          omega
        refine kk o lc lk lp ⟨cols, ks, ps⟩ H' noH I1 ⟨colsOk, kok, by show ps.length ≤ 60; omega, by show (ps.map (·.1)).Nodup; rw [pn]; exact nd2, fun q hq => ⟨ok2 _ ?_, pok q hq⟩⟩ (by show cols.length ≤ mc; omega) (by show ps.length ≤ mp; omega) d1 d2 d3 (hpi.le (by omega)) si
        rw [← pn]
        exact List.mem_map_of_mem hq
end
end Toy

namespace M
open PySem L2
theorem e_joinX {K : PySem.W.Frag} {H : Hp} {l : Addr} {z : Str} (ys : List Str) {R : Str → List Str → Prop} (h : SqL K H l (ys.map V.str)) (hz : (ys.map (·.length)).sum + ys.length * z.length ≤ 16777216) (q : R z ys) :
    ∃ a p, ∃ ys : List Str, V.str z = .str a ∧ [V.ref l] = [.ref p] ∧ (SqL K H p (ys.map V.str) ∨ SqT K H p (ys.map V.str)) ∧ (ys.map (·.length)).sum + ys.length * a.length ≤ 16777216 ∧ R a ys := ⟨z, l, ys, rfl, rfl, Or.inl h, hz, q⟩
theorem fm_some {α β : Type} (f : α → β) : ∀ xs : List α, xs.filterMap (fun a => some (f a)) = xs.map f
  | [] => rfl
  | a :: r => by rw [List.filterMap_cons, List.map_cons, ← fm_some f r]
theorem rng_map {α β : Type} (f : α → β) (xs : List α) : (List.range xs.length).filterMap (fun i => (xs[i]?).map f) = xs.map f := by
  have e : (fun i : Nat => (xs[i]?).map f) = fun i : Nat => (xs[i]?).bind fun a => some (f a) := by funext i; cases xs[i]? <;> rfl
  rw [e, U.range_fm, fm_some]
theorem colLine_len {c : Str × Bool} (h : isName c.1 = true) : (colLine c).length ≤ 30 := by
  have h1 := (isName_out h).2.1
  have h2 := wordOf_len c.2
  have e1 : ("column " : Str).length = 7 := by decide +kernel
  have e2 : (" " : Str).length = 1 := by decide +kernel
  unfold colLine
  rw [len_app, len_app, len_app]
  omega
theorem join_len (sep : Str) (texts : List Str) : (Txt.join sep texts).length ≤ (texts.map (·.length)).sum + texts.length * sep.length := by
  rw [show Txt.join sep texts = Str.join sep texts from StrLaws.glued_eq_join sep texts]
  exact StrLaws.join_length_le sep texts
theorem upS_len {c : Str} {ks : List Knd} (k : KOk c ks) : ∀ o ∈ ks, (upS o.up).length ≤ 12 := by
  induction k with
  | nil => intro o h; cases h
  | top => intro o h; rw [List.mem_singleton] at h; subst h; show ("none" : Str).length ≤ 12; decide +kernel
  | more k ho h hn nd h0 h1 ih =>
    intro o' h'
    rcases List.mem_append.mp h' with h' | h'
    · exact ih o' h'
    · rw [List.mem_singleton] at h'; subst h'
      exact (isName_out (KOk_name k _ ho).1).2.1
theorem kindLine_len {cs : List (Str × Bool)} {ks : List Knd} (K : KindsOk cs ks) (hc : ∀ c ∈ cs, isName c.1 = true) : ∀ k ∈ ks, ((kindWords k).map (·.length)).sum ≤ 70 ∧ (Txt.join " " (kindWords k)).length ≤ 75 := fun k hk => by
  have ok := (K.each _ (K.of k hk) rfl).1
  have mem : k ∈ ks.filter fun j => decide (j.col = k.col) := List.mem_filter.mpr ⟨hk, decide_eq_true rfl⟩
  have h1 := (isName_out (hc _ (K.of k hk))).2.1
  have h2 := (isName_out (KOk_name ok k mem).1).2.1
  have h3 := upS_len ok k mem
  have h4 := int_len (z := k.loss) (by have := (ok.loss k mem).1; omega) (ok.loss k mem).2
  have h5 : ("kind" : Str).length = 4 := by decide +kernel
  have h6 : (" " : Str).length = 1 := by decide +kernel
  have e : ((kindWords k).map (·.length)).sum = ("kind" : Str).length + (k.col.length + (k.name.length + ((upS k.up).length + ((toString k.loss : Str).length + 0)))) := rfl
  have h1 : k.col.length ≤ 12 := h1
  refine ⟨by omega, ?_⟩
  have z := join_len " " (kindWords k)
  have l : (kindWords k).length = 5 := rfl
  rw [l, h6] at z
  omega
theorem vS_len {R : Reg} {c : Str × Bool} {v : V} (hk : ∀ k ∈ R.kinds, isName k.name = true) (h : valOk R c v) : (vS v).length ≤ 30 := by
  unfold valOk at h
  split at h
  · obtain ⟨k, h1, _, rfl⟩ := h
    have := (isName_out (hk k h1)).2.1
    show k.name.length ≤ 30
    omega
  · obtain ⟨z, rfl, a, b⟩ := h
    exact int_len a b
theorem vSs_len {R : Reg} (hk : ∀ k ∈ R.kinds, isName k.name = true) : ∀ {cs : List (Str × Bool)} {vs : List V}, Paired (valOk R) cs vs → ∀ v ∈ vs, (vS v).length ≤ 30
  | _, _, .nil => fun v h => by cases h
  | _, _, .cons a r => fun v h => by
    rcases List.mem_cons.mp h with e | h
    · subst e; exact vS_len hk a
    · exact vSs_len hk r v h
theorem perLine_len {R : Reg} (ok : RegOk R) : ∀ p ∈ R.persons, ((perWords p).map (·.length)).sum ≤ 200 ∧ (perWords p).length ≤ 6 ∧ (Txt.join " " (perWords p)).length ≤ 210 := fun p hp => by
  obtain ⟨h1, h2⟩ := ok.pk p hp
  have h1 := (isName_out h1).2.1
  have l := prd_len h2
  have c4 := ok.cols.four
  have h3 := sum_le (f := fun v => (vS v).length) (m := 30) (vSs_len (fun k hk => (ok.kinds.name k hk).1) h2)
  have h5 : ("person" : Str).length = 6 := by decide +kernel
  have h6 : (" " : Str).length = 1 := by decide +kernel
  have e : ((perWords p).map (·.length)).sum = ("person" : Str).length + (p.1.length + ((p.2.map vS).map (·.length)).sum) := rfl
  have e2 : (p.2.map vS).map (·.length) = p.2.map fun v => (vS v).length := by rw [List.map_map]; rfl
  rw [e2] at e
  have l2 : (perWords p).length = p.2.length + 2 := by
    show (p.2.map vS).length + 1 + 1 = _
    rw [List.length_map]
  have z := join_len " " (perWords p)
  rw [h6] at z
  refine ⟨by omega, by omega, by omega⟩
theorem len_split {α : Type} (f : α → Bool) : ∀ xs : List α, xs.length = (xs.filter f).length + (xs.filter fun x => !f x).length
  | [] => rfl
  | a :: r => by
    have ih := len_split f r
    rw [List.filter_cons, List.filter_cons, List.length_cons]
    cases h : f a <;> simp <;> omega
theorem filter_le {α : Type} (f g : α → Bool) (xs : List α) : ((xs.filter g).filter f).length ≤ (xs.filter f).length := (List.filter_sublist.filter f).length_le
theorem kinds_len {cs : List (Str × Bool)} : ∀ {ks : List Knd}, (∀ k ∈ ks, (k.col, true) ∈ cs) → (∀ c ∈ cs, (ks.filter fun k => decide (k.col = c.1)).length ≤ 60) → ks.length ≤ 60 * cs.length := by
  induction cs with
  | nil => intro ks h _; cases ks with
    | nil => exact Nat.le_refl _
    | cons k r => exact absurd (h k List.mem_cons_self) (by simp)
  | cons c r ih =>
    intro ks h1 h2
    have a := h2 c List.mem_cons_self
    have e : ks.length = (ks.filter fun k => decide (k.col = c.1)).length + (ks.filter fun k => !decide (k.col = c.1)).length := by
      exact len_split _ ks
    have b := ih (ks := ks.filter fun k => !decide (k.col = c.1)) (fun k hk => by
      rw [List.mem_filter] at hk
      rcases List.mem_cons.mp (h1 k hk.1) with e | e
      · exact absurd hk.2 (by rw [← e]; simp)
      · exact e) (fun d hd => by
      refine Nat.le_trans ?_ (h2 d (List.mem_cons_of_mem _ hd))
      exact filter_le _ _ ks)
    rw [List.length_cons]
    omega
theorem nd_fst {α β : Type} : ∀ {xs : List (α × β)} {x y : α × β}, (xs.map (·.1)).Nodup → x ∈ xs → y ∈ xs → x.1 = y.1 → x = y
  | [], _, _, _, h, _, _ => by cases h
  | z :: r, x, y, nd, hx, hy, e => by
    rw [List.map_cons, List.nodup_cons] at nd
    rcases List.mem_cons.mp hx with hx | hx <;> rcases List.mem_cons.mp hy with hy | hy
    · rw [hx, hy]
    · exact absurd (by rw [← hx, e]; exact List.mem_map_of_mem (f := (·.1)) hy) nd.1
    · exact absurd (by rw [← hy, ← e]; exact List.mem_map_of_mem (f := (·.1)) hx) nd.1
    · exact nd_fst nd.2 hx hy e
end M

namespace Toy
open PySem L2 U M TL ZV
section
variable {P : Program} {w : World} {K : PySem.W.Frag} {mg : Str → Option Value} {base : Heap}
theorem sc_person_in : FnScope ["scales", "words", "values", "scale", "word"] ["scales", "words"] (defScope s_person_in) := ⟨rfl, rfl, rfl, by decide +kernel, rfl, by decide +kernel, by decide +kernel⟩
def sp_person_in (K : PySem.W.Frag) (CL CT : Addr) : Sp := fun vs H Q _ => ∃ (d l : Addr) (kvs : List (Key × V)) (cs : List (Str × Bool)) (ks : List Knd) (n : Str) (vals : List V), vs = [.ref d, .ref l] ∧ H d = some (.dK kvs) ∧ ScalesAt CL CT H kvs cs ks ∧ cs.length ≤ 4 ∧ H l = some (.lst (.str n :: vals.map fun v => V.str (vS v))) ∧
  Paired (fun (c : Str × Bool) v => if c.2 = true then ∃ m, v = V.str m else ∃ z : Int, v = .int z ∧ -1000000 ≤ z ∧ z ≤ 1000000) cs vals ∧ ∀ p H', Same H H' → H p = none → PerAt H' (.ref p) (n, vals) → Q (.ref p) H'
theorem ok_person_in (T : Tx K mg) : FnOk P w K mg base CX0 3 T.a_person_in T.fd_person_in ["scales", "words"] (sp_person_in K T.C_Line T.C_Tree) := by
  refine T.F_person_in.ok sc_person_in (fun vs H Q E h => ?_) (fun cdv A outer s H vs Q E hr h => ?_)
  · obtain ⟨d, l, kvs, cs, ks, n, vals, rfl, _⟩ := h
    rfl
  · obtain ⟨d, l, kvs, cs, ks, n, vals, rfl, hd, hs, hc, hl, hpv, kk⟩ := h
    have hu := hu_of hr
    have hu64 := hr.units
    have ln := prd_len hs
    have lv := prd_len hpv
    refine ⟨_, (pss_cons (ps_if (pt_cmpR (op_uNe (K := K) rfl hu64) (pe_callB (call_uLen (K := K) rfl) (by rfl) T.n_len (by decide +kernel) (pa_cons (pv 1) pa_nil)) (pe_op (op_uAdd (K := K) rfl) (pe_callB (call_uLen (K := K) rfl) (by rfl) T.n_len (by decide +kernel) (pa_cons (pv 0) pa_nil)) (pe_int)) (nomark _)) (pss_one (ps_ret (pe_non))) pss_nil)
        (pss_cons (ps_lock (ps_setLc (i := 2) rfl sc_person_in.nd rfl rfl (sw_true rfl rfl rfl (by decide +kernel)) (pi_zipV (K := K) rfl (by rfl) T.n_zip (pv 0) (pa_cons (pe_slice (sl_u (K := K) rfl) (pv 1) (po_some pe_int) po_none) pa_nil)) (blkOk_by (own := [("scale", 3), ("word", 4)]) (N := ["scales", "words", "values", "scale", "word"]) (sc := defScope s_person_in) (by decide +kernel)) (fun _ _ _ _ _ => (u_gtup (K := K) (n := 2) rfl rfl (pgs_cons (pg_name (i := 3) sc_person_in.nd rfl (Or.inl rfl)) (pgs_cons (pg_name (i := 4) sc_person_in.nd rfl (Or.inl rfl)) pgs_nil)))) (fun _ _ _ _ _ => pts_nil) (fun _ _ _ _ _ => (u_or (pe_meth (pv 3) T.cl_Line T.me_Line_value_in (ok_Line_value_in T) (hr.mono (by decide)) (b_Line_value_in T) .nil pass0 (pa_cons (pv 4) pa_nil)) (pe_meth (pv 3) T.cl_Tree T.me_Tree_value_in (ok_Tree_value_in T) (hr.mono (by decide)) (b_Tree_value_in T) .nil pass0 (pa_cons (pv 4) pa_nil))))))
        (pss_one (ps_ret (pe_tup (pa_cons (pe_ix (ix_u (K := K) rfl) (pv 1) (pe_int) (fun _ _ => rfl)) (pa_cons (pe_callTy (call_uTuple (K := K) rfl) (by rfl) T.n_tuple (by decide +kernel) (pa_cons (pv 2) pa_nil)) pa_nil))))))), ?_⟩
    walk_at "st"
    walk_at "go"
    have ll : (V.str n :: vals.map fun v => V.str (vS v)).length = kvs.length + 1 := by rw [List.length_cons, List.length_map]; omega
    refine U.g_lenL (Or.inl (SqL.of hl)) ?_
    walk_at "go"
    refine g_lenD hd ?_
    walk_at "go"
    have e : decide (V.int ((V.str n :: vals.map fun v => V.str (vS v)).length : Nat) = V.int ((kvs.length : Int) + 1)) = true := decide_eq_true (by rw [ll]; rfl)
    rw [if_pos rfl, e]
    rw [if_neg (by decide)]
    walk_at "go"
    refine g_lockS hd fun od => ?_
    walk_at "go"
    refine g_iZipV ?_
    walk_at "go"
    refine ⟨d, od, kvs, rfl, upd_same, ?_⟩
    walk_at "go"
    have nl : l ≠ d := fun z => by rw [z, hd] at hl; cases hl
    refine U.g_slL (SqL.of ((upd_ne nl).trans hl)) fun b nb => ?_
    rw [cut_1]
    have s0 : Same (upd H d (.frz od (.dK kvs))) (upd (upd H d (.frz od (.dK kvs))) b (.lst (vals.map fun v => V.str (vS v)))) := U.same_new nb
    walk_at "go"
    refine ⟨b, rfl, s0 _ _ upd_same, Or.inr ⟨vals.map fun v => V.str (vS v), SqL.of upd_same, ?_⟩⟩
    refine lcI_zipL (s0 _ _ upd_same) (SqL.of upd_same) (by rw [List.length_map]; omega) (by omega) (fun i => (vals[i]?).map id) (fun i k x y Ta H' A B ex ey s' hT kA _ => ?_) fun E H' nE s' hE => ?_
    · obtain ⟨cc, ec, _, sc⟩ := prd_at hs ex
      obtain ⟨v, ev, hv⟩ := prd_at hpv ec
      have sc' := sc.lock hd (List.mem_of_getElem? ex) (s0.trans s')
      rw [ev] at kA
      obtain rfl : y = .str (vS v) := by
        rw [List.getElem?_map, ev] at ey
        cases ey
        rfl
      walk_at "go"
      refine ⟨rfl, ?_⟩
      walk_at "go"
      unfold ScaleAt at sc'
      split at sc'
      · rename_i cb
        rw [if_pos cb] at hv
        obtain ⟨m, rfl⟩ := hv
        obtain ⟨a, dx, u, l2, rfl, t⟩ := sc'
        refine Or.inr (g_meth ?_)
        walk_at "go"
        refine ⟨a, dx, _, rfl, t.hi, lk_nil2 (by decide +kernel) (by decide +kernel), ?_⟩
        walk_at "go"
        exact ⟨.ref a, _, rfl, kA _ _ rfl (Same.refl H')⟩
      · rename_i cb
        rw [if_neg cb] at hv
        obtain ⟨z, rfl, z0, z1⟩ := hv
        obtain ⟨a, dx, rfl, t⟩ := sc'
        refine Or.inl (g_meth ?_)
        walk_at "go"
        refine ⟨a, dx, [], rfl, t, rfl, ?_⟩
        walk_at "go"
        exact ⟨.ref a, z, rfl, z0, z1, fun H4 s4 => kA _ _ rfl s4⟩
    · have ez : (List.range kvs.length).filterMap (fun i => (vals[i]?).map id) = vals := by
        rw [show kvs.length = vals.length by omega, rng_map, List.map_id]
      rw [ez] at hE
      have sAll : Same H (upd H' d (.dK kvs)) := same_unlock hd (s0.trans s')
      have nE' : E ≠ d := fun z => by rw [z, s0 _ _ upd_same] at nE; cases nE
      walk_at "go"
      refine ⟨s' _ _ (s0 _ _ upd_same), ?_⟩
      walk_at "go"
      refine U.g_ix (v := .str n) (Or.inl (SqL.of (sAll _ _ hl))) (atI_nat (j := 0) rfl) ?_
      walk_at "go"
      refine U.g_tupL (SqL.of ((upd_ne nE').trans hE)) fun q nq => ?_
      walk_at "go"
      refine ⟨by show 2 ≤ sizeLine; decide, fun p np => ?_⟩
      have sq := U.same_new (o := .tup vals) nq
      have sp := U.same_new (o := .tup [V.str n, .ref q]) np
      exact kk p _ (sAll.trans (sq.trans sp)) (none_of (sAll.trans sq) np) ⟨p, q, rfl, upd_same, sp _ _ upd_same⟩
theorem sc_kind_in : FnScope ["words", "column", "name", "up", "loss"] ["words"] (defScope s_kind_in) := ⟨rfl, rfl, rfl, by decide +kernel, rfl, by decide +kernel, by decide +kernel⟩
def sp_kind_in : Sp := fun vs H Q _ => ∃ (l : Addr) (k : Knd), vs = [.ref l] ∧ H l = some (.lst [.str k.col, .str k.name, .str (upS k.up), .str (toString k.loss : Str)]) ∧ k.up ≠ some ("none" : Str) ∧ -1000000 ≤ k.loss ∧ k.loss ≤ 1000000 ∧ ∀ p H', Same H H' → H p = none → H' p = some (.tup (kindV k)) → Q (.ref p) H'
theorem ok_kind_in (T : Tx K mg) : FnOk P w K mg base CX0 2 T.a_kind_in T.fd_kind_in ["words"] sp_kind_in := by
  refine T.F_kind_in.ok sc_kind_in (fun vs H Q E h => ?_) (fun cdv A outer s H vs Q E hr h => ?_)
  · obtain ⟨l, k, rfl, _⟩ := h
    rfl
  · obtain ⟨l, k, rfl, hl, hup, z0, z1, kk⟩ := h
    have hu := hu_of hr
    have hu64 := hr.units
    refine ⟨_, (pss_cons (ps_if (pt_cmpR (op_uNe (K := K) rfl hu64) (pe_callB (call_uLen (K := K) rfl) (by rfl) T.n_len (by decide +kernel) (pa_cons (pv 0) pa_nil)) (pe_int) (nomark _)) (pss_one (ps_ret (pe_non))) pss_nil)
        (pss_cons (ps_asg (pv 0) (u_glst (K := K) (n := 4) rfl rfl (pgs_cons (pg_name (i := 1) sc_kind_in.nd rfl (Or.inl rfl)) (pgs_cons (pg_name (i := 2) sc_kind_in.nd rfl (Or.inl rfl)) (pgs_cons (pg_name (i := 3) sc_kind_in.nd rfl (Or.inl rfl)) (pgs_cons (pg_name (i := 4) sc_kind_in.nd rfl (Or.inl rfl)) pgs_nil))))))
        (pss_one (ps_ret (pe_tup (pa_cons (pv 1) (pa_cons (pv 2) (pa_cons (pe_ifExp (pt_cmpR (op_uEq (K := K) rfl hu64) (pv 3) (pe_str) (nomark _)) (pe_non) (pv 3)) (pa_cons (pe_call (ok_integer_in T) (hr.mono (by decide)) rfl T.m_integer_in T.F_integer_in.kp (b_integer_in T) .nil pass0 (pa_cons (pv 4) pa_nil)) pa_nil))))))))), ?_⟩
    walk_at "st"
    walk_at "go"
    refine U.g_lenL (Or.inl (SqL.of hl)) ?_
    walk_at "go"
    have e4 : decide (V.int (([.str k.col, .str k.name, .str (upS k.up), .str (toString k.loss : Str)] : List V).length : Nat) = V.int 4) = true := decide_eq_true rfl
    rw [if_pos rfl, e4]
    rw [if_neg (by decide)]
    walk_at "go"
    refine U.g_unl (SqL.of hl) rfl ?_
    walk_at "go"
    rw [if_neg (show ¬ (false = true) by decide)]
    have key : ∀ R : VK, R (upV k.up) H → (if decide (V.str (upS k.up) = V.str (Str.ofString "none")) = true then tC V.non [some (V.ref l), some (V.str k.col), some (V.str k.name), some (V.str (upS k.up)), some (V.str (Str.ofString (toString k.loss)))] H R
        else tVar 3 [some (V.ref l), some (V.str k.col), some (V.str k.name), some (V.str (upS k.up)), some (V.str (Str.ofString (toString k.loss)))] H R) := by
      intro R kR
      cases e : k.up with
      | none =>
        rw [if_pos (decide_eq_true (by rfl))]
        rw [e] at kR
        exact kR
      | some v =>
        have nv : v ≠ ("none" : Str) := fun z => hup (by rw [e, z])
        rw [if_neg (show ¬ (decide (V.str (upS (some v)) = V.str (Str.ofString "none")) = true) from fun z => nv (V.str.inj (of_decide_eq_true z)))]
        rw [e] at kR
        walk_at "go"
        exact kR
    refine key _ ?_
    walk_at "go"
    refine ⟨k.loss, rfl, z0, z1, fun H1 s1 => ?_⟩
    walk_at "go"
    refine ⟨by show 4 ≤ sizeLine; decide, fun p np => ?_⟩
    exact kk p _ (s1.trans (U.same_new np)) (none_of s1 np) upd_same
end
end Toy

namespace Toy
open PySem L2 U M TL ZV
section
variable {P : Program} {w : World} {K : PySem.W.Frag} {mg : Str → Option Value} {base : Heap}
theorem sc_Tree___init__ : FnScope ["self"] ["self"] (defScope s_Tree___init__) := ⟨rfl, rfl, rfl, by decide +kernel, rfl, by decide +kernel, by decide +kernel⟩
def sp_Tree_init (CT : Addr) : Sp := fun vs H Q _ => ∃ (a dx : Addr), vs = [.ref a] ∧ H a = some (.ins CT dx []) ∧ ∀ (u l : Addr) (H' : Hp), H u = none → H l = none → TreeX CT H' a dx u l [] → (∀ c o, c ≠ a → H c = some o → H' c = some o) → Q .non H'
theorem ok_Tree___init__ (T : Tx K mg) : FnOk P w K mg base CX0 1 T.a_Tree___init__ T.fd_Tree___init__ ["self"] (sp_Tree_init T.C_Tree) := by
  refine T.F_Tree___init__.ok sc_Tree___init__ (fun vs H Q E h => ?_) (fun cdv A outer s H vs Q E hr h => ?_)
  · obtain ⟨a, dx, rfl, _⟩ := h
    rfl
  · obtain ⟨a, dx, rfl, ha, kk⟩ := h
    have hu := hu_of hr
    have hu64 := hr.units
    refine ⟨_, (pss_cons (ps_fld (pv 0) (pe_dnewK) rfl)
        (pss_one (ps_fld (pv 0) (pe_dnewK) rfl))), ?_⟩
    walk_at "st"
    refine g_sfld ?_
    walk_at "go"
    intro u nu
    walk_at "go"
    have au := ne_of_none ha nu
    refine ⟨a, T.C_Tree, dx, [], rfl, (upd_ne au).trans ha, T.cl_Tree, T.na_Tree_ups, by decide, ?_⟩
    refine g_sfld ?_
    walk_at "go"
    intro l nl
    have la : l ≠ a := fun z => by rw [z, upd_same] at nl; cases nl
    have lu : l ≠ u := fun z => by rw [z, upd_ne (Ne.symm au), upd_same] at nl; cases nl
    walk_at "go"
    refine ⟨a, T.C_Tree, dx, _, rfl, (upd_ne (Ne.symm la)).trans upd_same, T.cl_Tree, T.na_Tree_losses, (by show 1 < 1000; decide), ?_⟩
    refine kk u l _ nu (by rw [upd_ne la, upd_ne lu] at nl; exact nl) ⟨?_, ⟨[], ?_, .nil⟩, ?_, lu⟩ fun c o hc e => ?_
    · rw [upd_same]
      have n : ¬ (("ups" : Str) = "losses") := by decide +kernel
      have e : putF ("losses" : Str) (.ref l) [(("ups" : Str), V.ref u)] = [(("ups" : Str), V.ref u), (("losses" : Str), V.ref l)] := by
        show (if ("ups" : Str) = "losses" then _ else _) = _
        rw [if_neg n]
        rfl
      exact congrArg (fun f => some (HO.ins T.C_Tree dx f)) e
    · rw [upd_ne (Ne.symm au), upd_ne (Ne.symm lu), upd_ne (Ne.symm au), upd_same]
    · rw [upd_ne la, upd_same]
      rfl
    · have cu := ne_of_none e nu
      have cl : c ≠ l := fun z => by rw [← z, upd_ne hc, upd_ne cu, e] at nl; cases nl
      rw [upd_ne hc, upd_ne cl, upd_ne hc, upd_ne cu]
      exact e
theorem sc_Tree__can_be_up : FnScope ["self", "up", "loss"] ["self", "up", "loss"] (defScope s_Tree__can_be_up) := ⟨rfl, rfl, rfl, by decide +kernel, rfl, by decide +kernel, by decide +kernel⟩
def sp_Tree_can (K : PySem.W.Frag) (CT : Addr) : Sp := fun vs H Q _ => ∃ (a dx u l : Addr) (ks : List Knd) (x : V) (z : Int), vs = [.ref a, x, .int z] ∧ TreeX CT H a dx u l ks ∧ plainV x = true ∧ Q (.bl (canUp ks x z)) H
theorem ok_Tree__can_be_up (T : Tx K mg) : FnOk P w K mg base CX0 4 T.a_Tree__can_be_up T.fd_Tree__can_be_up ["self", "up", "loss"] (sp_Tree_can K T.C_Tree) := by
  refine T.F_Tree__can_be_up.ok sc_Tree__can_be_up (fun vs H Q E h => ?_) (fun cdv A outer s H vs Q E hr h => ?_)
  · obtain ⟨a, dx, u, l, ks, x, z, rfl, _⟩ := h
    rfl
  · obtain ⟨a, dx, u, l, ks, x, z, rfl, tr, px, kk⟩ := h
    have hu := hu_of hr
    have hu64 := hr.units
    refine ⟨_, (pss_cons (ps_if (pt_not (pt_truth (u_fld (K := K) rfl (pv 0) rfl) (by intro _; rfl))) (pss_one (ps_ret (pe_cmpR op_isN (pv 1) pe_non (nomark _)))) pss_nil)
        (pss_one (ps_ret (pe_and (pe_meth (pv 0) T.cl_Tree T.me_Tree_is_value (ok_Tree_is_value T) (hr.mono (by decide)) (b_Tree_is_value T) .nil pass0 (pa_cons (pv 1) pa_nil)) (pe_one (pe_cmpR op_uLe (pv 2) (pe_dget hu (u_fld (K := K) rfl (pv 0) rfl) (pv 1) (fun _ _ => rfl)) (nomark _))))))), ?_⟩
    walk_at "st"
    walk_at "go"
    refine g_fld ?_
    walk_at "go"
    refine tr.ups T.cl_Tree T.na_Tree_ups ?_
    obtain ⟨kvs, hk, hl, _⟩ := tr.looks ""
    refine ⟨!kvs.isEmpty, Or.inr (Or.inr ⟨kvs, hk, rfl⟩), ?_⟩
    cases ks with
    | nil =>
      have e : kvs = [] := List.length_eq_zero_iff.mp hl
      subst e
      show (if true = true then _ else _)
      rw [if_pos rfl]
      walk_at "go"
      exact kk
    | cons k r =>
      obtain ⟨p, q, rfl⟩ : ∃ p q, kvs = p :: q := by
        cases kvs with
        | nil => cases hl
        | cons p q => exact ⟨p, q, rfl⟩
      show (if false = true then _ else _)
      rw [if_neg (by decide)]
      walk_at "go"
      refine g_meth ?_
      walk_at "go"
      refine ⟨a, dx, _, rfl, tr.hi, lk_nil2 (by decide +kernel) (by decide +kernel), ?_⟩
      walk_at "go"
      refine e_spTree tr px ?_
      refine ⟨_, rfl, ?_⟩
      cases c : isKind (k :: r) x with
      | false =>
        rw [if_neg (by decide)]
        have e : canUp (k :: r) x z = false := by
          unfold canUp
          rw [c]
          rfl
        rw [← e]
        exact kk
      | true =>
        rw [if_pos rfl]
        obtain ⟨n, rfl, hn⟩ : ∃ n, x = .str n ∧ n ∈ (k :: r).map (·.name) := by
          cases x with
          | str n => exact ⟨n, rfl, of_decide_eq_true c⟩
          | _ => cases c
        walk_at "go"
        refine g_fld ?_
        walk_at "go"
        refine tr.losses T.cl_Tree T.na_Tree_losses ?_
        walk_at "go"
        refine e_dgetS tr.hl ((val_loss n _).1 hn) ?_
        walk_at "go"
        have e : canUp (k :: r) (.str n) z = decide (z ≤ lossOf (k :: r) n) := by
          unfold canUp
          rw [c]
          rfl
        rw [← e]
        exact kk
theorem sc_Tree_add_kind : FnScope ["self", "name", "up", "loss"] ["self", "name", "up", "loss"] (defScope s_Tree_add_kind) := ⟨rfl, rfl, rfl, by decide +kernel, rfl, by decide +kernel, by decide +kernel⟩
/-- what can be the next kind -/
def intOf : V → Int
  | .int z => z
  | _ => 0
def kindCan (ks : List Knd) (n x z : V) : Bool := isNameV n && (!decide (n = .str "none") && (!isKind ks n && (decide (ks.length < 60) && (isIntV z && (decide (0 ≤ intOf z) && (decide (intOf z ≤ 1000000) && canUp ks x (intOf z)))))))
def upO : V → Option Str
  | .str s => some s
  | _ => none
def sp_Tree_add (K : PySem.W.Frag) (CT : Addr) : Sp := fun vs H Q _ => ∃ (a dx u l : Addr) (ks : List Knd) (n x z : V), vs = [.ref a, n, x, z] ∧ TreeX CT H a dx u l ks ∧ plainV n = true ∧ plainV x = true ∧ plainV z = true ∧ ks.length ≤ 60 ∧
  (kindCan ks n x z = false → ∀ H', Same H H' → Q (.bl false) H') ∧
  (∀ m i, n = .str m → z = .int i → kindCan ks n x z = true → ∀ H', (∀ c, TreeX CT H' a dx u l (ks ++ [⟨c, m, upO x, i⟩])) → (∀ c o, c ≠ u → c ≠ l → H c = some o → H' c = some o) → Q (.bl true) H')
theorem ok_Tree_add_kind (T : Tx K mg) : FnOk P w K mg base CX0 5 T.a_Tree_add_kind T.fd_Tree_add_kind ["self", "name", "up", "loss"] (sp_Tree_add K T.C_Tree) := by
  refine T.F_Tree_add_kind.ok sc_Tree_add_kind (fun vs H Q E h => ?_) (fun cdv A outer s H vs Q E hr h => ?_)
  · obtain ⟨a, dx, u, l, ks, n, x, z, rfl, _⟩ := h
    rfl
  · obtain ⟨a, dx, u, l, ks, n, x, z, rfl, tr, pn, px, pz, hl, k0, k1⟩ := h
    have hu := hu_of hr
    have hu64 := hr.units
    refine ⟨_, (pss_cons (ps_if (PW.pt (pw_or (pt_not (pt_val (pe_call (ok_is_name T) (hr.mono (by decide)) rfl T.m_is_name T.F_is_name.kp (b_is_name T) .nil pass0 (pa_cons (pv 1) pa_nil)))) (pw_or (pt_cmpR (op_uEq (K := K) rfl hu64) (pv 1) (pe_str) (nomark _)) (pw_or (pt_cmp (pc_din hu (pv 1) (u_fld (K := K) rfl (pv 0) rfl))) (pw_or1 (pt_cmpR op_uGe (pe_callB (call_uLen (K := K) rfl) (by rfl) T.n_len (by decide +kernel) (pa_cons (u_fld (K := K) rfl (pv 0) rfl) pa_nil)) (u_constI (by rfl) T.m_MOST_KINDS) (nomark _))))))) (pss_one (ps_ret (pe_bl))) pss_nil)
        (pss_cons (ps_if (PW.pt (pw_or (pt_not (pt_val (pe_call (ok_is_integer T) (hr.mono (by decide)) rfl T.m_is_integer T.F_is_integer.kp (b_is_integer T) .nil pass0 (pa_cons (pv 3) pa_nil)))) (pw_or (pt_not (pt_chain op_uLe op_uLe (pe_int) (pv 3) (u_constI (by rfl) T.m_MOST_LOSS))) (pw_or1 (pt_not (pt_val (pe_meth (pv 0) T.cl_Tree T.me_Tree__can_be_up (ok_Tree__can_be_up T) (hr.mono (by decide)) (b_Tree__can_be_up T) .nil pass0 (pa_cons (pv 2) (pa_cons (pv 3) pa_nil))))))))) (pss_one (ps_ret (pe_bl))) pss_nil)
        (pss_cons (ps_dput hu (u_fld (K := K) rfl (pv 0) rfl) (pv 1) (pe_ifExp (pt_cmpR op_isN (pv 2) pe_non (nomark _)) (pe_tup (pa_cons (pv 1) pa_nil)) (pe_op (op_uAdd (K := K) rfl) (pe_tup (pa_cons (pv 1) pa_nil)) (pe_dget hu (u_fld (K := K) rfl (pv 0) rfl) (pv 2) (fun _ _ => rfl)))) rfl)
        (pss_cons (ps_dput hu (u_fld (K := K) rfl (pv 0) rfl) (pv 1) (pv 3) rfl)
        (pss_one (ps_ret (pe_bl))))))), ?_⟩
    walk_at "st"
    walk_at "go"
    refine e_spName pn fun H1 s1 => ⟨_, rfl, ?_⟩
    have tr1 := tr.mono s1
    cases c1 : isNameV n with
    | false =>
      walk_at "go"
      exact k0 (by unfold kindCan; rw [c1]; rfl) H1 s1
    | true =>
    obtain ⟨m, rfl, c1'⟩ := isNameV_out c1
    walk_at "go"
    rw [if_neg (show ¬ (false = true) by decide)]
    cases c2 : decide (V.str m = V.str (Str.ofString "none")) with
    | true =>
      rw [if_pos rfl]
      walk_at "go"
      exact k0 (by unfold kindCan; rw [c1, show decide (V.str m = V.str "none") = true from c2]; rfl) H1 s1
    | false =>
    rw [if_neg (show ¬ (false = true) by decide)]
    walk_at "go"
    refine g_fld ?_
    walk_at "go"
    refine tr1.ups T.cl_Tree T.na_Tree_ups ?_
    obtain ⟨kvs, hk, hkl, hks, hkv⟩ := tr1.looks m
    refine e_dinS hk ?_
    rw [hks]
    cases c3 : decide (m ∈ ks.map (·.name)) with
    | true =>
      walk_at "go"
      exact k0 (by unfold kindCan; rw [c1, show decide (V.str m = V.str "none") = false from c2, show isKind ks (V.str m) = true from c3]; rfl) H1 s1
    | false =>
    walk_at "go"
    refine g_fld ?_
    walk_at "go"
    refine tr1.ups T.cl_Tree T.na_Tree_ups ?_
    walk_at "go"
    refine g_lenD hk ?_
    walk_at "go"
    have base3 : kindCan ks (.str m) x z = (decide (ks.length < 60) && (isIntV z && (decide (0 ≤ intOf z) && (decide (intOf z ≤ 1000000) && canUp ks x (intOf z))))) := by
      unfold kindCan
      rw [c1, show decide (V.str m = V.str "none") = false from c2, show isKind ks (V.str m) = false from c3]
      rfl
    refine U.g_2 (fun c4 => ?_) (fun c4 => ?_)
    · have c4 := of_decide_eq_true c4
      walk_at "go"
      exact k0 (by rw [base3, decide_eq_false (by omega)]; rfl) H1 s1
    have c4 := of_decide_eq_false c4
    walk_at "go"
    refine e_spInt pz ⟨_, rfl, ?_⟩
    cases c5 : isIntV z with
    | false =>
      walk_at "go"
      exact k0 (by rw [base3, c5, Bool.false_and, Bool.and_false]) H1 s1
    | true =>
    obtain ⟨i, rfl⟩ : ∃ i, z = .int i := by cases z <;> first | exact ⟨_, rfl⟩ | cases c5
    walk_at "go"
    have base4 : kindCan ks (.str m) x (.int i) = (decide (0 ≤ i) && (decide (i ≤ 1000000) && canUp ks x i)) := by
      rw [base3, decide_eq_true (show ks.length < 60 by omega)]
      rfl
    by_cases c6 : 0 ≤ i
    case neg =>
      rw [if_neg (by simpa using c6)]
      walk_at "go"
      exact k0 (by rw [base4, decide_eq_false c6]; rfl) H1 s1
    rw [if_pos (decide_eq_true c6)]
    walk_at "go"
    refine U.g_2 (fun c7 => ?_) (fun c7 => ?_)
    · have c7 : ¬ (i ≤ 1000000) := of_decide_eq_false (by simpa using c7)
      walk_at "go"
      exact k0 (by rw [base4, decide_eq_false c7, Bool.false_and, Bool.and_false]) H1 s1
    have c7 : i ≤ 1000000 := of_decide_eq_true (by simpa using c7)
    walk_at "go"
    refine g_meth ?_
    walk_at "go"
    refine ⟨a, dx, _, rfl, tr1.hi, lk_nil2 (by decide +kernel) (by decide +kernel), ?_⟩
    walk_at "go"
    refine ⟨a, dx, u, l, ks, x, i, rfl, tr1, px, ?_⟩
    refine ⟨_, rfl, ?_⟩
    cases c8 : canUp ks x i with
    | false =>
      walk_at "go"
      exact k0 (by rw [base4, c8, Bool.and_false, Bool.and_false]) H1 s1
    | true =>
    have can : kindCan ks (.str m) x (.int i) = true := by rw [base4, decide_eq_true c6, decide_eq_true c7, c8]; rfl
    walk_at "go"
    have key : ∀ R : VK, (∀ p H2, Same H1 H2 → H2 p = some (.tup ((m :: match upO x with | none => [] | some v => wayOf (ways ks) v).map V.str)) → R (.ref p) H2) →
        (if decide (x = V.non) = true then tTup (tCons (tVar 1) tNil) [some (V.ref a), some (V.str m), some x, some (V.int i)] H1 R
        else tOp (uAdd K) (tTup (tCons (tVar 1) tNil)) (tDGet (tFld K (tVar 0) (Str.ofString "ups")) (tVar 2)) [some (V.ref a), some (V.str m), some x, some (V.int i)] H1 R) := by
      intro R kR
      refine U.g_2 (fun c => ?_) (fun c => ?_)
      · have c := of_decide_eq_true c
        subst c
        walk_at "go"
        refine ⟨by show 1 ≤ sizeLine; decide, fun p np => kR p _ (U.same_new np) ?_⟩
        rw [upd_same]
        rfl
      · have c := of_decide_eq_false c
        walk_at "go"
        obtain ⟨v, rfl, hv⟩ : ∃ v, x = .str v ∧ v ∈ ks.map (·.name) := by
          unfold canUp at c8
          split at c8
          · exact absurd (of_decide_eq_true c8) c
          · rw [Bool.and_eq_true] at c8
            cases x with
            | str v => exact ⟨v, rfl, of_decide_eq_true c8.1⟩
            | _ => cases c8.1
        refine ⟨by show 1 ≤ sizeLine; decide, fun p np => ?_⟩
        have trp := tr1.mono (U.same_new (o := .tup [V.str m]) np)
        walk_at "go"
        refine g_fld ?_
        walk_at "go"
        refine trp.ups T.cl_Tree T.na_Tree_ups ?_
        walk_at "go"
        obtain ⟨kv3, hk3, _, _, hv3⟩ := trp.looks v
        obtain ⟨wv, e1, q, rfl, hq⟩ := hv3 hv
        refine e_dgetS hk3 e1 ?_
        have wl := wayOf_len ks v
        have big : (1000 : Nat) ≤ sizeLine := by decide
        refine Or.inr ⟨p, q, [.str m], _, rfl, rfl, SqT.of upd_same, SqT.of hq, by simp, ?_, fun e => ?_, fun e r nr => ?_⟩
        · rw [List.length_map, List.length_singleton]; omega
        · refine kR p _ (U.same_new np) ?_
          rw [upd_same]
          have e : (wayOf (ways ks) v).map V.str = [] := e
          show some (HO.tup [V.str m]) = some (HO.tup (V.str m :: (wayOf (ways ks) v).map V.str))
          rw [e]
        · refine kR r _ ((U.same_new np).trans (U.same_new nr)) ?_
          rw [upd_same]
          rfl
    refine key _ fun p H2 s2 hp => ?_
    have tr2 := tr1.mono s2
    refine g_fld ?_
    walk_at "go"
    refine tr2.ups T.cl_Tree T.na_Tree_ups ?_
    walk_at "go"
    obtain ⟨kvs2, hk2, pr2⟩ := tr2.hu
    have nm : m ∉ ks.map (·.name) := of_decide_eq_false c3
    have nv : valV kvs2 (Sum.inr m) = none := by
      rcases val_paired (n := m) pr2 with ⟨_, h⟩ | ⟨h, _⟩
      · exact h
      · rw [ways_names] at h; exact absurd h nm
    have l2 : kvs2.length = ks.length := by rw [prd_len pr2, ways_len]
    refine e_dputS hk2 (by omega) ?_
    rw [putK_new _ nv]
    walk_at "go"
    have au : a ≠ u := fun z => by have := tr2.hi; rw [z, hk2] at this; cases this
    have al : a ≠ l := fun z => by have := tr2.hi; rw [z, tr2.hl] at this; cases this
    refine g_fld ?_
    walk_at "go"
    refine ⟨a, T.C_Tree, dx, _, _, rfl, (upd_ne au).trans tr2.hi, T.cl_Tree, T.na_Tree_losses, (lk_nxt (by decide +kernel)).trans lk_fst, ?_⟩
    walk_at "go"
    refine e_dputS ((upd_ne tr2.hn).trans tr2.hl) (by unfold lossD; rw [List.length_map]; omega) ?_
    rw [putK_new _ ((val_loss m ks).2 nm)]
    walk_at "go"
    have ts : TS H2 (upd H2 u (.dK (kvs2 ++ [(Sum.inr m, V.ref p)]))) := TS.dK hk2
    have ts2 := ts.trans (TS.dK (o := .dK (lossD ks ++ [(Sum.inr m, V.int i)])) ((upd_ne tr2.hn).trans tr2.hl))
    refine k1 m i rfl rfl can _ (fun c => ⟨?_, ⟨kvs2 ++ [(Sum.inr m, V.ref p)], ?_, ?_⟩, ?_, tr2.hn⟩) fun c o cu cl e => ?_
    · rw [upd_ne al, upd_ne au]; exact tr2.hi
    · rw [upd_ne (Ne.symm tr2.hn), upd_same]
    · rw [ways_snoc]
      exact prd_snoc (prd_mono (fun _ _ => WayAt.mono ts2) pr2) ⟨rfl, p, rfl, ts2 _ _ hp⟩
    · rw [upd_same]
      unfold lossD
      rw [List.map_append]
      rfl
    · rw [upd_ne cl, upd_ne cu]
      exact s2 _ _ (s1 _ _ e)
end
end Toy
namespace Toy
open PySem L2 U M TL ZV
section
variable {P : Program} {w : World} {K : PySem.W.Frag} {mg : Str → Option Value} {base : Heap}
theorem sc_values_stand : FnScope ["scales", "values", "scale", "value"] ["scales", "values"] (defScope s_values_stand) := ⟨rfl, rfl, rfl, by decide +kernel, rfl, by decide +kernel, by decide +kernel⟩
def sp_values_stand (K : PySem.W.Frag) (CL CT : Addr) : Sp := fun vs H Q _ => ∃ (d b : Addr) (kvs : List (Key × V)) (cs : List (Str × Bool)) (ks : List Knd) (vals : List V), vs = [.ref d, .ref b] ∧ H d = some (.dK kvs) ∧ ScalesAt CL CT H kvs cs ks ∧ cs.length ≤ 4 ∧ H b = some (.tup vals) ∧ vals.all plainV = true ∧ ∀ H', Same H H' → Q (.bl (valsStand cs ks vals)) H'
theorem ok_values_stand (T : Tx K mg) : FnOk P w K mg base CX0 4 T.a_values_stand T.fd_values_stand ["scales", "values"] (sp_values_stand K T.C_Line T.C_Tree) := by
  refine T.F_values_stand.ok sc_values_stand (fun vs H Q E h => ?_) (fun cdv A outer s H vs Q E hr h => ?_)
  · obtain ⟨d, b, kvs, cs, ks, vals, rfl, _⟩ := h
    rfl
  · obtain ⟨d, b, kvs, cs, ks, vals, rfl, hd, hs, hc, hb, hv, kk⟩ := h
    have hu := hu_of hr
    have hu64 := hr.units
    have ln := prd_len hs
    refine ⟨_, (pss_cons (ps_if (pt_not (pt_val (pe_call (ok_is_tuple_of T) (hr.mono (by decide)) rfl T.m_is_tuple_of T.F_is_tuple_of.kp (b_is_tuple_of T) .nil pass0 (pa_cons (pv 1) (pa_cons (pe_callB (call_uLen (K := K) rfl) (by rfl) T.n_len (by decide +kernel) (pa_cons (pv 0) pa_nil)) pa_nil))))) (pss_one (ps_ret (pe_bl))) pss_nil)
        (pss_one (ps_ret (pe_callB (call_uAll (K := K) rfl rfl) (by rfl) T.n_all (by decide +kernel) (pa_cons (pe_lock (pe_lc rfl sc_values_stand.nd (pi_zipV (K := K) rfl (by rfl) T.n_zip (pv 0) (pa_cons (pv 1) pa_nil)) (blkOk_by (own := [("scale", 2), ("value", 3)]) (N := ["scales", "values", "scale", "value"]) (sc := defScope s_values_stand) (by decide +kernel)) (fun _ _ _ _ _ => (u_gtup (K := K) (n := 2) rfl rfl (pgs_cons (pg_name (i := 2) sc_values_stand.nd rfl (Or.inl rfl)) (pgs_cons (pg_name (i := 3) sc_values_stand.nd rfl (Or.inl rfl)) pgs_nil)))) (fun _ _ _ _ _ => pts_nil) (fun _ _ _ _ _ => (u_or (pe_meth (pv 2) T.cl_Line T.me_Line_is_value (ok_Line_is_value T) (hr.mono (by decide)) (b_Line_is_value T) .nil pass0 (pa_cons (pv 3) pa_nil)) (pe_meth (pv 2) T.cl_Tree T.me_Tree_is_value (ok_Tree_is_value T) (hr.mono (by decide)) (b_Tree_is_value T) .nil pass0 (pa_cons (pv 3) pa_nil)))))) pa_nil))))), ?_⟩
    walk_at "st"
    walk_at "go"
    refine g_lenD hd ?_
    walk_at "go"
    refine ⟨.ref b, kvs.length, rfl, Or.inl ⟨b, vals, rfl, hb, ?_⟩⟩
    by_cases c : vals.length = cs.length
    · have c' : (vals.length : Int) = kvs.length := by omega
      rw [decide_eq_true c']
      walk_at "go"
      refine g_lockE hd fun od => ?_
      walk_at "go"
      refine g_iZipV ?_
      walk_at "go"
      have nb : b ≠ d := fun e => by rw [e, hd] at hb; cases hb
      have hb2 : upd H d (.frz od (.dK kvs)) b = some (.tup vals) := (upd_ne nb).trans hb
      refine ⟨d, od, kvs, rfl, upd_same, ?_⟩
      walk_at "go"
      refine ⟨b, rfl, upd_same, Or.inl ⟨vals, SqT.of hb2, ?_⟩⟩
      refine lcI_zipT upd_same (fun H' s' => SqT.of (s' _ _ hb2)) (by omega) (by omega) (fun i => ((cs.zip vals)[i]?).map fun p => V.bl (isVal p.1 (ksOf ks p.1.1) p.2)) (fun i k x y Ta H' A B ex ey s' hT kA _ => ?_) fun E H' nE s' hE => ?_
      · obtain ⟨cc, ec, _, sc⟩ := prd_at hs ex
        have pv : plainV y = true := List.all_eq_true.mp hv y (List.mem_of_getElem? ey)
        have ez : (cs.zip vals)[i]? = some (cc, y) := List.getElem?_zip_eq_some.mpr ⟨ec, ey⟩
        rw [ez] at kA
        have sc' := sc.lock hd (List.mem_of_getElem? ex) s'
        walk_at "go"
        refine ⟨rfl, ?_⟩
        walk_at "go"
        unfold ScaleAt at sc'
        split at sc'
        · rename_i cb
          obtain ⟨a, dx, u, l, rfl, t⟩ := sc'
          refine Or.inr (g_meth ?_)
          walk_at "go"
          refine ⟨a, dx, _, rfl, t.hi, lk_nil2 (by decide +kernel) (by decide +kernel), ?_⟩
          walk_at "go"
          refine ⟨a, dx, u, l, _, y, rfl, t, e_isval_tree pv ?_⟩
          have e : isVal cc (ksOf ks cc.1) y = isKind (ksOf ks cc.1) y := by unfold isVal; rw [if_pos cb]
          rw [← e]
          exact kA _ _ rfl (Same.refl H')
        · rename_i cb
          obtain ⟨a, dx, rfl, t⟩ := sc'
          refine Or.inl (g_meth ?_)
          walk_at "go"
          refine ⟨a, dx, [], rfl, t, rfl, ?_⟩
          walk_at "go"
          refine ⟨.ref a, y, rfl, e_isval_line pv ?_⟩
          have e : isVal cc (ksOf ks cc.1) y = intIn (-1000000) 1000000 y := by unfold isVal; rw [if_neg cb]
          rw [← e]
          exact kA _ _ rfl (Same.refl H')
      · refine ⟨s' _ _ upd_same, ?_⟩
        walk_at "go"
        have nE' : E ≠ d := fun z => by rw [z, upd_same] at nE; cases nE
        have ez : (List.range kvs.length).filterMap (fun i => ((cs.zip vals)[i]?).map fun p => V.bl (isVal p.1 (ksOf ks p.1.1) p.2)) = ((cs.zip vals).map fun p => isVal p.1 (ksOf ks p.1.1) p.2).map V.bl := by
          rw [show kvs.length = (cs.zip vals).length by rw [List.length_zip]; omega, rng_map, List.map_map]
          rfl
        rw [ez] at hE
        refine U.g_allB (SqL.of ((upd_ne nE').trans hE)) ?_
        have e : ((cs.zip vals).map fun p => isVal p.1 (ksOf ks p.1.1) p.2).all id = valsStand cs ks vals := by
          unfold valsStand
          rw [decide_eq_true c, List.all_map]
          rfl
        rw [e]
        exact kk _ (same_unlock hd s')
    · have c' : ¬ ((vals.length : Int) = kvs.length) := by omega
      rw [decide_eq_false c']
      walk_at "go"
      have e : valsStand cs ks vals = false := by unfold valsStand; rw [decide_eq_false c]; rfl
      rw [← e]
      exact kk H (Same.refl H)
end
end Toy

namespace Toy
open PySem L2 U M TL ZV
section
variable {P : Program} {w : World} {K : PySem.W.Frag} {mg : Str → Option Value} {base : Heap}
theorem sc_Draft___init__ : FnScope ["self"] ["self"] (defScope s_Draft___init__) := ⟨rfl, rfl, rfl, by decide +kernel, rfl, by decide +kernel, by decide +kernel⟩
def sp_Draft_init (CL CT CD : Addr) : Sp := fun vs H Q _ => ∃ (a dx : Addr), vs = [.ref a] ∧ H a = some (.ins CD dx []) ∧ ∀ (lc lk lp ds dn : Addr) (H' : Hp), DraftX CL CT CD H' a dx lc lk lp ds dn [] [] [] → (∀ c o, c ≠ a → H c = some o → H' c = some o) → (∀ c ∈ [lc, lk, lp, ds, dn], H c = none) → Q .non H'
theorem ok_Draft___init__ (T : Tx K mg) : FnOk P w K mg base CX0 1 T.a_Draft___init__ T.fd_Draft___init__ ["self"] (sp_Draft_init T.C_Line T.C_Tree T.C_Draft) := by
  refine T.F_Draft___init__.ok sc_Draft___init__ (fun vs H Q E h => ?_) (fun cdv A outer s H vs Q E hr h => ?_)
  · obtain ⟨a, dx, rfl, _⟩ := h
    rfl
  · obtain ⟨a, dx, rfl, ha, kk⟩ := h
    have hu := hu_of hr
    have hu64 := hr.units
    refine ⟨_, (pss_cons (ps_fld (pv 0) (pe_lst pa_nil) rfl)
        (pss_cons (ps_fld (pv 0) (pe_lst pa_nil) rfl)
        (pss_cons (ps_fld (pv 0) (pe_lst pa_nil) rfl)
        (pss_cons (ps_fld (pv 0) (pe_dnewK) rfl)
        (pss_one (ps_fld (pv 0) (pe_dnewK) rfl)))))), ?_⟩
    walk_at "st"
    walk_at "go"
    have none_keep : ∀ {H H' : Hp} {c : Addr}, (∀ b o, b ≠ a → H b = some o → H' b = some o) → c ≠ a → H' c = none → H c = none := fun {H H' c} k hc n => by
      cases e : H c with
      | none => rfl
      | some o => rw [k c o hc e] at n; cases n
    refine g_newL rfl ha T.cl_Draft T.na_Draft_columns (by decide) fun lc H1 n1 l1 a1 k1 => ?_
    walk_at "go"
    refine g_newL rfl a1 T.cl_Draft T.na_Draft_kinds (by show 1 < 1000; decide) fun lk H2 n2 l2 a2 k2 => ?_
    have e2 : putF ("kinds" : Str) (.ref lk) (putF ("columns" : Str) (.ref lc) []) = ([("columns", .ref lc), ("kinds", .ref lk)] : List (Str × V)) := putF_skip (by decide +kernel)
    rw [e2] at a2
    walk_at "go"
    refine g_newL rfl a2 T.cl_Draft T.na_Draft_persons (by show 2 < 1000; decide) fun lp H3 n3 l3 a3 k3 => ?_
    have e3 : putF ("persons" : Str) (.ref lp) ([(("columns" : Str), .ref lc), ("kinds", .ref lk)] : List (Str × V)) = ([("columns", .ref lc), ("kinds", .ref lk), ("persons", .ref lp)] : List (Str × V)) := by rw [putF_skip (by decide +kernel), putF_skip (by decide +kernel)]; rfl
    rw [e3] at a3
    walk_at "go"
    refine g_newD rfl a3 T.cl_Draft T.na_Draft_scales (by show 3 < 1000; decide) fun ds H4 n4 l4 a4 k4 => ?_
    have e4 : putF ("scales" : Str) (.ref ds) ([(("columns" : Str), .ref lc), ("kinds", .ref lk), ("persons", .ref lp)] : List (Str × V)) = ([("columns", .ref lc), ("kinds", .ref lk), ("persons", .ref lp), ("scales", .ref ds)] : List (Str × V)) := by rw [putF_skip (by decide +kernel), putF_skip (by decide +kernel), putF_skip (by decide +kernel)]; rfl
    rw [e4] at a4
    walk_at "go"
    refine g_newD rfl a4 T.cl_Draft T.na_Draft_numbers (by show 4 < 1000; decide) fun dn H5 n5 l5 a5 k5 => ?_
    have e5 : putF ("numbers" : Str) (.ref dn) ([(("columns" : Str), .ref lc), ("kinds", .ref lk), ("persons", .ref lp), ("scales", .ref ds)] : List (Str × V)) = draftF lc lk lp ds dn := by rw [putF_skip (by decide +kernel), putF_skip (by decide +kernel), putF_skip (by decide +kernel), putF_skip (by decide +kernel)]; rfl
    rw [e5] at a5
    have ac : lc ≠ a := fun z => by rw [z, a1] at l1; cases l1
    have ak : lk ≠ a := fun z => by rw [z, a2] at l2; cases l2
    have ap : lp ≠ a := fun z => by rw [z, a3] at l3; cases l3
    have as : ds ≠ a := fun z => by rw [z, a4] at l4; cases l4
    have an : dn ≠ a := fun z => by rw [z, a5] at l5; cases l5
    have c2 := k2 _ _ ac l1
    have c3 := k3 _ _ ac c2
    have c5 := k5 _ _ ac (k4 _ _ ac c3)
    have kk3 := k3 _ _ ak l2
    have kk5 := k5 _ _ ak (k4 _ _ ak kk3)
    have p5 := k5 _ _ ap (k4 _ _ ap l3)
    have s5 := k5 _ _ as l4
    refine kk lc lk lp ds dn H5 ⟨a5, ⟨[], c5, .nil⟩, ⟨[], kk5, .nil⟩, ⟨[], p5, .nil⟩, ⟨[], s5, .nil⟩, l5, fun z => ?_, fun z => ?_, fun z => ?_, ?_⟩ (fun c o hc e => k5 _ _ hc (k4 _ _ hc (k3 _ _ hc (k2 _ _ hc (k1 _ _ hc e))))) fun c hc => ?_
    · rw [z, n2] at l1; cases l1
    · rw [z, n3] at c2; cases c2
    · rw [z, n3] at l2; cases l2
    · show [ds, dn].Nodup
      have : ds ≠ dn := fun z => by rw [z, n5] at l4; cases l4
      simp [this]
    · simp only [List.mem_cons, List.not_mem_nil, or_false] at hc
      rcases hc with rfl | rfl | rfl | rfl | rfl
      · exact n1
      · exact none_keep k1 ak n2
      · exact none_keep k1 ap (none_keep k2 ap n3)
      · exact none_keep k1 as (none_keep k2 as (none_keep k3 as n4))
      · exact none_keep k1 an (none_keep k2 an (none_keep k3 an (none_keep k4 an n5)))
theorem sc_Draft_is_ready : FnScope ["self", "bare", "scale"] ["self"] (defScope s_Draft_is_ready) := ⟨rfl, rfl, rfl, by decide +kernel, rfl, by decide +kernel, by decide +kernel⟩
def sp_Draft_ready (CL CT CD : Addr) : Sp := fun vs H Q _ => ∃ (a dx lc lk lp ds dn : Addr) (gs : List Col) (ks : List Knd) (ps : List (Str × List V)), vs = [.ref a] ∧ DraftX CL CT CD H a dx lc lk lp ds dn gs ks ps ∧ gs.length ≤ 4 ∧ ∀ H', Same H H' → Q (.bl (decide (0 < gs.length) && (bareOf gs ks).isEmpty)) H'
theorem ok_Draft_is_ready (T : Tx K mg) : FnOk P w K mg base CX0 1 T.a_Draft_is_ready T.fd_Draft_is_ready ["self"] (sp_Draft_ready T.C_Line T.C_Tree T.C_Draft) := by
  refine T.F_Draft_is_ready.ok sc_Draft_is_ready (fun vs H Q E h => ?_) (fun cdv A outer s H vs Q E hr h => ?_)
  · obtain ⟨a, dx, lc, lk, lp, ds, dn, gs, ks, ps, rfl, _⟩ := h
    rfl
  · obtain ⟨a, dx, lc, lk, lp, ds, dn, gs, ks, ps, rfl, dr, hg, kk⟩ := h
    have hu := hu_of hr
    have hu64 := hr.units
    refine ⟨_, (pss_cons (ps_lock (ps_setLc (i := 1) rfl sc_Draft_is_ready.nd rfl rfl (sw_true rfl rfl rfl (by decide +kernel)) (pi_values (u_fld (K := K) rfl (pv 0) rfl)) (blkOk_by (own := [("scale", 2)]) (N := ["self", "bare", "scale"]) (sc := defScope s_Draft_is_ready) (by decide +kernel)) (fun _ _ _ _ _ => (pg_name (i := 2) sc_Draft_is_ready.nd rfl (Or.inl rfl))) (fun _ _ _ _ _ => (pts_one (PW.pt (pw_and (pt_val (pe_callB (call_uIsi (K := K) rfl) (by rfl) T.n_isinstance (by decide +kernel) (pa_cons (pv 2) (pa_cons (u_cls (by rfl) T.m_Tree) pa_nil)))) (pw_and1 (pt_not (u_truth (K := K) rfl (u_fld (K := K) rfl (pv 2) rfl) (by intro _; rfl)))))))) (fun _ _ _ _ _ => (pv 2))))
        (pss_one (ps_ret (pe_and (pe_cmpR op_uGt (pe_callB (call_uLen (K := K) rfl) (by rfl) T.n_len (by decide +kernel) (pa_cons (u_fld (K := K) rfl (pv 0) rfl) pa_nil)) (pe_int) (nomark _)) (pe_one (pe_cmpR (op_uEq (K := K) rfl hu64) (pe_callB (call_uLen (K := K) rfl) (by rfl) T.n_len (by decide +kernel) (pa_cons (pv 1) pa_nil)) (pe_int) (nomark _))))))), ?_⟩
    walk_at "st"
    walk_at "go"
    obtain ⟨kvs, hds, sx⟩ := dr.hs
    have ln := prd_len sx
    refine g_lockS hds fun od => ?_
    have nad : a ≠ ds := fun z => by have := dr.hi; rw [z, hds] at this; cases this
    walk_at "go"
    refine g_fld ?_
    walk_at "go"
    refine ⟨a, T.C_Draft, dx, _, _, rfl, (upd_ne nad).trans dr.hi, T.cl_Draft, T.na_Draft_scales, dr_scales lc lk lp ds dn, ?_⟩
    refine ⟨ds, od, kvs, rfl, upd_same, ?_⟩
    let f : Nat → Option V := fun i => (gs[i]?).bind fun g => if (g.1.2 && (ksOf ks g.1.1).isEmpty) = true then some ((kvs[i]?).elim V.non (·.2)) else none
    have hf : ∀ i g, gs[i]? = some g → (f i).isSome = (g.1.2 && (ksOf ks g.1.1).isEmpty) := fun i g e => by
      show ((gs[i]?).bind _).isSome = _
      rw [e]
      show (Option.isSome (if (g.1.2 && (ksOf ks g.1.1).isEmpty) = true then some _ else none)) = _
      cases (g.1.2 && (ksOf ks g.1.1).isEmpty) <;> rfl
    refine lcI_same walk_values (by omega) f (fun H' s' => s' _ _ upd_same) (fun i H' x H'' y => by rw [y.1]; exact Same.refl _) (fun i x H' H'' A B hi s' y kA kB => ?_) fun E H' nE s' hE => ?_
    · obtain ⟨rfl, k, ex⟩ := y
      obtain ⟨g, eg, _, sc⟩ := prd_at sx ex
      have sc' := sc.at.lock hds (List.mem_of_getElem? ex) s'
      have ef : f i = if (g.1.2 && (ksOf ks g.1.1).isEmpty) = true then some x else none := by
        show (gs[i]?).bind _ = _
        rw [eg, ex]
        rfl
      rw [ef] at kA kB
      walk_at "go"
      refine ⟨rfl, ?_⟩
      walk_at "go"
      unfold ScaleAt at sc'
      split at sc'
      · rename_i cb
        rw [cb, Bool.true_and] at kA kB
        obtain ⟨a2, dx2, u, l, rfl, t⟩ := sc'
        refine ⟨.ref a2, .ref T.C_Tree, .ref T.C_Tree, .ref T.C_Tree, true, rfl, .own _, .base (.ins t.hi T.cl_Tree T.tc_Tree T.tn_get T.tn_takes T.tm_Tree), T.ki_Tree_Tree, ?_⟩
        walk_at "go"
        refine g_fld ?_
        walk_at "go"
        refine t.ups T.cl_Tree T.na_Tree_ups ?_
        obtain ⟨kv2, hk2, hkl, _⟩ := t.looks ""
        refine ⟨!kv2.isEmpty, Or.inr (Or.inr ⟨kv2, hk2, rfl⟩), ?_⟩
        have e : kv2.isEmpty = (ksOf ks g.1.1).isEmpty := by
          rw [Bool.eq_iff_iff, List.isEmpty_iff, List.isEmpty_iff, ← List.length_eq_zero_iff, ← List.length_eq_zero_iff, hkl]
        rw [e]
        cases c : (ksOf ks g.1.1).isEmpty with
        | true =>
          rw [c] at kA
          rw [if_pos (by decide)]
          walk_at "go"
          exact kA _ _ rfl (Same.refl _)
        | false =>
          rw [c] at kB
          rw [if_neg (by decide)]
          exact kB rfl _ (Same.refl _)
      · rename_i cb
        obtain ⟨a2, dx2, rfl, t⟩ := sc'
        refine ⟨.ref a2, .ref T.C_Tree, .ref T.C_Line, .ref T.C_Tree, false, rfl, .own _, .base (.ins t T.cl_Line T.tc_Line T.tn_get T.tn_takes T.tm_Line), T.ki_Line_Tree, ?_⟩
        walk_at "go"
        have cb : g.1.2 = false := by simpa using cb
        rw [cb, Bool.false_and] at kB
        exact kB rfl _ (Same.refl _)
    · have sAll := same_unlock hds s'
      walk_at "go"
      refine ⟨s' _ _ upd_same, ?_⟩
      walk_at "go"
      have nE' : E ≠ ds := fun z => by rw [z, upd_same] at nE; cases nE
      refine g_fld ?_
      walk_at "go"
      refine ⟨a, T.C_Draft, dx, _, _, rfl, sAll _ _ dr.hi, T.cl_Draft, T.na_Draft_columns, dr_columns lc lk lp ds dn, ?_⟩
      walk_at "go"
      obtain ⟨cv, hcv, tc⟩ := dr.hc
      have lcv : cv.length = gs.length := by rw [prd_len tc, List.length_map]
      refine U.g_lenL (Or.inl (SqL.of (sAll _ _ hcv))) ?_
      walk_at "go"
      have kk := kk _ sAll
      by_cases c : 0 < gs.length
      · have c' : (0 : Int) < cv.length := by omega
        rw [if_pos (decide_eq_true c')]
        walk_at "go"
        refine U.g_lenL (Or.inl (SqL.of ((upd_ne nE').trans hE))) ?_
        walk_at "go"
        rw [if_neg (show ¬ (false = true) by decide)]
        have eb : decide (V.int (((List.range kvs.length).filterMap f).length : Nat) = V.int 0) = (bareOf gs ks).isEmpty := by
          rw [ln]
          have := bare_nil gs (fun g : Col => g.1.2 && (ksOf ks g.1.1).isEmpty) f hf
          rw [show (bareOf gs ks).isEmpty = _ from this.symm, Bool.eq_iff_iff, decide_eq_true_eq, decide_eq_true_eq]
          exact ⟨fun z => by have := V.int.inj z; omega, fun z => by rw [z]; rfl⟩
        rw [eb]
        rw [decide_eq_true c, Bool.true_and] at kk
        exact kk
      · have c' : ¬ ((0 : Int) < cv.length) := by omega
        rw [if_neg (by rw [decide_eq_false c']; decide)]
        rw [decide_eq_false c, Bool.false_and] at kk
        exact kk
end
end Toy

namespace Toy
open PySem L2 U M TL ZV
section
variable {P : Program} {w : World} {K : PySem.W.Frag} {mg : Str → Option Value} {base : Heap}
theorem sc_Draft_add_column : FnScope ["self", "entry", "name", "word"] ["self", "entry"] (defScope s_Draft_add_column) := ⟨rfl, rfl, rfl, by decide +kernel, rfl, by decide +kernel, by decide +kernel⟩
def sp_add_column (CL CT CD : Addr) : Sp := fun vs H Q _ => ∃ (a dx lc lk lp ds dn e : Addr) (gs : List Col) (n : Str) (b : Bool), vs = [.ref a, .ref e] ∧ DraftX CL CT CD H a dx lc lk lp ds dn gs [] [] ∧ H e = some (.tup (colV (n, b))) ∧ gs.length < 4 ∧ isName n = true ∧ n ∉ gs.map (fun g => g.1.1) ∧
  ∀ g H', DraftX CL CT CD H' a dx lc lk lp ds dn (gs ++ [((n, b), g)]) [] [] → Keep [lc, ds] H H' → (∀ c ∈ g, H c = none) → Q (.bl true) H'
theorem ok_Draft_add_column (T : Tx K mg) : FnOk P w K mg base CX0 3 T.a_Draft_add_column T.fd_Draft_add_column ["self", "entry"] (sp_add_column T.C_Line T.C_Tree T.C_Draft) := by
  refine T.F_Draft_add_column.ok sc_Draft_add_column (fun vs H Q E h => ?_) (fun cdv A outer s H vs Q E hr h => ?_)
  · obtain ⟨a, dx, lc, lk, lp, ds, dn, e, gs, n, b, rfl, _⟩ := h
    rfl
  · obtain ⟨a, dx, lc, lk, lp, ds, dn, e, gs, n, b, rfl, dr, he, hg, hn, hnew, kk⟩ := h
    have hu := hu_of hr
    have hu64 := hr.units
    refine ⟨_, (pss_cons (ps_if (PW.pt (pw_or (pt_truth (u_fld (K := K) rfl (pv 0) rfl) (by intro _; rfl)) (pw_or (pt_truth (u_fld (K := K) rfl (pv 0) rfl) (by intro _; rfl)) (pw_or (pt_cmpR op_uGe (pe_callB (call_uLen (K := K) rfl) (by rfl) T.n_len (by decide +kernel) (pa_cons (u_fld (K := K) rfl (pv 0) rfl) pa_nil)) (u_constI (by rfl) T.m_MOST_COLUMNS) (nomark _)) (pw_or1 (pt_not (pt_val (pe_call (ok_is_tuple_of T) (hr.mono (by decide)) rfl T.m_is_tuple_of T.F_is_tuple_of.kp (b_is_tuple_of T) .nil pass0 (pa_cons (pv 1) (pa_cons (pe_int) pa_nil)))))))))) (pss_one (ps_ret (pe_bl))) pss_nil)
        (pss_cons (ps_asg (pv 1) (u_gtup (K := K) (n := 2) rfl rfl (pgs_cons (pg_name (i := 2) sc_Draft_add_column.nd rfl (Or.inl rfl)) (pgs_cons (pg_name (i := 3) sc_Draft_add_column.nd rfl (Or.inl rfl)) pgs_nil))))
        (pss_cons (ps_if (PW.pt (pw_or (pt_not (pt_val (pe_call (ok_is_name T) (hr.mono (by decide)) rfl T.m_is_name T.F_is_name.kp (b_is_name T) .nil pass0 (pa_cons (pv 2) pa_nil)))) (pw_or (pt_cmp (pc_din hu (pv 2) (u_fld (K := K) rfl (pv 0) rfl))) (pw_or1 (pt_cmpR (op_uNotIn (K := K) rfl) (pv 3) (pe_tup (pa_cons (pe_str) (pa_cons (pe_str) pa_nil))) rfl))))) (pss_one (ps_ret (pe_bl))) pss_nil)
        (pss_cons (ps_expr (pe_bm PySem.F.plainAttrs_list PySem.F.slot_list_append PySem.F.type_list_append mt_append (u_fld (K := K) rfl (pv 0) rfl) (pa_cons (pv 1) pa_nil)))
        (pss_cons (ps_dput hu (u_fld (K := K) rfl (pv 0) rfl) (pv 2) (pe_ifExp (pt_cmpR (op_uEq (K := K) rfl hu64) (pv 3) (pe_str) (nomark _)) (pe_makeO (K := K) rfl T.MO_Line (by rfl) T.m_Line) (pe_make0 T.M_Tree (ok_Tree___init__ T) (hr.mono (by decide)) rfl T.m_Tree (b_Tree___init__ T) .nil pass0)) rfl)
        (pss_one (ps_ret (pe_bl)))))))), ?_⟩
    walk_at "st"
    walk_at "go"
    refine g_fld ?_
    walk_at "go"
    refine ⟨a, T.C_Draft, dx, _, _, rfl, dr.hi, T.cl_Draft, T.na_Draft_kinds, dr_kinds lc lk lp ds dn, ?_⟩
    obtain ⟨kv, hkv, tk⟩ := dr.hk
    cases tk
    refine ⟨false, Or.inl ⟨[], SqL.of hkv, rfl⟩, ?_⟩
    walk_at "go"
    refine g_fld ?_
    walk_at "go"
    refine ⟨a, T.C_Draft, dx, _, _, rfl, dr.hi, T.cl_Draft, T.na_Draft_persons, dr_persons lc lk lp ds dn, ?_⟩
    obtain ⟨pv', hpv, tp⟩ := dr.hp
    cases tp
    refine ⟨false, Or.inl ⟨[], SqL.of hpv, rfl⟩, ?_⟩
    walk_at "go"
    refine g_fld ?_
    walk_at "go"
    refine ⟨a, T.C_Draft, dx, _, _, rfl, dr.hi, T.cl_Draft, T.na_Draft_columns, dr_columns lc lk lp ds dn, ?_⟩
    obtain ⟨cv, hcv, tc⟩ := dr.hc
    have lcv : cv.length = gs.length := by rw [prd_len tc, List.length_map]
    walk_at "go"
    refine U.g_lenL (Or.inl (SqL.of hcv)) ?_
    walk_at "go"
    refine U.g_2 (fun c => absurd (of_decide_eq_true c) (by omega)) (fun _ => ?_)
    walk_at "go"
    refine ⟨.ref e, 2, rfl, Or.inl ⟨e, _, rfl, he, ?_⟩⟩
    rw [show decide (((colV (n, b)).length : Int) = 2) = true from decide_eq_true rfl]
    walk_at "go"
    show gCons (gName 2) (gCons (gName 3) gNil) [V.str n, V.str (wordOf b)] _ _ _
    walk_at "go"
    have ln := (isName_out hn).2.1
    refine e_spName (decide_eq_true (by omega)) fun H1 s1 => ⟨_, rfl, ?_⟩
    rw [show isNameV (V.str n) = true from hn]
    walk_at "go"
    obtain ⟨kvs, hds, sx⟩ := dr.hs
    refine g_fld ?_
    walk_at "go"
    refine ⟨a, T.C_Draft, dx, _, _, rfl, s1 _ _ dr.hi, T.cl_Draft, T.na_Draft_scales, dr_scales lc lk lp ds dn, ?_⟩
    have nv : valV kvs (Sum.inr n) = none := by
      rcases sx.val (n := n) with ⟨_, h⟩ | ⟨g, h1, h2, _⟩
      · exact h
      · exact absurd (List.mem_map.mpr ⟨g, h1, h2⟩) hnew
    refine e_dinS (s1 _ _ hds) ?_
    rw [nv]
    walk_at "go"
    rw [if_neg (show ¬ ((none : Option V).isSome = true) by decide)]
    walk_at "go"
    refine ⟨by show 2 ≤ sizeLine; decide, fun p np => ?_⟩
    refine ⟨p, _, rfl, Or.inr (SqT.of upd_same), rfl, rfl, ?_⟩
    have iw : inV (V.str (wordOf b)) [V.str (Str.ofString "line"), V.str (Str.ofString "kinds")] = true := by cases b <;> decide +kernel
    rw [if_pos rfl, iw]
    have s2 : Same H (upd H1 p (.tup [V.str (Str.ofString "line"), V.str (Str.ofString "kinds")])) := s1.trans (U.same_new np)
    refine ⟨_, rfl, ?_⟩
    rw [if_neg (by decide)]
    walk_at "go"
    refine g_fld ?_
    walk_at "go"
    refine ⟨a, T.C_Draft, dx, _, _, rfl, s2 _ _ dr.hi, T.cl_Draft, T.na_Draft_columns, dr_columns lc lk lp ds dn, ?_⟩
    refine U.ty_lst (s2 _ _ hcv) ?_
    walk_at "go"
    refine U.g_appL (s2 _ _ hcv) (by omega) ?_
    walk_at "go"
    rw [if_neg (show ¬ (false = true) by decide)]
    have nlc : p ≠ lc := fun z => by rw [z, s1 _ _ hcv] at np; cases np
    have key : ∀ (Hc : Hp) (R : VK), (∀ x g H3, Same Hc H3 → ScaleX T.C_Line T.C_Tree H3 (.ref x) (n, b) [] g → (∀ c ∈ g, Hc c = none) → g.Nodup → R (.ref x) H3) →
        (if decide (V.str (wordOf b) = V.str (Str.ofString "line")) = true then tMakeO T.C_Line [some (V.ref a), some (V.ref e), some (V.str n), some (V.str (wordOf b))] Hc R
        else tMake T.C_Tree (sp_Tree_init T.C_Tree) [] E0 tNil [some (V.ref a), some (V.ref e), some (V.str n), some (V.str (wordOf b))] Hc R) := by
      intro Hc R kR
      cases b with
      | false =>
        rw [if_pos (show decide (V.str (wordOf false) = V.str (Str.ofString "line")) = true from decide_eq_true rfl)]
        intro x dx2 nx ndx hne
        refine kR x [] _ ((U.same_new ndx).trans (U.same_new (by rw [upd_ne (Ne.symm hne)]; exact nx))) ?_ (fun c hc => by cases hc) List.nodup_nil
        unfold ScaleX
        rw [if_neg (show ¬ (false = true) by decide)]
        exact ⟨x, dx2, rfl, upd_same, rfl⟩
      | true =>
        rw [if_neg (show ¬ (decide (V.str (wordOf true) = V.str (Str.ofString "line")) = true) by decide +kernel)]
        refine U.g_nil ?_
        intro x dx2 nx ndx hne
        have nx' : upd Hc dx2 (.own x) x = none := by rw [upd_ne (Ne.symm hne)]; exact nx
        have sm : Same Hc (upd (upd Hc dx2 (.own x)) x (.ins T.C_Tree dx2 [])) := (U.same_new ndx).trans (U.same_new nx')
        refine ⟨x, dx2, rfl, upd_same, fun u l H' nu nl tr kp => ⟨rfl, ?_⟩⟩
        refine kR x [u, l] H' (fun c o ec => kp c o (fun z => by rw [z, nx] at ec; cases ec) (sm c o ec)) ?_ (fun c hc => ?_) ?_
        · unfold ScaleX
          rw [if_pos rfl]
          exact ⟨x, dx2, u, l, rfl, tr, rfl⟩
        · simp only [List.mem_cons, List.not_mem_nil, or_false] at hc
          rcases hc with rfl | rfl
          · exact none_of sm nu
          · exact none_of sm nl
        · have := tr.hn
          simp [Ne.symm this]
    refine key _ _ fun x g H3 s3 sc ng ndg => ?_
    walk_at "go"
    have ad : ∀ {c : Addr} {m : List (Key × V)}, H c = some (.dK m) → c ≠ lc := fun {c m} e z => by rw [z, hcv] at e; cases e
    have up : ∀ c o, c ≠ lc → H c = some o → H3 c = some o := fun c o hc ec => s3 _ _ ((upd_ne hc).trans (s2 _ _ ec))
    have nac : a ≠ lc := fun z => by have := dr.hi; rw [z, hcv] at this; cases this
    have d3 := up _ _ (ad hds) hds
    refine g_fld ?_
    walk_at "go"
    refine ⟨a, T.C_Draft, dx, _, _, rfl, up _ _ nac dr.hi, T.cl_Draft, T.na_Draft_scales, dr_scales lc lk lp ds dn, ?_⟩
    walk_at "go"
    refine e_dputS d3 (by have := prd_len sx; omega) ?_
    rw [putK_new _ nv]
    walk_at "go"
    have kp : Keep [lc, ds] H (upd H3 ds (.dK (kvs ++ [(Sum.inr n, V.ref x)]))) := by
      refine ⟨fun c o hc ec => ?_, fun c hc => ?_⟩
      · simp only [List.mem_cons, List.not_mem_nil, or_false, not_or] at hc
        rw [upd_ne hc.2]
        exact up _ _ hc.1 ec
      · simp only [List.mem_cons, List.not_mem_nil, or_false] at hc
        rcases hc with rfl | rfl
        · exact .inl ⟨_, hcv⟩
        · exact .inr ⟨_, hds⟩
    have gd : ds ∉ g := fun z => by have := ng _ z; rw [upd_ne (ad hds), s2 _ _ hds] at this; cases this
    have kp3 : Keep [ds] H3 (upd H3 ds (.dK (kvs ++ [(Sum.inr n, V.ref x)]))) := by
      refine ⟨fun c o hc ec => ?_, fun c hc => ?_⟩
      · rw [List.mem_singleton] at hc
        rw [upd_ne hc]
        exact ec
      · rw [List.mem_singleton] at hc
        subst hc
        exact .inr ⟨_, d3⟩
    have nd := dr.nd
    rw [List.nodup_cons, List.nodup_cons] at nd
    obtain ⟨nd1, nd2, nd3⟩ := nd
    have fl : ∀ c ∈ flatG gs, c ∉ [lc, ds] := fun c hc => by
      obtain ⟨m, em⟩ := SclX.flat sx c hc
      simp only [List.mem_cons, List.not_mem_nil, or_false, not_or]
      exact ⟨ad em, fun z => nd1 (by rw [← z]; exact List.mem_cons_of_mem _ hc)⟩
    have not2 : ∀ {c : Addr} {xs : List V}, H c = some (.lst xs) → c ≠ lc → c ∉ [lc, ds] := fun {c xs} ec hc => by
      simp only [List.mem_cons, List.not_mem_nil, or_false, not_or]
      exact ⟨hc, fun z => by rw [z, hds] at ec; cases ec⟩
    have fg : flatG (gs ++ [((n, b), g)]) = flatG gs ++ g := by
      show (gs ++ [((n, b), g)]).flatMap _ = _
      rw [List.flatMap_append]
      simp
    refine kk g _ ⟨kp.ins dr.hi, ⟨cv ++ [.ref e], ?_, ?_⟩, ⟨[], kp.k _ _ (not2 hkv (Ne.symm dr.ne1)) hkv, .nil⟩, ⟨[], kp.k _ _ (not2 hpv (Ne.symm dr.ne2)) hpv, .nil⟩, ⟨_, upd_same, prd_snoc (SclX.keep kp fl sx) ⟨rfl, sc.keep kp3 fun c hc z => ?_⟩⟩, ?_, dr.ne1, dr.ne2, dr.ne3, ?_⟩ kp fun c hc => ?fresh
    case fresh =>
      cases ec : H c with
      | none => rfl
      | some o =>
        have z := ng c hc
        by_cases e1 : c = lc
        · rw [e1, upd_same] at z; cases z
        · rw [upd_ne e1, s2 _ _ ec] at z; cases z
    · rw [upd_ne (Ne.symm (ad hds))]
      exact s3 _ _ upd_same
    · rw [List.map_append]
      exact prd_snoc (TupL.mono kp.tup tc) ⟨e, rfl, kp.tup _ _ he⟩
    · rw [List.mem_singleton] at z
      exact gd (z ▸ hc)
    · refine kp.k _ _ ?_ dr.hn
      simp only [List.mem_cons, List.not_mem_nil, or_false, not_or]
      exact ⟨ad dr.hn, fun z => nd1 (by rw [← z]; exact List.mem_cons_self)⟩
    · rw [fg]
      have gn : ∀ {c : Addr} {m : List (Key × V)}, H c = some (.dK m) → c ∉ g := fun {c m} em hc => by
        have := ng _ hc
        rw [upd_ne (ad em), s2 _ _ em] at this
        cases this
      rw [List.nodup_cons, List.nodup_cons]
      refine ⟨fun z => ?_, fun z => ?_, ?_⟩
      · rcases List.mem_cons.mp z with z | z
        · exact nd1 (by rw [z]; exact List.mem_cons_self)
        · rcases List.mem_append.mp z with z | z
          · exact nd1 (List.mem_cons_of_mem _ z)
          · exact gd z
      · rcases List.mem_append.mp z with z | z
        · exact nd2 z
        · exact gn dr.hn z
      · rw [List.nodup_append]
        refine ⟨nd3, ndg, fun c hc c' hc' z => ?_⟩
        obtain ⟨m, em⟩ := SclX.flat sx c hc
        exact gn em (z ▸ hc')
end
end Toy

namespace M
open PySem L2
/-- a column of kinds of this name -/
def isKC (cs : List (Str × Bool)) (c : Str) : Bool := (cs.lookup c).getD false
theorem scl_look {CL CT : Addr} {H : Hp} {ks : List Knd} {n : Str} : ∀ {kvs : List (Key × V)} {cs : List (Str × Bool)}, ScalesAt CL CT H kvs cs ks →
    ((cs.lookup n = none ∧ valV kvs (Sum.inr n) = none) ∨ ∃ b v, cs.lookup n = some b ∧ valV kvs (Sum.inr n) = some v ∧ ScaleAt CL CT H v (n, b) (ksOf ks n))
  | _, _, .nil => .inl ⟨rfl, valV_nil⟩
  | (k, v) :: kvs, (m, b) :: cs, .cons ⟨e, t⟩ r => by
    have e : k = Sum.inr m := e
    subst e
    by_cases c : m = n
    · subst c
      exact .inr ⟨b, v, List.lookup_cons_self, valV_pos rfl, t⟩
    · have nk : ¬ ((Sum.inr m : Key) = Sum.inr n) := fun z => c (Sum.inr.inj z)
      rw [valV_neg nk, List.lookup_cons, show (n == m) = false from beq_false_of_ne fun z => c z.symm]
      exact scl_look r
theorem flat_uni : ∀ {gs : List Col}, (flatG gs).Nodup → ∀ g ∈ gs, ∀ g' ∈ gs, ∀ c, c ∈ g.2 → c ∈ g'.2 → g = g'
  | [], _, _, h, _, _, _, _, _ => by cases h
  | x :: gs, nd, g, hg, g', hg', c, h1, h2 => by
    have nd : (x.2 ++ flatG gs).Nodup := nd
    rw [List.nodup_append] at nd
    have inF : ∀ y ∈ gs, ∀ c ∈ y.2, c ∈ flatG gs := fun y hy c hc => List.mem_flatMap.mpr ⟨y, hy, hc⟩
    rcases List.mem_cons.mp hg with a | a <;> rcases List.mem_cons.mp hg' with b | b
    · rw [a, b]
    · subst a; exact absurd rfl (nd.2.2 c h1 c (inF _ b c h2))
    · subst b; exact absurd rfl (nd.2.2 c h2 c (inF _ a c h1))
    · exact flat_uni nd.2.1 g a g' b c h1 h2
theorem name_uni {α β : Type} {f : α → β} : ∀ {gs : List α}, (gs.map f).Nodup → ∀ g ∈ gs, ∀ g' ∈ gs, f g = f g' → g = g'
  | [], _, _, h, _, _, _ => by cases h
  | x :: gs, nd, g, hg, g', hg', e => by
    rw [List.map_cons, List.nodup_cons] at nd
    rcases List.mem_cons.mp hg with a | a <;> rcases List.mem_cons.mp hg' with b | b
    · rw [a, b]
    · subst a; exact absurd (e ▸ List.mem_map_of_mem b) nd.1
    · subst b; exact absurd (e ▸ List.mem_map_of_mem a) nd.1
    · exact name_uni nd.2 g a g' b e
theorem ksOf_snoc (ks : List Knd) (k : Knd) (c : Str) : ksOf (ks ++ [k]) c = if k.col = c then ksOf ks c ++ [k] else ksOf ks c := by
  show (ks ++ [k]).filter _ = _
  rw [List.filter_append]
  by_cases h : k.col = c
  · rw [if_pos h, List.filter_cons, if_pos (decide_eq_true h)]; rfl
  · rw [if_neg h, List.filter_cons, if_neg (by rw [decide_eq_false h]; decide), List.filter_nil, List.append_nil]
theorem SclX.kind {CL CT : Addr} {H H' : Hp} {ks : List Knd} {k : Knd} {u l : Addr} (kp : Keep [u, l] H H') (tr : ∀ a dx, TreeX CT H a dx u l (ksOf ks k.col) → TreeX CT H' a dx u l (ksOf ks k.col ++ [k])) :
    ∀ {kvs : List (Key × V)} {gs : List Col}, (∀ g ∈ gs, g.1.1 = k.col → g.1.2 = true ∧ g.2 = [u, l]) → (∀ g ∈ gs, g.1.1 ≠ k.col → ∀ c ∈ g.2, c ∉ [u, l]) → SclX CL CT H kvs gs ks → SclX CL CT H' kvs gs (ks ++ [k])
  | _, _, _, _, .nil => .nil
  | kv :: kvs, g :: gs, h1, h2, .cons h r => by
    refine .cons ⟨h.1, ?_⟩ (SclX.kind kp tr (fun g' hg' => h1 g' (List.mem_cons_of_mem _ hg')) (fun g' hg' => h2 g' (List.mem_cons_of_mem _ hg')) r)
    rw [ksOf_snoc]
    by_cases c : k.col = g.1.1
    · rw [if_pos c]
      obtain ⟨e1, e2⟩ := h1 g List.mem_cons_self c.symm
      have t := h.2
      unfold ScaleX at t ⊢
      rw [if_pos e1] at t ⊢
      obtain ⟨a, dx, u', l', ev, t, eg⟩ := t
      rw [e2] at eg
      cases eg
      rw [← c] at t ⊢
      exact ⟨a, dx, u, l, ev, tr a dx t, e2⟩
    · rw [if_neg c]
      exact h.2.keep kp (h2 g List.mem_cons_self fun z => c z.symm)
theorem Keep.trans {S S' : List Addr} {H H1 H2 : Hp} (a : Keep S H H1) (b : Keep S' H1 H2) (f : ∀ c ∈ S', (∃ xs, H c = some (.lst xs)) ∨ ∃ kvs, H c = some (.dK kvs)) : Keep (S ++ S') H H2 :=
  ⟨fun c o n e => b.k c o (fun z => n (List.mem_append_right _ z)) (a.k c o (fun z => n (List.mem_append_left _ z)) e), fun c hc => (List.mem_append.mp hc).elim (a.s c) (f c)⟩
theorem Keep.sub {S S' : List Addr} {H H' : Hp} (a : Keep S H H') (h : ∀ c ∈ S, c ∈ S') (f : ∀ c ∈ S', (∃ xs, H c = some (.lst xs)) ∨ ∃ kvs, H c = some (.dK kvs)) : Keep S' H H' := ⟨fun c o n e => a.k c o (fun z => n (h c z)) e, f⟩
theorem Keep.of {H H' : Hp} (s : Same H H') : Keep [] H H' := ⟨fun c o _ e => s c o e, fun c h => by cases h⟩
end M
namespace Toy
open PySem L2 U M TL ZV
theorem upO_upV (o : Option Str) : upO (upV o) = o := by cases o <;> rfl
section
variable {P : Program} {w : World} {K : PySem.W.Frag} {mg : Str → Option Value} {base : Heap}
theorem sc_is_kinds_column : FnScope ["scales", "column"] ["scales", "column"] (defScope s_is_kinds_column) := ⟨rfl, rfl, rfl, by decide +kernel, rfl, by decide +kernel, by decide +kernel⟩
def sp_is_kinds (CL CT : Addr) : Sp := fun vs H Q _ => ∃ (d : Addr) (kvs : List (Key × V)) (cs : List (Str × Bool)) (ks : List Knd) (n : Str), vs = [.ref d, .str n] ∧ H d = some (.dK kvs) ∧ ScalesAt CL CT H kvs cs ks ∧ Q (.bl (isKC cs n)) H
theorem ok_is_kinds_column (T : Tx K mg) : FnOk P w K mg base CX0 1 T.a_is_kinds_column T.fd_is_kinds_column ["scales", "column"] (sp_is_kinds T.C_Line T.C_Tree) := by
  refine T.F_is_kinds_column.ok sc_is_kinds_column (fun vs H Q E h => ?_) (fun cdv A outer s H vs Q E hr h => ?_)
  · obtain ⟨d, kvs, cs, ks, n, rfl, _⟩ := h
    rfl
  · obtain ⟨d, kvs, cs, ks, n, rfl, hd, hs, kk⟩ := h
    have hu := hu_of hr
    have hu64 := hr.units
    refine ⟨_, (pss_one (ps_ret (pe_and (pe_callB (call_uIsi (K := K) rfl) (by rfl) T.n_isinstance (by decide +kernel) (pa_cons (pv 1) (pa_cons (u_ty (n := "str") (by rfl) T.n_str (by decide +kernel)) pa_nil))) (pe_one (pe_callB (call_uIsi (K := K) rfl) (by rfl) T.n_isinstance (by decide +kernel) (pa_cons (pe_dget1 hu (pv 0) (pv 1) ⟨rfl, rfl, rfl, rfl⟩) (pa_cons (u_cls (by rfl) T.m_Tree) pa_nil))))))), ?_⟩
    walk_at "st"
    walk_at "go"
    refine e_isi (b := true) ty_str (by decide +kernel) ?_
    walk_at "go"
    refine ⟨.ref d, rfl, d, rfl, Or.inl ⟨kvs, Or.inl hd⟩, .str n, rfl, _, DGet.k (k := Sum.inr n) hd, ?_⟩
    walk_at "go"
    rcases scl_look (n := n) hs with ⟨h1, h2⟩ | ⟨b, v, h1, h2, h3⟩
    · have e : isKC cs n = false := by unfold isKC; rw [h1]; rfl
      rw [h2]
      rw [e] at kk
      exact ⟨.non, .ref T.C_Tree, _, .ref T.C_Tree, false, rfl, .own _, .base .non, T.ki_NoneType_Tree, kk⟩
    · have e : isKC cs n = b := by unfold isKC; rw [h1]; rfl
      rw [e] at kk
      rw [h2]
      unfold ScaleAt at h3
      split at h3
      · rename_i cb
        have cb : b = true := cb
        subst cb
        obtain ⟨a2, dx2, u, l, rfl, t⟩ := h3
        exact ⟨.ref a2, .ref T.C_Tree, .ref T.C_Tree, .ref T.C_Tree, true, rfl, .own _, .base (.ins t.hi T.cl_Tree T.tc_Tree T.tn_get T.tn_takes T.tm_Tree), T.ki_Tree_Tree, kk⟩
      · rename_i cb
        have cb : b = false := by
          cases b with
          | false => rfl
          | true => exact absurd rfl cb
        subst cb
        obtain ⟨a2, dx2, rfl, t⟩ := h3
        exact ⟨.ref a2, .ref T.C_Tree, .ref T.C_Line, .ref T.C_Tree, false, rfl, .own _, .base (.ins t T.cl_Line T.tc_Line T.tn_get T.tn_takes T.tm_Line), T.ki_Line_Tree, kk⟩
theorem sc_Draft_add_kind : FnScope ["self", "entry", "column", "name", "up", "loss"] ["self", "entry"] (defScope s_Draft_add_kind) := ⟨rfl, rfl, rfl, by decide +kernel, rfl, by decide +kernel, by decide +kernel⟩
def sp_add_kind (CL CT CD : Addr) : Sp := fun vs H Q _ => ∃ (a dx lc lk lp ds dn e : Addr) (gs : List Col) (ks : List Knd) (k : Knd), vs = [.ref a, .ref e] ∧ DraftX CL CT CD H a dx lc lk lp ds dn gs ks [] ∧ H e = some (.tup (kindV k)) ∧
  isKC (gs.map (·.1)) k.col = true ∧ kindCan (ksOf ks k.col) (.str k.name) (upV k.up) (.int k.loss) = true ∧ plainV (upV k.up) = true ∧ ks.length ≤ 1000 ∧ (gs.map fun g => g.1.1).Nodup ∧
  ∀ H', DraftX CL CT CD H' a dx lc lk lp ds dn gs (ks ++ [k]) [] → Keep (lk :: flatG gs) H H' → Q (.bl true) H'
theorem ok_Draft_add_kind (T : Tx K mg) : FnOk P w K mg base CX0 6 T.a_Draft_add_kind T.fd_Draft_add_kind ["self", "entry"] (sp_add_kind T.C_Line T.C_Tree T.C_Draft) := by
  refine T.F_Draft_add_kind.ok sc_Draft_add_kind (fun vs H Q E h => ?_) (fun cdv A outer s H vs Q E hr h => ?_)
  · obtain ⟨a, dx, lc, lk, lp, ds, dn, e, gs, ks, k, rfl, _⟩ := h
    rfl
  · obtain ⟨a, dx, lc, lk, lp, ds, dn, e, gs, ks, k, rfl, dr, he, hkc, hcan, hpu, hkl, hnd, kk⟩ := h
    have hu := hu_of hr
    have hu64 := hr.units
    refine ⟨_, (pss_cons (ps_if (PW.pt (pw_or (pt_truth (u_fld (K := K) rfl (pv 0) rfl) (by intro _; rfl)) (pw_or1 (pt_not (pt_val (pe_call (ok_is_tuple_of T) (hr.mono (by decide)) rfl T.m_is_tuple_of T.F_is_tuple_of.kp (b_is_tuple_of T) .nil pass0 (pa_cons (pv 1) (pa_cons (pe_int) pa_nil)))))))) (pss_one (ps_ret (pe_bl))) pss_nil)
        (pss_cons (ps_asg (pv 1) (u_gtup (K := K) (n := 4) rfl rfl (pgs_cons (pg_name (i := 2) sc_Draft_add_kind.nd rfl (Or.inl rfl)) (pgs_cons (pg_name (i := 3) sc_Draft_add_kind.nd rfl (Or.inl rfl)) (pgs_cons (pg_name (i := 4) sc_Draft_add_kind.nd rfl (Or.inl rfl)) (pgs_cons (pg_name (i := 5) sc_Draft_add_kind.nd rfl (Or.inl rfl)) pgs_nil))))))
        (pss_cons (ps_if (PW.pt (pw_or (pt_not (pt_val (pe_call (ok_is_kinds_column T) (hr.mono (by decide)) rfl T.m_is_kinds_column T.F_is_kinds_column.kp (b_is_kinds_column T) .nil pass0 (pa_cons (u_fld (K := K) rfl (pv 0) rfl) (pa_cons (pv 2) pa_nil))))) (pw_or1 (pt_not (pt_val (pe_meth (pe_dget hu (u_fld (K := K) rfl (pv 0) rfl) (pv 2) (fun _ _ => rfl)) T.cl_Tree T.me_Tree_add_kind (ok_Tree_add_kind T) (hr.mono (by decide)) (b_Tree_add_kind T) .nil pass0 (pa_cons (pv 3) (pa_cons (pv 4) (pa_cons (pv 5) pa_nil))))))))) (pss_one (ps_ret (pe_bl))) pss_nil)
        (pss_cons (ps_expr (pe_bm PySem.F.plainAttrs_list PySem.F.slot_list_append PySem.F.type_list_append mt_append (u_fld (K := K) rfl (pv 0) rfl) (pa_cons (pv 1) pa_nil)))
        (pss_one (ps_ret (pe_bl))))))), ?_⟩
    walk_at "st"
    walk_at "go"
    refine g_fld ?_
    walk_at "go"
    refine ⟨a, T.C_Draft, dx, _, _, rfl, dr.hi, T.cl_Draft, T.na_Draft_persons, dr_persons lc lk lp ds dn, ?_⟩
    obtain ⟨pv', hpv, tp⟩ := dr.hp
    cases tp
    refine ⟨false, Or.inl ⟨[], SqL.of hpv, rfl⟩, ?_⟩
    walk_at "go"
    refine ⟨.ref e, 4, rfl, Or.inl ⟨e, _, rfl, he, ?_⟩⟩
    rw [show decide (((kindV k).length : Int) = 4) = true from decide_eq_true rfl]
    walk_at "go"
    show gCons (gName 2) (gCons (gName 3) (gCons (gName 4) (gCons (gName 5) gNil))) [V.str k.col, V.str k.name, upV k.up, V.int k.loss] _ _ _
    walk_at "go"
    obtain ⟨kvs, hds, sx⟩ := dr.hs
    refine g_fld ?_
    walk_at "go"
    refine ⟨a, T.C_Draft, dx, _, _, rfl, dr.hi, T.cl_Draft, T.na_Draft_scales, dr_scales lc lk lp ds dn, ?_⟩
    walk_at "go"
    refine ⟨ds, kvs, _, ks, k.col, rfl, hds, sx.at, ?_⟩
    rw [hkc]
    refine ⟨_, rfl, ?_⟩
    walk_at "go"
    refine g_meth ?_
    walk_at "go"
    refine g_fld ?_
    walk_at "go"
    refine ⟨a, T.C_Draft, dx, _, _, rfl, dr.hi, T.cl_Draft, T.na_Draft_scales, dr_scales lc lk lp ds dn, ?_⟩
    walk_at "go"
    obtain ⟨g, hg, gn, v, hv, sg⟩ : ∃ g ∈ gs, g.1.1 = k.col ∧ ∃ v, valV kvs (Sum.inr k.col) = some v ∧ ScaleX T.C_Line T.C_Tree H v g.1 (ksOf ks g.1.1) g.2 := by
      rcases sx.val (n := k.col) with ⟨h1, h2⟩ | h
      · rcases scl_look (n := k.col) sx.at with ⟨z, _⟩ | ⟨b, v, _, z, _⟩
        · unfold isKC at hkc; rw [z] at hkc; cases hkc
        · rw [h2] at z; cases z
      · exact h
    have g2 : g.1.2 = true := by
      rcases scl_look (n := k.col) sx.at with ⟨z, _⟩ | ⟨b, v', z, z2, _⟩
      · unfold isKC at hkc; rw [z] at hkc; cases hkc
      · have m := lookup_mem z
        have eb : b = true := by unfold isKC at hkc; rw [z] at hkc; exact hkc
        obtain ⟨g', hg', e'⟩ := List.mem_map.mp m
        have : g' = g := name_uni hnd g' hg' g hg (by show g'.1.1 = g.1.1; rw [e', gn])
        subst this
        rw [e', eb]
    unfold ScaleX at sg
    rw [if_pos g2] at sg
    obtain ⟨a2, dx2, u, l, rfl, tr, eg⟩ := sg
    rw [gn] at tr
    refine e_dgetS hds hv ?_
    walk_at "go"
    refine ⟨a2, dx2, _, rfl, tr.hi, lk_nil2 (by decide +kernel) (by decide +kernel), ?_⟩
    walk_at "go"
    have pn : plainV (.str k.name) = true := by
      have n1 : isNameV (.str k.name) = true := (Bool.and_eq_true_iff.mp hcan).1
      have := (isName_out n1).2.1
      exact decide_eq_true (by omega)
    have k60 : (ksOf ks k.col).length ≤ 60 := by
      have z := hcan
      unfold kindCan at z
      simp only [Bool.and_eq_true, decide_eq_true_eq] at z
      omega
    refine ⟨a2, dx2, u, l, ksOf ks k.col, .str k.name, upV k.up, .int k.loss, rfl, tr, pn, hpu, rfl, k60, (fun z => by rw [hcan] at z; cases z), fun m i em ei _ H2 tr2 kp2 => ?_⟩
    cases em
    cases ei
    have tr2 := tr2 k.col
    rw [upO_upV] at tr2
    refine ⟨_, rfl, ?_⟩
    walk_at "go"
    have uf : ∀ c ∈ [u, l], c ∈ flatG gs := fun c hc => List.mem_flatMap.mpr ⟨g, hg, by rw [eg]; exact hc⟩
    have K1 : Keep [u, l] H H2 := by
      refine ⟨fun c o hc ec => ?_, fun c hc => .inr (SclX.flat sx c (uf c hc))⟩
      simp only [List.mem_cons, List.not_mem_nil, or_false, not_or] at hc
      exact kp2 c o hc.1 hc.2 ec
    have ln : ∀ {c : Addr} {xs : List V}, H c = some (.lst xs) → c ∉ flatG gs := fun {c xs} ec z => by
      obtain ⟨m, em⟩ := SclX.flat sx c z
      rw [ec] at em
      cases em
    obtain ⟨kv, hkv, tk⟩ := dr.hk
    have hkv2 := K1.k _ _ (fun z => ln hkv (uf _ z)) hkv
    refine g_fld ?_
    walk_at "go"
    refine ⟨a, T.C_Draft, dx, _, _, rfl, K1.ins dr.hi, T.cl_Draft, T.na_Draft_kinds, dr_kinds lc lk lp ds dn, ?_⟩
    refine U.ty_lst hkv2 ?_
    walk_at "go"
    have lkv : kv.length = ks.length := by rw [prd_len tk, List.length_map]
    refine U.g_appL hkv2 (by omega) ?_
    walk_at "go"
    have K2 : Keep [lk] H2 (upd H2 lk (.lst (kv ++ [.ref e]))) := by
      refine ⟨fun c o hc ec => ?_, fun c hc => ?_⟩
      · rw [List.mem_singleton] at hc
        rw [upd_ne hc]
        exact ec
      · rw [List.mem_singleton] at hc
        subst hc
        exact .inl ⟨_, hkv2⟩
    have nd := dr.nd
    rw [List.nodup_cons, List.nodup_cons] at nd
    obtain ⟨nd1, nd2, nd3⟩ := nd
    have dsn : ds ∉ [u, l] := fun z => nd1 (List.mem_cons_of_mem _ (uf _ z))
    have dnn : dn ∉ [u, l] := fun z => nd2 (uf _ z)
    have dl : ∀ {c : Addr} {m : List (Key × V)}, H c = some (.dK m) → c ≠ lk := fun {c m} e z => by rw [z, hkv] at e; cases e
    have fl2 : ∀ c ∈ flatG gs, c ∉ [lk] := fun c hc z => by
      rw [List.mem_singleton] at z
      exact ln hkv (z ▸ hc)
    have sx2 : SclX T.C_Line T.C_Tree H2 kvs gs (ks ++ [k]) := by
      refine SclX.kind K1 (fun b dxb tb => ?_) (fun g' hg' e' => ?_) (fun g' hg' e' c hc z => ?_) sx
      · exact ⟨K1.ins tb.hi, tr2.hu, tr2.hl, tb.hn⟩
      · have : g' = g := name_uni hnd g' hg' g hg (by show g'.1.1 = g.1.1; rw [e', gn])
        subst this
        exact ⟨g2, eg⟩
      · have : g' = g := flat_uni nd3 g' hg' g hg c hc (by rw [eg]; exact z)
        subst this
        exact e' gn
    refine kk _ ⟨K2.ins (K1.ins dr.hi), ?_, ⟨_, upd_same, ?_⟩, ⟨[], ?_, .nil⟩, ⟨kvs, ?_, SclX.keep K2 fl2 sx2⟩, ?_, dr.ne1, dr.ne2, dr.ne3, dr.nd⟩ ((K1.trans K2 fun c hc => by rw [List.mem_singleton] at hc; subst hc; exact .inl ⟨_, hkv⟩).sub (fun c hc => ?_) fun c hc => ?_)
    · obtain ⟨cv, hcv, tc⟩ := dr.hc
      exact ⟨cv, (upd_ne dr.ne1).trans (K1.k _ _ (fun z => ln hcv (uf _ z)) hcv), (TupL.mono K1.tup tc).mono K2.tup⟩
    · rw [List.map_append]
      exact prd_snoc ((TupL.mono K1.tup tk).mono K2.tup) ⟨e, rfl, K2.tup _ _ (K1.tup _ _ he)⟩
    · exact (upd_ne (Ne.symm dr.ne3)).trans (K1.k _ _ (fun z => ln hpv (uf _ z)) hpv)
    · exact (upd_ne (dl hds)).trans (K1.k _ _ dsn hds)
    · exact (upd_ne (dl dr.hn)).trans (K1.k _ _ dnn dr.hn)
    · rcases List.mem_append.mp hc with z | z
      · exact List.mem_cons_of_mem _ (uf c z)
      · rw [List.mem_singleton] at z; subst z; exact List.mem_cons_self
    · rcases List.mem_cons.mp hc with z | z
      · subst z; exact .inl ⟨_, hkv⟩
      · exact .inr (SclX.flat sx c z)
end
end Toy

namespace M
open PySem L2
theorem numD_snoc (p : Str × List V) : ∀ (i : Nat) (ps : List (Str × List V)), numD i (ps ++ [p]) = numD i ps ++ [(Sum.inr p.1, V.int ((i + ps.length : Nat) : Int))]
  | i, [] => rfl
  | i, q :: r => by
    show (Sum.inr q.1, V.int i) :: numD (i + 1) (r ++ [p]) = (Sum.inr q.1, V.int i) :: (numD (i + 1) r ++ _)
    rw [numD_snoc p (i + 1) r, List.length_cons, show i + 1 + r.length = i + (r.length + 1) by omega]
theorem numD_none {n : Str} : ∀ {i : Nat} {ps : List (Str × List V)}, n ∉ ps.map (·.1) → valV (numD i ps) (Sum.inr n) = none
  | _, [], _ => valV_nil
  | i, q :: r, h => by
    rw [List.map_cons, List.mem_cons, not_or] at h
    show valV ((Sum.inr q.1, V.int i) :: numD (i + 1) r) _ = _
    rw [valV_neg (fun z => h.1 (Sum.inr.inj z).symm)]
    exact numD_none h.2
theorem numD_at {n : Str} : ∀ {i j : Nat} {ps : List (Str × List V)} {vs : List V}, (ps.map (·.1)).Nodup → ps[j]? = some (n, vs) → valV (numD i ps) (Sum.inr n) = some (.int ((i + j : Nat) : Int))
  | i, 0, q :: r, vs, nd, h => by
    rw [List.getElem?_cons_zero] at h
    cases h
    exact valV_pos rfl
  | i, j + 1, q :: r, vs, nd, h => by
    rw [List.getElem?_cons_succ] at h
    rw [List.map_cons, List.nodup_cons] at nd
    show valV ((Sum.inr q.1, V.int i) :: numD (i + 1) r) _ = _
    rw [valV_neg (fun z => nd.1 (by
      have m := List.mem_map_of_mem (f := fun p : Str × List V => p.1) (List.mem_of_getElem? h)
      rw [show q.1 = n from Sum.inr.inj z]
      exact m)), numD_at nd.2 h, show i + 1 + j = i + (j + 1) by omega]
theorem numD_len : ∀ (i : Nat) (ps : List (Str × List V)), (numD i ps).length = ps.length
  | _, [] => rfl
  | i, _ :: r => by show (numD (i + 1) r).length + 1 = _; rw [numD_len, List.length_cons]
end M
namespace Toy
open PySem L2 U M TL ZV
section
variable {P : Program} {w : World} {K : PySem.W.Frag} {mg : Str → Option Value} {base : Heap}
theorem sc_Draft_add_person : FnScope ["self", "entry", "name", "values"] ["self", "entry"] (defScope s_Draft_add_person) := ⟨rfl, rfl, rfl, by decide +kernel, rfl, by decide +kernel, by decide +kernel⟩
def sp_add_person (CL CT CD : Addr) : Sp := fun vs H Q _ => ∃ (a dx lc lk lp ds dn e : Addr) (gs : List Col) (ks : List Knd) (ps : List (Str × List V)) (n : Str) (vals : List V), vs = [.ref a, .ref e] ∧ DraftX CL CT CD H a dx lc lk lp ds dn gs ks ps ∧ PerAt H (.ref e) (n, vals) ∧
  0 < gs.length ∧ gs.length ≤ 4 ∧ (bareOf gs ks).isEmpty = true ∧ ps.length < 60 ∧ isName n = true ∧ n ∉ ps.map (·.1) ∧ vals.all plainV = true ∧ valsStand (gs.map (·.1)) ks vals = true ∧
  ∀ H', DraftX CL CT CD H' a dx lc lk lp ds dn gs ks (ps ++ [(n, vals)]) → Keep [lp, dn] H H' → Q (.bl true) H'
theorem ok_Draft_add_person (T : Tx K mg) : FnOk P w K mg base CX0 5 T.a_Draft_add_person T.fd_Draft_add_person ["self", "entry"] (sp_add_person T.C_Line T.C_Tree T.C_Draft) := by
  refine T.F_Draft_add_person.ok sc_Draft_add_person (fun vs H Q E h => ?_) (fun cdv A outer s H vs Q E hr h => ?_)
  · obtain ⟨a, dx, lc, lk, lp, ds, dn, e, gs, ks, ps, n, vals, rfl, _⟩ := h
    rfl
  · obtain ⟨a, dx, lc, lk, lp, ds, dn, e, gs, ks, ps, n, vals, rfl, dr, hper, hg0, hg4, hbare, hps, hn, hnew, hpl, hst, kk⟩ := h
    have hu := hu_of hr
    have hu64 := hr.units
    refine ⟨_, (pss_cons (ps_if (PW.pt (pw_or (pt_not (pt_val (pe_meth0 (pv 0) T.cl_Draft T.me_Draft_is_ready (ok_Draft_is_ready T) (hr.mono (by decide)) (b_Draft_is_ready T) .nil pass0))) (pw_or (pt_cmpR op_uGe (pe_callB (call_uLen (K := K) rfl) (by rfl) T.n_len (by decide +kernel) (pa_cons (u_fld (K := K) rfl (pv 0) rfl) pa_nil)) (u_constI (by rfl) T.m_MOST_PERSONS) (nomark _)) (pw_or1 (pt_not (pt_val (pe_call (ok_is_tuple_of T) (hr.mono (by decide)) rfl T.m_is_tuple_of T.F_is_tuple_of.kp (b_is_tuple_of T) .nil pass0 (pa_cons (pv 1) (pa_cons (pe_int) pa_nil))))))))) (pss_one (ps_ret (pe_bl))) pss_nil)
        (pss_cons (ps_asg (pv 1) (u_gtup (K := K) (n := 2) rfl rfl (pgs_cons (pg_name (i := 2) sc_Draft_add_person.nd rfl (Or.inl rfl)) (pgs_cons (pg_name (i := 3) sc_Draft_add_person.nd rfl (Or.inl rfl)) pgs_nil))))
        (pss_cons (ps_if (PW.pt (pw_or (pt_not (pt_val (pe_call (ok_is_name T) (hr.mono (by decide)) rfl T.m_is_name T.F_is_name.kp (b_is_name T) .nil pass0 (pa_cons (pv 2) pa_nil)))) (pw_or (pt_cmp (pc_din hu (pv 2) (u_fld (K := K) rfl (pv 0) rfl))) (pw_or1 (pt_not (pt_val (pe_call (ok_values_stand T) (hr.mono (by decide)) rfl T.m_values_stand T.F_values_stand.kp (b_values_stand T) .nil pass0 (pa_cons (u_fld (K := K) rfl (pv 0) rfl) (pa_cons (pv 3) pa_nil))))))))) (pss_one (ps_ret (pe_bl))) pss_nil)
        (pss_cons (ps_dput hu (u_fld (K := K) rfl (pv 0) rfl) (pv 2) (pe_callB (call_uLen (K := K) rfl) (by rfl) T.n_len (by decide +kernel) (pa_cons (u_fld (K := K) rfl (pv 0) rfl) pa_nil)) rfl)
        (pss_cons (ps_expr (pe_bm PySem.F.plainAttrs_list PySem.F.slot_list_append PySem.F.type_list_append mt_append (u_fld (K := K) rfl (pv 0) rfl) (pa_cons (pv 1) pa_nil)))
        (pss_one (ps_ret (pe_bl)))))))), ?_⟩
    walk_at "st"
    walk_at "go"
    refine g_meth ?_
    walk_at "go"
    refine ⟨a, dx, _, rfl, dr.hi, dr_no (by decide +kernel) lc lk lp ds dn, ?_⟩
    walk_at "go"
    refine ⟨a, dx, lc, lk, lp, ds, dn, gs, ks, ps, rfl, dr, hg4, fun H1 s1 => ?_⟩
    rw [decide_eq_true hg0, hbare, Bool.and_self]
    refine ⟨_, rfl, ?_⟩
    walk_at "go"
    refine g_fld ?_
    walk_at "go"
    refine ⟨a, T.C_Draft, dx, _, _, rfl, s1 _ _ dr.hi, T.cl_Draft, T.na_Draft_persons, dr_persons lc lk lp ds dn, ?_⟩
    obtain ⟨pv, hpv, tp⟩ := dr.hp
    have lpv : pv.length = ps.length := prd_len tp
    walk_at "go"
    refine U.g_lenL (Or.inl (SqL.of (s1 _ _ hpv))) ?_
    walk_at "go"
    refine U.g_2 (fun c => absurd (of_decide_eq_true c) (by omega)) (fun _ => ?_)
    walk_at "go"
    obtain ⟨e', b, ee, he, hb⟩ := hper
    cases ee
    refine ⟨.ref e, 2, rfl, Or.inl ⟨e, _, rfl, s1 _ _ he, ?_⟩⟩
    rw [show decide ((([V.str n, V.ref b] : List V).length : Int) = 2) = true from decide_eq_true rfl]
    walk_at "go"
    refine U.g_gtup (SqT.of (s1 _ _ he)) rfl ?_
    walk_at "go"
    have ln := (isName_out hn).2.1
    refine e_spName (decide_eq_true (by omega)) fun H2 s2 => ⟨_, rfl, ?_⟩
    rw [show isNameV (V.str n) = true from hn]
    have s12 := s1.trans s2
    walk_at "go"
    refine g_fld ?_
    walk_at "go"
    refine ⟨a, T.C_Draft, dx, _, _, rfl, s12 _ _ dr.hi, T.cl_Draft, T.na_Draft_numbers, dr_numbers lc lk lp ds dn, ?_⟩
    refine e_dinS (s12 _ _ dr.hn) ?_
    rw [numD_none hnew]
    walk_at "go"
    rw [if_neg (show ¬ ((none : Option V).isSome = true) by decide)]
    walk_at "go"
    obtain ⟨kvs, hds, sx⟩ := dr.hs
    refine g_fld ?_
    walk_at "go"
    refine ⟨a, T.C_Draft, dx, _, _, rfl, s12 _ _ dr.hi, T.cl_Draft, T.na_Draft_scales, dr_scales lc lk lp ds dn, ?_⟩
    walk_at "go"
    refine ⟨ds, b, kvs, gs.map (·.1), ks, vals, rfl, s12 _ _ hds, sx.at.mono s12, by rw [List.length_map]; exact hg4, s12 _ _ hb, hpl, fun H3 s3 => ?_⟩
    rw [hst]
    have s13 := s12.trans s3
    refine ⟨_, rfl, ?_⟩
    walk_at "go"
    refine g_fld ?_
    walk_at "go"
    refine ⟨a, T.C_Draft, dx, _, _, rfl, s13 _ _ dr.hi, T.cl_Draft, T.na_Draft_persons, dr_persons lc lk lp ds dn, ?_⟩
    walk_at "go"
    refine U.g_lenL (Or.inl (SqL.of (s13 _ _ hpv))) ?_
    refine g_fld ?_
    walk_at "go"
    refine ⟨a, T.C_Draft, dx, _, _, rfl, s13 _ _ dr.hi, T.cl_Draft, T.na_Draft_numbers, dr_numbers lc lk lp ds dn, ?_⟩
    walk_at "go"
    refine e_dputS (s13 _ _ dr.hn) (by rw [numD_len]; omega) ?_
    rw [putK_new _ (numD_none hnew)]
    walk_at "go"
    have dl : ∀ {c : Addr} {m : List (Key × V)}, H c = some (.dK m) → c ≠ lp := fun {c m} e z => by rw [z, hpv] at e; cases e
    have an : a ≠ dn := fun z => by have := dr.hi; rw [z, dr.hn] at this; cases this
    have hpv3 : upd H3 dn (.dK (numD 0 ps ++ [(Sum.inr n, V.int (pv.length : Nat))])) lp = some (.lst pv) := (upd_ne (Ne.symm (dl dr.hn))).trans (s13 _ _ hpv)
    refine g_fld ?_
    walk_at "go"
    refine ⟨a, T.C_Draft, dx, _, _, rfl, (upd_ne an).trans (s13 _ _ dr.hi), T.cl_Draft, T.na_Draft_persons, dr_persons lc lk lp ds dn, ?_⟩
    refine U.ty_lst hpv3 ?_
    walk_at "go"
    refine U.g_appL hpv3 (by omega) ?_
    walk_at "go"
    have kp : Keep [lp, dn] H (upd (upd H3 dn (.dK (numD 0 ps ++ [(Sum.inr n, V.int (pv.length : Nat))]))) lp (.lst (pv ++ [.ref e]))) := by
      refine ⟨fun c o hc ec => ?_, fun c hc => ?_⟩
      · simp only [List.mem_cons, List.not_mem_nil, or_false, not_or] at hc
        rw [upd_ne hc.1, upd_ne hc.2]
        exact s13 _ _ ec
      · simp only [List.mem_cons, List.not_mem_nil, or_false] at hc
        rcases hc with rfl | rfl
        · exact .inl ⟨_, hpv⟩
        · exact .inr ⟨_, dr.hn⟩
    have nd := dr.nd
    rw [List.nodup_cons, List.nodup_cons] at nd
    obtain ⟨nd1, nd2, nd3⟩ := nd
    have fl : ∀ c ∈ flatG gs, c ∉ [lp, dn] := fun c hc => by
      obtain ⟨m, em⟩ := SclX.flat sx c hc
      simp only [List.mem_cons, List.not_mem_nil, or_false, not_or]
      exact ⟨dl em, fun z => nd2 (z ▸ hc)⟩
    have not2 : ∀ {c : Addr} {xs : List V}, H c = some (.lst xs) → c ≠ lp → c ∉ [lp, dn] := fun {c xs} ec hc => by
      simp only [List.mem_cons, List.not_mem_nil, or_false, not_or]
      exact ⟨hc, fun z => by rw [z, dr.hn] at ec; cases ec⟩
    obtain ⟨cv, hcv, tc⟩ := dr.hc
    obtain ⟨kv, hkv, tk⟩ := dr.hk
    refine kk _ ⟨kp.ins dr.hi, ⟨cv, kp.k _ _ (not2 hcv dr.ne2) hcv, TupL.mono kp.tup tc⟩, ⟨kv, kp.k _ _ (not2 hkv dr.ne3) hkv, TupL.mono kp.tup tk⟩, ⟨_, upd_same, ?_⟩, ⟨kvs, kp.k _ _ ?_ hds, SclX.keep kp fl sx⟩, ?_, dr.ne1, dr.ne2, dr.ne3, dr.nd⟩ kp
    · exact prd_snoc (PerL.mono kp.tup tp) ⟨e, b, rfl, kp.tup _ _ he, kp.tup _ _ hb⟩
    · simp only [List.mem_cons, List.not_mem_nil, or_false, not_or]
      exact ⟨dl hds, fun z => nd1 (by rw [z]; exact List.mem_cons_self)⟩
    · rw [upd_ne (dl dr.hn), upd_same, numD_snoc, Nat.zero_add, lpv]
end
end Toy

namespace Toy
open PySem L2 U M TL
/-! ### what a register's lines ask for, line by line -/
theorem cons_snoc {α : Type} {l1 l2 m : List α} {k x : α} (e : m ++ [x] = l1 ++ k :: l2) : (l2 = [] ∧ m = l1 ∧ x = k) ∨ ∃ l3, l2 = l3 ++ [x] ∧ m = l1 ++ k :: l3 := by
  rcases List.eq_nil_or_concat l2 with rfl | ⟨l3, y, rfl⟩
  · have h := List.append_inj' e rfl
    exact .inl ⟨rfl, h.1, (List.cons.inj h.2).1⟩
  · have e' : m ++ [x] = (l1 ++ k :: l3) ++ [y] := by rw [e]; simp
    have h := List.append_inj' e' rfl
    have hx := (List.cons.inj h.2).1
    subst hx
    exact .inr ⟨l3, by simp, h.1⟩
theorem KOk.nodup {c : Str} {ks : List Knd} (k : KOk c ks) : (ks.map (·.name)).Nodup := by
  induction k with
  | nil => exact List.nodup_nil
  | top => simp
  | more k ho h hn nd h0 h1 ih =>
    rw [List.map_append, List.nodup_append]
    exact ⟨ih, by simp, fun a ha b hb => by
      rw [List.map_cons, List.map_nil, List.mem_singleton] at hb
      subst hb
      exact fun z => nd (z ▸ ha)⟩
theorem lossOf_mem {ks : List Knd} {o : Knd} (nd : (ks.map (·.name)).Nodup) (h : o ∈ ks) : lossOf ks o.name = o.loss := by
  unfold lossOf
  induction ks with
  | nil => cases h
  | cons a r ih =>
    rw [List.map_cons, List.nodup_cons] at nd
    by_cases e : a.name = o.name
    · rw [List.find?_cons_of_pos (by simpa using e)]
      rcases List.mem_cons.mp h with z | z
      · rw [z]; rfl
      · exact absurd (e ▸ List.mem_map_of_mem z) nd.1
    · rw [List.find?_cons_of_neg (by simpa using e)]
      rcases List.mem_cons.mp h with z | z
      · exact absurd (by rw [z]) e
      · exact ih nd.2 z
structure KCan (c : Str) (l1 : List Knd) (k : Knd) : Prop where
  can : kindCan l1 (.str k.name) (upV k.up) (.int k.loss) = true
  plain : plainV (upV k.up) = true
  nn : k.up ≠ some ("none" : Str)
  l0 : 0 ≤ k.loss
  l1 : k.loss ≤ 1000000
theorem can_of {l1 : List Knd} {k : Knd} (hn : isName k.name = true) (h0 : k.name ≠ "none") (nd : k.name ∉ l1.map (·.name)) (len : l1.length < 60) (a : 0 ≤ k.loss) (b : k.loss ≤ 1000000) (up : canUp l1 (upV k.up) k.loss = true) : kindCan l1 (.str k.name) (upV k.up) (.int k.loss) = true := by
  unfold kindCan
  rw [show isNameV (.str k.name) = true from hn, show decide (V.str k.name = V.str "none") = false from decide_eq_false fun z => h0 (V.str.inj z), show isKind l1 (.str k.name) = false from decide_eq_false nd, decide_eq_true len]
  show (true && (!false && (!false && (true && (isIntV (.int k.loss) && (decide (0 ≤ k.loss) && (decide (k.loss ≤ 1000000) && canUp l1 (upV k.up) k.loss))))))) = true
  rw [decide_eq_true a, decide_eq_true b, up]
  rfl
theorem KOk.can {c : Str} {ks : List Knd} (K : KOk c ks) : ∀ l1 k l2, ks = l1 ++ k :: l2 → ks.length ≤ 60 → KCan c l1 k := by
  induction K with
  | nil =>
    intro l1 k l2 e
    have := congrArg List.length e
    simp at this
  | @top n l h hn h0 h1 =>
    intro l1 k l2 e len
    rcases cons_snoc (m := []) e with ⟨rfl, rfl, rfl⟩ | ⟨l3, _, e2⟩
    · exact ⟨can_of h hn (by simp) (by decide) h0 h1 (by unfold canUp; rfl), rfl, (fun z => by cases z), h0, h1⟩
    · have := congrArg List.length e2
      simp at this
  | @more ks o n l K ho h hn nd h0 h1 ih =>
    intro l1 k l2 e len
    rw [List.length_append] at len
    have len : ks.length + 1 ≤ 60 := len
    rcases cons_snoc e with ⟨rfl, rfl, rfl⟩ | ⟨l3, _, e2⟩
    · have oname := KOk_name K o ho
      have ol := K.loss o ho
      have hl1 : l ≤ 1000000 := by omega
      refine ⟨can_of h hn nd (by omega) h0 hl1 ?_, ?_, ?_, h0, hl1⟩
      · unfold canUp
        have ne : ks.isEmpty = false := by cases ks with
          | nil => cases ho
          | cons => rfl
        rw [ne]
        show (if false = true then _ else (isKind ks (.str o.name) && decide (l ≤ lossOf ks o.name))) = true
        rw [if_neg Bool.false_ne_true, lossOf_mem (KOk.nodup K) ho, decide_eq_true h1, show isKind ks (.str o.name) = true from decide_eq_true (List.mem_map_of_mem ho)]
        rfl
      · have := (isName_out oname.1).2.1
        exact decide_eq_true (by show o.name.length ≤ 1000000; omega)
      · intro z
        exact oname.2 (Option.some.inj z)
    · exact ih l1 k l3 e2 (by omega)
theorem lookup_nd {α β : Type} [BEq α] [LawfulBEq α] {k : α} {v : β} : ∀ {ps : List (α × β)}, (ps.map (·.1)).Nodup → (k, v) ∈ ps → ps.lookup k = some v
  | [], _, h => by cases h
  | p :: r, nd, h => by
    obtain ⟨j, w⟩ := p
    rw [List.map_cons, List.nodup_cons] at nd
    rw [List.lookup_cons]
    rcases List.mem_cons.mp h with e | h2
    · cases e
      rw [beq_self_eq_true]
    · have : (k == j) = false := beq_false_of_ne fun z => nd.1 (List.mem_map.mpr ⟨(k, v), h2, z⟩)
      rw [this]
      exact lookup_nd nd.2 h2
theorem isKC_of {cs : List (Str × Bool)} {c : Str} (nd : (cs.map (·.1)).Nodup) (h : (c, true) ∈ cs) : isKC cs c = true := by
  unfold isKC
  rw [lookup_nd nd h]
  rfl
/-- a kind of a fine register, behind those ahead of it -/
theorem RegOk.kind {R : Reg} (ok : RegOk R) {A B : List Knd} {k : Knd} (e : R.kinds = A ++ k :: B) : isKC R.cols k.col = true ∧ KCan k.col (ksOf A k.col) k := by
  have mem : k ∈ R.kinds := by rw [e]; simp
  have hc := ok.kinds.of k mem
  obtain ⟨h1, h2, h3⟩ := ok.kinds.each _ hc rfl
  refine ⟨isKC_of ok.cols.nd hc, KOk.can h1 (ksOf A k.col) k (ksOf B k.col) ?_ h3⟩
  show R.kinds.filter _ = _
  rw [e, List.filter_append, List.filter_cons, if_pos (decide_eq_true rfl)]
theorem bare_of {R : Reg} (ok : RegOk R) {gs : List Col} (h : gs.map (·.1) = R.cols) : (bareOf gs R.kinds).isEmpty = true := by
  rw [List.isEmpty_iff]
  refine List.filter_eq_nil_iff.mpr fun g hg z => ?_
  rw [Bool.and_eq_true, List.isEmpty_iff] at z
  have hc : g.1 ∈ R.cols := h ▸ List.mem_map_of_mem hg
  obtain ⟨_, h2, _⟩ := ok.kinds.each _ hc z.1
  have : (ksOf R.kinds g.1.1).length = 0 := by rw [z.2]; rfl
  have h2 : 1 ≤ (ksOf R.kinds g.1.1).length := h2
  omega
theorem isVal_of {R : Reg} {c : Str × Bool} {v : V} (h : valOk R c v) : isVal c (ksOf R.kinds c.1) v = true := by
  unfold valOk at h
  unfold isVal
  split at h
  · rename_i e
    rw [if_pos e]
    obtain ⟨k, h1, h2, rfl⟩ := h
    exact decide_eq_true (List.mem_map_of_mem (List.mem_filter.mpr ⟨h1, decide_eq_true h2⟩))
  · rename_i e
    rw [if_neg e]
    obtain ⟨z, rfl, a, b⟩ := h
    show (decide _ && decide _) = true
    rw [decide_eq_true a, decide_eq_true b]
    rfl
theorem stand_of {R : Reg} : ∀ {cs : List (Str × Bool)} {vals : List V}, Paired (valOk R) cs vals → valsStand cs R.kinds vals = true := fun {cs vals} h => by
  unfold valsStand
  rw [decide_eq_true (prd_len h).symm, Bool.true_and]
  have go : ∀ {cs : List (Str × Bool)} {vals : List V}, Paired (valOk R) cs vals → ((cs.zip vals).all fun p => isVal p.1 (ksOf R.kinds p.1.1) p.2) = true := by
    intro cs vals h
    induction h with
    | nil => rfl
    | cons a _ ih => rw [List.zip_cons_cons, List.all_cons, ih, isVal_of a]; rfl
  exact go h
theorem plain_of {R : Reg} (ok : RegOk R) : ∀ {cs : List (Str × Bool)} {vals : List V}, Paired (valOk R) cs vals → vals.all plainV = true
  | _, _, .nil => rfl
  | _, _, .cons a r => by
    rw [List.all_cons, plain_of ok r, Bool.and_true]
    unfold valOk at a
    split at a
    · obtain ⟨k, h1, _, rfl⟩ := a
      have := (isName_out (ok.kinds.name k h1).1).2.1
      exact decide_eq_true (by omega)
    · obtain ⟨z, rfl, _⟩ := a
      rfl
theorem word_of {R : Reg} : ∀ {cs : List (Str × Bool)} {vals : List V}, Paired (valOk R) cs vals → Paired (fun (c : Str × Bool) v => if c.2 = true then ∃ m, v = V.str m else ∃ z : Int, v = .int z ∧ -1000000 ≤ z ∧ z ≤ 1000000) cs vals
  | _, _, .nil => .nil
  | _, _, .cons a r => .cons (by
    unfold valOk at a
    split at a
    · rename_i e
      rw [if_pos e]
      obtain ⟨k, _, _, rfl⟩ := a
      exact ⟨_, rfl⟩
    · rename_i e
      rw [if_neg e]
      exact a) (word_of r)
/-! ### words and lines -/
/-- no blank and no line feed -/
def fine (s : Str) : Prop := ∀ c ∈ s.cps.toList, c ≠ 32 ∧ c ≠ 10
theorem fine_name {s : Str} (h : isName s = true) : fine s := fun c hc => by
  have := (isName_out h).2.2 c hc
  unfold sign at this
  simp only [Bool.or_eq_true, Bool.and_eq_true, decide_eq_true_eq] at this
  omega
theorem fine_int {z : Int} (h0 : -1000000 ≤ z) (h1 : z ≤ 1000000) : fine (toString z : Str) := fun c hc => by
  have d : ∀ n : Nat, ∀ c ∈ numL n, c ≠ 32 ∧ c ≠ 10 := fun n c hc => by
    have := numL_digits n c hc
    omega
  by_cases h : 0 ≤ z
  · rw [(int_pos h h1).1] at hc
    exact d _ c hc
  · rw [(int_negs (by omega) h0).1] at hc
    rcases List.mem_cons.mp hc with e | hc
    · rw [e]; decide
    · exact d _ c hc
theorem fine_lit {s : Str} (h : s.cps.toList.all (fun c => c != 32 && c != 10) = true) : fine s := fun c hc => by
  have := List.all_eq_true.mp h c hc
  rw [Bool.and_eq_true, bne_iff_ne, bne_iff_ne] at this
  exact this
theorem blank_tl : tl (" " : Str) = 32 :: [] := by decide +kernel
theorem feed_tl : tl ("\n" : Str) = 10 :: [] := by decide +kernel
theorem words_back {ws : List Str} (hne : ws ≠ []) (h : ∀ w ∈ ws, fine w) : Txt.split (Txt.join " " ws) " " = ws := split_join blank_tl (by decide +kernel) hne fun p hp z => (h p hp 32 z).1 rfl
theorem join_tl (ws : List Str) : tl (Txt.join " " ws) = joinL [32] (ws.map tl) := by rw [join_eq, tl_join, blank_tl]
theorem joinL_mem {s : List Nat} {c : Nat} : ∀ {ps : List (List Nat)}, c ∈ joinL s ps → c ∈ s ∨ ∃ p ∈ ps, c ∈ p
  | [], h => by cases h
  | [p], h => .inr ⟨p, List.mem_cons_self, h⟩
  | p :: q :: r, h => by
    have h : c ∈ p ++ (s ++ joinL s (q :: r)) := h
    rcases List.mem_append.mp h with h | h
    · exact .inr ⟨p, List.mem_cons_self, h⟩
    · rcases List.mem_append.mp h with h | h
      · exact .inl h
      · rcases joinL_mem h with z | ⟨p', m, z⟩
        · exact .inl z
        · exact .inr ⟨p', List.mem_cons_of_mem _ m, z⟩
theorem line_feed {ws : List Str} (h : ∀ w ∈ ws, fine w) : 10 ∉ tl (Txt.join " " ws) := fun z => by
  rw [join_tl] at z
  rcases joinL_mem z with z | ⟨p, m, z⟩
  · simp at z
  · obtain ⟨w, hw, rfl⟩ := List.mem_map.mp m
    exact (h w hw 10 z).2 rfl
def colWords (c : Str × Bool) : List Str := ["column", c.1, wordOf c.2]
theorem colLine_join (c : Str × Bool) : colLine c = Txt.join " " (colWords c) := by
  refine str_ext ?_
  show tl (colLine c) = tl _
  rw [join_tl]
  unfold colLine colWords
  show ((("column " : Str) ++ c.1) ++ (" " : Str) ++ wordOf c.2).cps.toList = tl "column" ++ ([32] ++ (tl c.1 ++ ([32] ++ tl (wordOf c.2))))
  rw [app_list, app_list, app_list]
  have e1 : ("column " : Str).cps.toList = tl "column" ++ [32] := by decide +kernel
  have e2 : (" " : Str).cps.toList = [32] := by decide +kernel
  rw [e1, e2]
  simp only [List.append_assoc]
end Toy

namespace M
open PySem L2 U TL
def allWords (R : Reg) : List (List Str) := R.cols.map Toy.colWords ++ (R.kinds.map kindWords ++ R.persons.map perWords)
theorem regLines_eq (R : Reg) : regLines R = (allWords R).map (Txt.join " ") := by
  unfold regLines allWords
  simp only [List.map_append, List.map_map, List.append_assoc]
  congr 1
/-- what a draft holds once i lines are in -/
structure StAt (R : Reg) (i : Nat) (gs : List Col) (ks : List Knd) (ps : List (Str × List V)) : Prop where
  g : gs.map (·.1) = R.cols.take i
  k : ks = R.kinds.take (i - R.cols.length)
  p : ps = R.persons.take (i - R.cols.length - R.kinds.length)
theorem words_at {R : Reg} {i : Nat} {ws : List Str} (h : (allWords R)[i]? = some ws) : (i < R.cols.length ∧ ∃ c, R.cols[i]? = some c ∧ ws = Toy.colWords c) ∨
    (R.cols.length ≤ i ∧ i - R.cols.length < R.kinds.length ∧ ∃ k, R.kinds[i - R.cols.length]? = some k ∧ ws = kindWords k) ∨
    (R.cols.length ≤ i ∧ R.kinds.length ≤ i - R.cols.length ∧ ∃ p, R.persons[i - R.cols.length - R.kinds.length]? = some p ∧ ws = perWords p) := by
  unfold allWords at h
  rw [List.getElem?_append, List.length_map] at h
  split at h
  · rename_i lt
    rw [List.getElem?_map] at h
    cases e : R.cols[i]? with
    | none => rw [e] at h; cases h
    | some c => rw [e] at h; cases h; exact .inl ⟨lt, c, rfl, rfl⟩
  · rename_i ge
    rw [List.getElem?_append, List.length_map] at h
    split at h
    · rename_i lt
      rw [List.getElem?_map] at h
      cases e : R.kinds[i - R.cols.length]? with
      | none => rw [e] at h; cases h
      | some c => rw [e] at h; cases h; exact .inr (.inl ⟨by omega, lt, c, rfl, rfl⟩)
    · rename_i ge2
      rw [List.getElem?_map] at h
      cases e : R.persons[i - R.cols.length - R.kinds.length]? with
      | none => rw [e] at h; cases h
      | some c => rw [e] at h; cases h; exact .inr (.inr ⟨by omega, by omega, c, rfl, rfl⟩)
theorem take_snoc {α : Type} {l : List α} {i : Nat} {x : α} (h : l[i]? = some x) : l.take (i + 1) = l.take i ++ [x] := by rw [List.take_succ, h]; rfl
theorem snoc_drop {α : Type} {l : List α} {i : Nat} {x : α} (h : l[i]? = some x) : l = l.take i ++ x :: l.drop (i + 1) := by
  have : l = l.take (i + 1) ++ l.drop (i + 1) := (List.take_append_drop _ _).symm
  rw [take_snoc h, List.append_assoc] at this
  exact this
theorem not_earlier {α β : Type} {f : α → β} {l : List α} (nd : (l.map f).Nodup) {i : Nat} {x : α} (h : l[i]? = some x) : f x ∉ (l.take i).map f := fun z => by
  rw [snoc_drop h, List.map_append, List.map_cons, List.nodup_append] at nd
  exact nd.2.2 _ z _ List.mem_cons_self rfl
theorem DraftX.same {CL CT CD : Addr} {H H' : Hp} {a dx lc lk lp ds dn : Addr} {gs : List Col} {ks : List Knd} {ps : List (Str × List V)} (s : Same H H') (d : DraftX CL CT CD H a dx lc lk lp ds dn gs ks ps) : DraftX CL CT CD H' a dx lc lk lp ds dn gs ks ps := by
  have t : TS H H' := TS.of s
  obtain ⟨cv, c1, c2⟩ := d.hc
  obtain ⟨kv, k1, k2⟩ := d.hk
  obtain ⟨pv, p1, p2⟩ := d.hp
  obtain ⟨kvs, s1, s2⟩ := d.hs
  exact ⟨s _ _ d.hi, ⟨cv, s _ _ c1, c2.mono t⟩, ⟨kv, s _ _ k1, k2.mono t⟩, ⟨pv, s _ _ p1, p2.mono t⟩, ⟨kvs, s _ _ s1, s2.keep (Keep.of s) fun c _ h => by cases h⟩, s _ _ d.hn, d.ne1, d.ne2, d.ne3, d.nd⟩
theorem RegOk.k240 {R : Reg} (ok : RegOk R) : R.kinds.length ≤ 240 := by
  have c4 := ok.cols.four
  have := kinds_len ok.kinds.of fun c hc => by
    cases e : c.2 with
    | true => exact (ok.kinds.each c hc e).2.2
    | false =>
      have : (R.kinds.filter fun k => decide (k.col = c.1)) = [] := List.filter_eq_nil_iff.mpr fun k hk z => by
        have h1 := ok.kinds.of k hk
        have h2 := ok.cols.nd
        have := nd_fst h2 hc h1 (of_decide_eq_true z).symm
        rw [this] at e
        cases e
      rw [this]
      exact Nat.zero_le _
  omega
end M
namespace Toy
open PySem L2 U M TL ZV
section
variable {P : Program} {w : World} {K : PySem.W.Frag} {mg : Str → Option Value} {base : Heap}
theorem sc_add_line : FnScope ["draft", "words"] ["draft", "words"] (defScope s_add_line) := ⟨rfl, rfl, rfl, by decide +kernel, rfl, by decide +kernel, by decide +kernel⟩
def sp_add_line (CL CT CD : Addr) : Sp := fun vs H Q _ => ∃ (a dx lc lk lp ds dn l : Addr) (gs : List Col) (ks : List Knd) (ps : List (Str × List V)) (R : Reg) (i : Nat) (ws : List Str), vs = [.ref a, .ref l] ∧ DraftX CL CT CD H a dx lc lk lp ds dn gs ks ps ∧ H l = some (.lst (ws.map V.str)) ∧
  StAt R i gs ks ps ∧ RegOk R ∧ (allWords R)[i]? = some ws ∧
  ∀ H' gs' ks' ps', DraftX CL CT CD H' a dx lc lk lp ds dn gs' ks' ps' → StAt R (i + 1) gs' ks' ps' → (∀ c o, c ∉ lc :: lk :: lp :: ds :: dn :: flatG gs → H c = some o → H' c = some o) → (∀ c ∈ flatG gs', c ∈ flatG gs ∨ H c = none) → Q (.bl true) H'
theorem ok_add_line (T : Tx K mg) : FnOk P w K mg base CX0 7 T.a_add_line T.fd_add_line ["draft", "words"] (sp_add_line T.C_Line T.C_Tree T.C_Draft) := by
  refine T.F_add_line.ok sc_add_line (fun vs H Q E h => ?_) (fun cdv A outer s H vs Q E hr h => ?_)
  · obtain ⟨a, dx, lc, lk, lp, ds, dn, l, gs, ks, ps, R, i, ws, rfl, _⟩ := h
    rfl
  · obtain ⟨a, dx, lc, lk, lp, ds, dn, l, gs, ks, ps, R, i, ws, rfl, dr, hl, st, ok, hw, kk⟩ := h
    have hu := hu_of hr
    have hu64 := hr.units
    refine ⟨_, (pss_cons (ps_if (pt_cmpR (op_uEq (K := K) rfl hu64) (pe_ix (ix_u (K := K) rfl) (pv 1) (pe_int) (fun _ _ => rfl)) (pe_str) (nomark _)) (pss_one (ps_ret (pe_meth (pv 0) T.cl_Draft T.me_Draft_add_column (ok_Draft_add_column T) (hr.mono (by decide)) (b_Draft_add_column T) .nil pass0 (pa_cons (pe_callTy (call_uTuple (K := K) rfl) (by rfl) T.n_tuple (by decide +kernel) (pa_cons (pe_slice (sl_u (K := K) rfl) (pv 1) (po_some (pe_int)) po_none) pa_nil)) pa_nil)))) pss_nil)
        (pss_cons (ps_if (pt_cmpR (op_uEq (K := K) rfl hu64) (pe_ix (ix_u (K := K) rfl) (pv 1) (pe_int) (fun _ _ => rfl)) (pe_str) (nomark _)) (pss_one (ps_ret (pe_meth (pv 0) T.cl_Draft T.me_Draft_add_kind (ok_Draft_add_kind T) (hr.mono (by decide)) (b_Draft_add_kind T) .nil pass0 (pa_cons (pe_call (ok_kind_in T) (hr.mono (by decide)) rfl T.m_kind_in T.F_kind_in.kp (b_kind_in T) .nil pass0 (pa_cons (pe_slice (sl_u (K := K) rfl) (pv 1) (po_some (pe_int)) po_none) pa_nil)) pa_nil)))) pss_nil)
        (pss_cons (ps_if (pt_cmpR (op_uEq (K := K) rfl hu64) (pe_ix (ix_u (K := K) rfl) (pv 1) (pe_int) (fun _ _ => rfl)) (pe_str) (nomark _)) (pss_one (ps_ret (pe_meth (pv 0) T.cl_Draft T.me_Draft_add_person (ok_Draft_add_person T) (hr.mono (by decide)) (b_Draft_add_person T) .nil pass0 (pa_cons (pe_call (ok_person_in T) (hr.mono (by decide)) rfl T.m_person_in T.F_person_in.kp (b_person_in T) .nil pass0 (pa_cons (u_fld (K := K) rfl (pv 0) rfl) (pa_cons (pe_slice (sl_u (K := K) rfl) (pv 1) (po_some (pe_int)) po_none) pa_nil))) pa_nil)))) pss_nil)
        (pss_one (ps_ret (pe_bl)))))), ?_⟩
    have sK : ∀ {S : List Addr} {H1 H' : Hp}, Same H H1 → Keep S H1 H' → (∀ c ∈ S, c ∈ lc :: lk :: lp :: ds :: dn :: flatG gs) → ∀ c o, c ∉ lc :: lk :: lp :: ds :: dn :: flatG gs → H c = some o → H' c = some o := fun s1 kp sub c o hc e => kp.k c o (fun z => hc (sub c z)) (s1 c o e)
    have ff : ¬ (false = true) := by decide
    rcases words_at hw with ⟨hi, c, hc, rfl⟩ | ⟨hi, hj, k, hk, rfl⟩ | ⟨hi, hj, p, hp, rfl⟩
    · obtain ⟨n, b⟩ := c
      have hl : H l = some (.lst [.str "column", .str n, .str (wordOf b)]) := hl
      have h0 : i - R.cols.length = 0 := by omega
      have h1 : i + 1 - R.cols.length = 0 := by omega
      obtain ⟨sg, sk, sp⟩ := st
      rw [h0, List.take_zero] at sk
      rw [h0, Nat.zero_sub, List.take_zero] at sp
      subst sk sp
      have lg : gs.length = i := by
        have := congrArg List.length sg
        rw [List.length_map, List.length_take] at this
        omega
      have c4 := ok.cols.four
      walk_at "st"
      walk_at "go"
      rw [if_neg ff, if_pos (decide_eq_true rfl)]
      walk_at "go"
      refine g_meth ?_
      walk_at "go"
      refine ⟨a, dx, _, rfl, dr.hi, dr_no (by decide +kernel) lc lk lp ds dn, ?_⟩
      walk_at "go"
      refine U.g_slL (SqL.of hl) fun b1 nb => ?_
      rw [cut_1]
      walk_at "go"
      refine U.g_tupL (SqL.of upd_same) fun q nq => ?_
      have s1 : Same H (upd H b1 (.lst [.str n, .str (wordOf b)])) := U.same_new nb
      have s2 := s1.trans (U.same_new (o := .tup [.str n, .str (wordOf b)]) nq)
      walk_at "go"
      refine ⟨a, dx, lc, lk, lp, ds, dn, q, gs, n, b, rfl, dr.same s2, upd_same, by omega, ok.cols.nm _ (List.mem_of_getElem? hc), ?_, fun g H' d' kp fr => ?_⟩
      · have := not_earlier ok.cols.nd hc
        rw [← sg, List.map_map] at this
        exact this
      · refine kk H' _ _ _ d' ⟨?_, ?_, ?_⟩ (sK s2 kp fun c hc => ?_) fun c hc => ?_
        · rw [List.map_append, sg, take_snoc hc]; rfl
        · rw [h1]; rfl
        · rw [h1, Nat.zero_sub]; rfl
        · simp only [List.mem_cons, List.not_mem_nil, or_false] at hc ⊢
          rcases hc with z | z <;> simp [z]
        · have hc : c ∈ (gs ++ [((n, b), g)]).flatMap (·.2) := hc
          rw [List.flatMap_append] at hc
          rcases List.mem_append.mp hc with z | z
          · exact .inl z
          · refine .inr (none_of s2 (fr c ?_))
            simpa using z
    · have hl : H l = some (.lst [.str "kind", .str k.col, .str k.name, .str (upS k.up), .str (toString k.loss : Str)]) := hl
      have h0 : i - R.cols.length - R.kinds.length = 0 := by omega
      have h1 : i + 1 - R.cols.length - R.kinds.length = 0 := by omega
      obtain ⟨sg, sk, sp⟩ := st
      rw [h0, List.take_zero] at sp
      rw [List.take_of_length_le hi] at sg
      subst sk sp
      obtain ⟨hkc, kc⟩ := RegOk.kind ok (snoc_drop hk)
      have k240 := ok.k240
      walk_at "st"
      walk_at "go"
      rw [if_neg ff, if_neg (show ¬ decide (V.str (Str.ofString "kind") = V.str (Str.ofString "column")) = true by decide +kernel)]
      walk_at "go"
      rw [if_neg ff, if_pos (decide_eq_true rfl)]
      walk_at "go"
      refine g_meth ?_
      walk_at "go"
      refine ⟨a, dx, _, rfl, dr.hi, dr_no (by decide +kernel) lc lk lp ds dn, ?_⟩
      walk_at "go"
      refine U.g_slL (SqL.of hl) fun b1 nb => ?_
      rw [cut_1]
      have s1 : Same H (upd H b1 (.lst [.str k.col, .str k.name, .str (upS k.up), .str (toString k.loss : Str)])) := U.same_new nb
      walk_at "go"
      have kc0 := kc.l0
      have kc1 := kc.l1
      refine ⟨b1, k, rfl, upd_same, kc.nn, by omega, kc.l1, fun q H1 s2 nq hq => ?_⟩
      have d2 := (dr.same s1).same s2
      walk_at "go"
      refine ⟨a, dx, lc, lk, lp, ds, dn, q, gs, _, k, rfl, d2, hq, by rw [sg]; exact hkc, kc.can, kc.plain, ?_, ?_, fun H' d' kp => ?_⟩
      · rw [List.length_take]; omega
      · have := ok.cols.nd
        rw [← sg, List.map_map] at this
        exact this
      · refine kk H' _ _ _ d' ⟨?_, ?_, ?_⟩ (sK (s1.trans s2) kp fun c hc => ?_) fun c hc => .inl hc
        · rw [sg, List.take_of_length_le (by omega)]
        · rw [show i + 1 - R.cols.length = i - R.cols.length + 1 by omega, take_snoc hk]
        · rw [h1]; rfl
        · rcases List.mem_cons.mp hc with z | z
          · simp [z]
          · exact List.mem_cons_of_mem _ (List.mem_cons_of_mem _ (List.mem_cons_of_mem _ (List.mem_cons_of_mem _ (List.mem_cons_of_mem _ z))))
    · obtain ⟨n, vals⟩ := p
      have hl : H l = some (.lst (.str "person" :: .str n :: (vals.map vS).map V.str)) := hl
      obtain ⟨sg, sk, sp⟩ := st
      rw [List.take_of_length_le hi] at sg
      rw [List.take_of_length_le hj] at sk
      subst sk sp
      walk_at "st"
      walk_at "go"
      refine U.g_ix (v := .str "person") (Or.inl (SqL.of hl)) (atI_nat (j := 0) rfl) ?_
      walk_at "go"
      rw [if_neg ff, if_neg (show ¬ decide (V.str (Str.ofString "person") = V.str (Str.ofString "column")) = true by decide +kernel)]
      walk_at "go"
      refine U.g_ix (v := .str "person") (Or.inl (SqL.of hl)) (atI_nat (j := 0) rfl) ?_
      walk_at "go"
      rw [if_neg ff, if_neg (show ¬ decide (V.str (Str.ofString "person") = V.str (Str.ofString "kind")) = true by decide +kernel)]
      walk_at "go"
      refine U.g_ix (v := .str "person") (Or.inl (SqL.of hl)) (atI_nat (j := 0) rfl) ?_
      walk_at "go"
      rw [if_neg ff, if_pos (decide_eq_true rfl)]
      walk_at "go"
      refine g_meth ?_
      walk_at "go"
      refine ⟨a, dx, _, rfl, dr.hi, dr_no (by decide +kernel) lc lk lp ds dn, ?_⟩
      walk_at "go"
      refine g_fld ?_
      walk_at "go"
      refine ⟨a, T.C_Draft, dx, _, _, rfl, dr.hi, T.cl_Draft, T.na_Draft_scales, dr_scales lc lk lp ds dn, ?_⟩
      walk_at "go"
      refine U.g_slL (SqL.of hl) fun b1 nb => ?_
      rw [cut_1]
      have s1 : Same H (upd H b1 (.lst (.str n :: (vals.map vS).map V.str))) := U.same_new nb
      walk_at "go"
      have d1 := dr.same s1
      obtain ⟨kvs, e1, e2⟩ := d1.hs
      have pok := (ok.pk _ (List.mem_of_getElem? hp)).2
      have lt : i - R.cols.length - R.kinds.length < R.persons.length := (List.getElem?_eq_some_iff.mp hp).1
      have p60 := ok.pl
      have lg : gs.length = R.cols.length := by rw [← sg, List.length_map]
      refine ⟨ds, b1, kvs, gs.map (·.1), R.kinds, n, vals, rfl, e1, e2.at, by rw [List.length_map, lg]; exact ok.cols.four, by rw [upd_same, List.map_map]; rfl, by rw [sg]; exact word_of pok, fun q H1 s2 nq hq => ?_⟩
      have d2 := d1.same s2
      walk_at "go"
      refine ⟨a, dx, lc, lk, lp, ds, dn, q, gs, R.kinds, _, n, vals, rfl, d2, hq, by have := ok.cols.pos; omega, by have := ok.cols.four; omega, bare_of ok sg, ?_, (ok.pk _ (List.mem_of_getElem? hp)).1, not_earlier ok.pn hp, plain_of ok pok, by rw [sg]; exact stand_of pok, fun H' d' kp => ?_⟩
      · rw [List.length_take]; omega
      · refine kk H' _ _ _ d' ⟨?_, ?_, ?_⟩ (sK (s1.trans s2) kp fun c hc => ?_) fun c hc => .inl hc
        · rw [sg, List.take_of_length_le (by omega)]
        · rw [List.take_of_length_le (by omega)]
        · rw [show i + 1 - R.cols.length - R.kinds.length = i - R.cols.length - R.kinds.length + 1 by omega, take_snoc hp]
        · simp only [List.mem_cons, List.not_mem_nil, or_false] at hc ⊢
          rcases hc with z | z <;> simp [z]
end
end Toy

namespace M
open PySem L2 U TL
theorem text_len {R : Reg} (ok : RegOk R) : (regText R).length ≤ 1000000 := by
  have c4 := ok.cols.four
  have k240 := ok.k240
  have p60 := ok.pl
  have b1 := sum_le (f := fun c => (colLine c).length) (m := 30) (xs := R.cols) fun c hc => colLine_len (ok.cols.nm c hc)
  have b2 := sum_le (f := fun k => (Txt.join " " (kindWords k)).length) (m := 75) (xs := R.kinds) fun k hk => (kindLine_len ok.kinds ok.cols.nm k hk).2
  have b3 := sum_le (f := fun p => (Txt.join " " (perWords p)).length) (m := 210) (xs := R.persons) fun p hp => (perLine_len ok p hp).2.2
  have h6 : ("\n" : Str).length = 1 := by decide +kernel
  have := join_len "\n" (regLines R)
  rw [h6] at this
  unfold regText
  refine Nat.le_trans this ?_
  unfold regLines
  simp only [List.map_append, List.map_map, List.sum_append, List.length_append, List.length_map]
  have c1 : (List.map ((fun x => x.length) ∘ colLine) R.cols).sum = (R.cols.map fun c => (colLine c).length).sum := rfl
  have c2 : (List.map ((fun x => x.length) ∘ fun k => Txt.join " " (kindWords k)) R.kinds).sum = (R.kinds.map fun k => (Txt.join " " (kindWords k)).length).sum := rfl
  have c3 : (List.map ((fun x => x.length) ∘ fun p => Txt.join " " (perWords p)) R.persons).sum = (R.persons.map fun p => (Txt.join " " (perWords p)).length).sum := rfl
  rw [c1, c2, c3]
  omega
theorem upS_fine {c : Str} {ks : List Knd} (k : KOk c ks) : ∀ o ∈ ks, Toy.fine (upS o.up) := by
  induction k with
  | nil => intro o h; cases h
  | top => intro o h; rw [List.mem_singleton] at h; subst h; exact Toy.fine_lit (s := "none") (by decide +kernel)
  | more k ho h hn nd h0 h1 ih =>
    intro o' h'
    rcases List.mem_append.mp h' with h' | h'
    · exact ih o' h'
    · rw [List.mem_singleton] at h'; subst h'
      exact Toy.fine_name (KOk_name k _ ho).1
theorem words_fine {R : Reg} (ok : RegOk R) : ∀ ws ∈ allWords R, ws ≠ [] ∧ ∀ w ∈ ws, Toy.fine w := by
  intro ws h
  have lo : ∀ k ∈ R.kinds, 0 ≤ k.loss ∧ k.loss ≤ 1000000 ∧ isName k.name = true ∧ Toy.fine (upS k.up) := fun k hk => by
    have kok := (ok.kinds.each _ (ok.kinds.of k hk) rfl).1
    have mem : k ∈ R.kinds.filter fun j => decide (j.col = k.col) := List.mem_filter.mpr ⟨hk, decide_eq_true rfl⟩
    exact ⟨(kok.loss k mem).1, (kok.loss k mem).2, (KOk_name kok k mem).1, upS_fine kok k mem⟩
  unfold allWords at h
  rcases List.mem_append.mp h with h | h
  · obtain ⟨c, hc, rfl⟩ := List.mem_map.mp h
    refine ⟨by unfold Toy.colWords; simp, fun w hw => ?_⟩
    unfold Toy.colWords at hw
    simp only [List.mem_cons, List.not_mem_nil, or_false] at hw
    rcases hw with rfl | rfl | rfl
    · exact Toy.fine_lit (by decide +kernel)
    · exact Toy.fine_name (ok.cols.nm c hc)
    · cases c.2 <;> exact Toy.fine_lit (by decide +kernel)
  rcases List.mem_append.mp h with h | h
  · obtain ⟨k, hk, rfl⟩ := List.mem_map.mp h
    obtain ⟨l0, l1, hn, hu⟩ := lo k hk
    refine ⟨by unfold kindWords; simp, fun w hw => ?_⟩
    unfold kindWords at hw
    simp only [List.mem_cons, List.not_mem_nil, or_false] at hw
    rcases hw with rfl | rfl | rfl | rfl | rfl
    · exact Toy.fine_lit (by decide +kernel)
    · exact Toy.fine_name (ok.cols.nm _ (ok.kinds.of k hk))
    · exact Toy.fine_name hn
    · exact hu
    · exact Toy.fine_int (by omega) l1
  · obtain ⟨p, hp, rfl⟩ := List.mem_map.mp h
    obtain ⟨hn, hv⟩ := ok.pk p hp
    refine ⟨by unfold perWords; simp, fun w hw => ?_⟩
    unfold perWords at hw
    rcases List.mem_cons.mp hw with rfl | hw
    · exact Toy.fine_lit (by decide +kernel)
    rcases List.mem_cons.mp hw with rfl | hw
    · exact Toy.fine_name hn
    · obtain ⟨v, hm, rfl⟩ := List.mem_map.mp hw
      obtain ⟨j, hj⟩ := List.getElem?_of_mem hm
      obtain ⟨c, _, hc⟩ := prd_at2 hv hj
      unfold valOk at hc
      split at hc
      · obtain ⟨k, hk, _, rfl⟩ := hc
        exact Toy.fine_name (lo k hk).2.2.1
      · obtain ⟨z, rfl, a, b⟩ := hc
        exact Toy.fine_int a b
theorem line_len {R : Reg} (ok : RegOk R) : ∀ ws ∈ allWords R, (Txt.join " " ws).length ≤ 210 := by
  intro ws h
  unfold allWords at h
  rcases List.mem_append.mp h with h | h
  · obtain ⟨c, hc, rfl⟩ := List.mem_map.mp h
    rw [← Toy.colLine_join]
    exact Nat.le_trans (colLine_len (ok.cols.nm c hc)) (by decide)
  rcases List.mem_append.mp h with h | h
  · obtain ⟨k, hk, rfl⟩ := List.mem_map.mp h
    exact Nat.le_trans (kindLine_len ok.kinds ok.cols.nm k hk).2 (by decide)
  · obtain ⟨p, hp, rfl⟩ := List.mem_map.mp h
    exact (perLine_len ok p hp).2.2
theorem lines_back {R : Reg} (ok : RegOk R) : Txt.split (regText R) "\n" = regLines R := by
  unfold regText
  refine split_join Toy.feed_tl (by decide +kernel) ?_ fun p hp z => ?_
  · have := ok.cols.pos
    intro e
    have := congrArg List.length e
    rw [regLines_eq, List.length_map] at this
    unfold allWords at this
    rw [List.length_append, List.length_map] at this
    simp only [List.length_nil] at this
    omega
  · rw [regLines_eq] at hp
    obtain ⟨ws, h, rfl⟩ := List.mem_map.mp hp
    exact Toy.line_feed (words_fine ok ws h).2 z
end M
namespace Toy
open PySem L2 U M TL ZV E1
section
variable {P : Program} {w : World} {K : PySem.W.Frag} {mg : Str → Option Value} {base : Heap}
theorem sc_draft_in : FnScope ["text", "draft", "lines", "number", "line"] ["text"] (defScope s_draft_in) := ⟨rfl, rfl, rfl, by decide +kernel, rfl, by decide +kernel, by decide +kernel⟩
def sp_draft_in (CL CT CD : Addr) : Sp := fun vs H Q _ => ∃ (R : Reg), vs = [.str (regText R)] ∧ RegOk R ∧
  ∀ a dx lc lk lp ds dn gs H', Same H H' → DraftX CL CT CD H' a dx lc lk lp ds dn gs R.kinds R.persons → gs.map (·.1) = R.cols → (∀ c ∈ a :: lc :: lk :: lp :: ds :: dn :: flatG gs, H c = none) → Q (.ref a) H'
theorem ok_draft_in (T : Tx K mg) : FnOk P w K mg base CX0 8 T.a_draft_in T.fd_draft_in ["text"] (sp_draft_in T.C_Line T.C_Tree T.C_Draft) := by
  refine T.F_draft_in.ok sc_draft_in (fun vs H Q E h => ?_) (fun cdv A outer s H vs Q E hr h => ?_)
  · obtain ⟨R, rfl, _⟩ := h
    rfl
  · obtain ⟨R, rfl, ok, kk⟩ := h
    have hu := hu_of hr
    have hu64 := hr.units
    refine ⟨_, (pss_cons (ps_if (pt_not (pt_val (pe_callB (call_uIsi (K := K) rfl) (by rfl) T.n_isinstance (by decide +kernel) (pa_cons (pv 0) (pa_cons (u_ty (n := "str") (by rfl) T.n_str (by decide +kernel)) pa_nil))))) (pss_one (ps_never)) pss_nil)
        (pss_cons (ps_set (i := 1) sc_draft_in.nd rfl (Or.inl rfl) (pe_make0 T.M_Draft (ok_Draft___init__ T) (hr.mono (by decide)) rfl T.m_Draft (b_Draft___init__ T) .nil pass0))
        (pss_cons (ps_set (i := 2) sc_draft_in.nd rfl (Or.inl rfl) (pe_split (pv 0) (pe_str)))
        (pss_cons (ps_for PassesOwn.never rfl (pi_enum1 rfl (by rfl) T.n_enumerate (pa_cons (pv 2) pa_nil)) (u_gtup (K := K) (n := 2) rfl rfl (pgs_cons (pg_name (i := 3) sc_draft_in.nd rfl (Or.inl rfl)) (pgs_cons (pg_name (i := 4) sc_draft_in.nd rfl (Or.inl rfl)) pgs_nil))) (pss_one (ps_if (pt_not (pt_val (pe_call (ok_add_line T) (hr.mono (by decide)) rfl T.m_add_line T.F_add_line.kp (b_add_line T) .nil pass0 (pa_cons (pv 1) (pa_cons (pe_split (pv 4) (pe_str)) pa_nil))))) (pss_one (ps_never)) pss_nil)))
        (pss_cons (ps_if (pt_not (pt_val (pe_meth0 (pv 1) T.cl_Draft T.me_Draft_is_ready (ok_Draft_is_ready T) (hr.mono (by decide)) (b_Draft_is_ready T) .nil pass0))) (pss_one (ps_never)) pss_nil)
        (pss_one (ps_ret (pv 1)))))))), ?_⟩
    walk_at "st"
    walk_at "go"
    refine e_isi (b := true) ty_str (by decide +kernel) ?_
    walk_at "go"
    intro x dx nx ndx hne
    walk_at "go"
    refine ⟨x, dx, rfl, upd_same, fun lc lk lp ds dn H1 d1 kp1 fr1 => ⟨rfl, ?_⟩⟩
    have nx' : upd H dx (.own x) x = none := by rw [upd_ne (Ne.symm hne)]; exact nx
    have sH : Same H (upd (upd H dx (.own x)) x (.ins T.C_Draft dx [])) := (U.same_new ndx).trans (U.same_new nx')
    have s1 : Same H H1 := fun c o e => kp1 c o (ne_of_none e nx) (sH c o e)
    have frA : ∀ c ∈ [lc, lk, lp, ds, dn], H c = none := fun c hc => none_of sH (fr1 c hc)
    walk_at "go"
    refine ⟨regText R, "\n", rfl, rfl, by decide +kernel, ?_, fun L nL => ?_⟩
    · have := text_len ok
      have : (2000000 : Nat) ≤ sizeLine := by decide
      omega
    rw [lines_back ok]
    have sL : Same H1 (upd H1 L (.lst ((regLines R).map V.str))) := U.same_new nL
    walk_at "go"
    refine g_iEnum1 ?_
    walk_at "go"
    refine ⟨L, (regLines R).map V.str, rfl, SqL.of upd_same, ?_⟩
    have nLx : ∀ {c : Addr} {o : HO}, H1 c = some o → c ≠ L := fun e => ne_of_none e nL
    have g0 : ∀ c ∈ [lc, lk, lp, ds, dn], c ≠ L := fun c hc => by
      simp only [List.mem_cons, List.not_mem_nil, or_false] at hc
      rcases hc with rfl | rfl | rfl | rfl | rfl
      · obtain ⟨_, e, _⟩ := d1.hc; exact nLx e
      · obtain ⟨_, e, _⟩ := d1.hk; exact nLx e
      · obtain ⟨_, e, _⟩ := d1.hp; exact nLx e
      · obtain ⟨_, e, _⟩ := d1.hs; exact nLx e
      · exact nLx d1.hn
    refine forI_by walk_enum1 (fun i σ' H' => ∃ (v3 v4 : Option V) (gs : List Col) (ks : List Knd) (ps : List (Str × List V)), σ' = [some (.str (regText R)), some (.ref x), some (.ref L), v3, v4] ∧ DraftX T.C_Line T.C_Tree T.C_Draft H' x dx lc lk lp ds dn gs ks ps ∧ StAt R i gs ks ps ∧ Same H H' ∧ H' L = some (.lst ((regLines R).map V.str)) ∧
      (∀ c ∈ flatG gs, H c = none ∧ c ≠ L)) ?h0 (fun i σ' H' _ ⟨_, _, _, _, _, _, _, _, _, hL, _⟩ => SqL.of hL) ?hs ?hd
    case h0 => exact ⟨none, none, [], [], [], rfl, d1.same sL, ⟨rfl, by rw [Nat.zero_sub]; rfl, by rw [Nat.zero_sub, Nat.zero_sub]; rfl⟩, s1.trans sL, upd_same, fun c hc => by cases hc⟩
    case hs =>
      rintro i it σ' H2 _ hi ⟨v3, v4, gs, ks, ps, rfl, d2, st, s2, hL, fr⟩ ⟨t, a1, a2, rfl, nt, rfl, e1, e2⟩
      cases e1
      replace e2 : ((regLines R).map V.str)[i]? = some a2 := e2
      rw [List.getElem?_map, regLines_eq, List.getElem?_map] at e2
      cases ew : (allWords R)[i]? with
      | none => rw [ew] at e2; cases e2
      | some ws =>
        rw [ew] at e2
        cases e2
        obtain ⟨wne, wf⟩ := words_fine ok ws (List.mem_of_getElem? ew)
        have sT : Same H2 (upd H2 t (.tup [.int ((i : Nat) + 1 : Int), .str (Txt.join " " ws)])) := U.same_new nt
        refine U.g_gtup (SqT.of upd_same) rfl ?_
        walk_at "go"
        refine ⟨Txt.join " " ws, " ", rfl, rfl, by decide +kernel, ?_, fun l nl => ?_⟩
        · have := line_len ok ws (List.mem_of_getElem? ew)
          have : (100000 : Nat) ≤ sizeLine := by decide
          omega
        rw [words_back wne wf]
        have sl : Same H2 (upd (upd H2 t (.tup [.int ((i : Nat) + 1 : Int), .str (Txt.join " " ws)])) l (.lst (ws.map V.str))) := sT.trans (U.same_new nl)
        walk_at "go"
        refine ⟨x, dx, lc, lk, lp, ds, dn, l, gs, ks, ps, R, i, ws, rfl, d2.same sl, upd_same, st, ok, ew, fun H3 gs' ks' ps' d3 st3 kp fr3 => ?_⟩
        walk_at "go"
        have out : ∀ c, (H c ≠ none ∨ c = L) → c ∉ lc :: lk :: lp :: ds :: dn :: flatG gs := fun c hc z => by
          have : H c = none ∧ c ≠ L := by
            have z' : c ∈ [lc, lk, lp, ds, dn] ++ flatG gs := z
            rcases List.mem_append.mp z' with z | z
            · exact ⟨frA c z, g0 c z⟩
            · exact fr c z
          exact hc.elim (fun q => q this.1) this.2
        refine ⟨_, _, gs', ks', ps', rfl, d3, st3, fun c o e => kp c o (out c (Or.inl (by rw [e]; exact fun z => by cases z))) (sl _ _ (s2 c o e)), kp _ _ (out L (Or.inr rfl)) (sl _ _ hL), fun c hc => ?_⟩
        rcases fr3 c hc with z | z
        · exact fr c z
        · exact ⟨none_of (s2.trans sl) z, ne_of_none (sl _ _ hL) z |>.symm⟩
    case hd =>
      rintro σ' H2 ⟨v3, v4, gs, ks, ps, rfl, d2, st, s2, hL, fr⟩
      rw [List.length_map, regLines_eq, List.length_map] at st
      have n : (allWords R).length = R.cols.length + (R.kinds.length + R.persons.length) := by
        unfold allWords
        rw [List.length_append, List.length_append, List.length_map, List.length_map, List.length_map]
      obtain ⟨sg, sk, sp⟩ := st
      rw [List.take_of_length_le (by omega)] at sg sk sp
      subst sk sp
      walk_at "go"
      refine g_meth ?_
      walk_at "go"
      refine ⟨x, dx, _, rfl, d2.hi, dr_no (by decide +kernel) lc lk lp ds dn, ?_⟩
      walk_at "go"
      have lg : gs.length = R.cols.length := by rw [← sg, List.length_map]
      refine ⟨x, dx, lc, lk, lp, ds, dn, gs, R.kinds, R.persons, rfl, d2, by rw [lg]; exact ok.cols.four, fun H3 s3 => ?_⟩
      rw [bare_of ok sg, decide_eq_true (show 0 < gs.length by rw [lg]; exact ok.cols.pos)]
      refine ⟨_, rfl, ?_⟩
      rw [if_neg (show ¬ (!(true && true)) = true by decide)]
      walk_at "go"
      refine kk x dx lc lk lp ds dn gs H3 (s2.trans s3) (d2.same s3) sg fun c hc => ?_
      rcases List.mem_cons.mp hc with z | z
      · rw [z]; exact nx
      · have z' : c ∈ [lc, lk, lp, ds, dn] ++ flatG gs := z
        rcases List.mem_append.mp z' with z | z
        · exact frA c z
        · exact (fr c z).1
end
end Toy

namespace M
open PySem L2 U TL
/-- a register that the program made -/
def cenF (R : Reg) (tc tk tp ds dn : Addr) : List (Str × V) := [("text", .str (regText R)), ("columns", .ref tc), ("kinds", .ref tk), ("persons", .ref tp), ("scales", .ref ds), ("numbers", .ref dn)]
structure CenX (CL CT CR : Addr) (H : Hp) (a dx tc tk tp ds dn : Addr) (gs : List Col) (R : Reg) : Prop where
  hi : H a = some (.ins CR dx (cenF R tc tk tp ds dn))
  hc : ∃ cv, H tc = some (.tup cv) ∧ TupL H cv (R.cols.map colV)
  hk : ∃ kv, H tk = some (.tup kv) ∧ TupL H kv (R.kinds.map kindV)
  hp : ∃ pv, H tp = some (.tup pv) ∧ PerL H pv R.persons
  hs : ∃ kvs, H ds = some (.dK kvs) ∧ SclX CL CT H kvs gs R.kinds
  hg : gs.map (·.1) = R.cols
  hn : H dn = some (.dK (numD 0 R.persons))
theorem ce_text (R : Reg) (tc tk tp ds dn : Addr) : (cenF R tc tk tp ds dn).lookup ("text" : Str) = some (.str (regText R)) := lk_fst
theorem ce_columns (R : Reg) (tc tk tp ds dn : Addr) : (cenF R tc tk tp ds dn).lookup ("columns" : Str) = some (.ref tc) := fld_look (by decide +kernel) lk_fst
theorem ce_kinds (R : Reg) (tc tk tp ds dn : Addr) : (cenF R tc tk tp ds dn).lookup ("kinds" : Str) = some (.ref tk) := fld_look (by decide +kernel) (fld_look (by decide +kernel) lk_fst)
theorem ce_persons (R : Reg) (tc tk tp ds dn : Addr) : (cenF R tc tk tp ds dn).lookup ("persons" : Str) = some (.ref tp) := fld_look (by decide +kernel) (fld_look (by decide +kernel) (fld_look (by decide +kernel) lk_fst))
theorem ce_scales (R : Reg) (tc tk tp ds dn : Addr) : (cenF R tc tk tp ds dn).lookup ("scales" : Str) = some (.ref ds) := fld_look (by decide +kernel) (fld_look (by decide +kernel) (fld_look (by decide +kernel) (fld_look (by decide +kernel) lk_fst)))
theorem ce_numbers (R : Reg) (tc tk tp ds dn : Addr) : (cenF R tc tk tp ds dn).lookup ("numbers" : Str) = some (.ref dn) := fld_look (by decide +kernel) (fld_look (by decide +kernel) (fld_look (by decide +kernel) (fld_look (by decide +kernel) (fld_look (by decide +kernel) lk_fst))))
/-! ### what stays when one instance changes -/
def Off (a : Addr) (H H' : Hp) : Prop := ∀ c o, c ≠ a → H c = some o → H' c = some o
theorem Off.tup {a C dx : Addr} {fs : List (Str × V)} {H H' : Hp} (k : Off a H H') (ha : H a = some (.ins C dx fs)) : TS H H' := fun c xs e => k c _ (fun z => by rw [z, ha] at e; cases e) e
theorem ne_ins {a C dx c : Addr} {fs : List (Str × V)} {H : Hp} {o : HO} (ha : H a = some (.ins C dx fs)) (e : H c = some o) (n : ∀ C dx fs, o ≠ .ins C dx fs) : c ≠ a := fun z => by
  rw [z, ha] at e
  exact n _ _ _ (Option.some.inj e).symm
theorem Off.lst {a C dx c : Addr} {fs : List (Str × V)} {H H' : Hp} {xs : List V} (k : Off a H H') (ha : H a = some (.ins C dx fs)) (e : H c = some (.lst xs)) : H' c = some (.lst xs) := k _ _ (ne_ins ha e fun _ _ _ z => by cases z) e
theorem Off.dK {a C dx c : Addr} {fs : List (Str × V)} {H H' : Hp} {xs : List (Key × V)} (k : Off a H H') (ha : H a = some (.ins C dx fs)) (e : H c = some (.dK xs)) : H' c = some (.dK xs) := k _ _ (ne_ins ha e fun _ _ _ z => by cases z) e
theorem Off.ins {a C dx c C' dx' : Addr} {fs fs' : List (Str × V)} {H H' : Hp} (k : Off a H H') (ha : H a = some (.ins C dx fs)) (n : C' ≠ C) (e : H c = some (.ins C' dx' fs')) : H' c = some (.ins C' dx' fs') := k _ _ (fun z => by
  rw [z, ha] at e
  injection e with e
  injection e with e1
  exact n e1.symm) e
theorem TreeX.off {CT CR : Addr} {H H' : Hp} {b dxb a dx u l : Addr} {fs : List (Str × V)} {ks : List Knd} (k : Off b H H') (hb : H b = some (.ins CR dxb fs)) (n : CT ≠ CR) (h : TreeX CT H a dx u l ks) : TreeX CT H' a dx u l ks :=
  ⟨k.ins hb n h.hi, let ⟨kvs, e, p⟩ := h.hu; ⟨kvs, k.dK hb e, prd_mono (fun _ _ => WayAt.mono (k.tup hb)) p⟩, k.dK hb h.hl, h.hn⟩
theorem ScaleX.off {CL CT CR : Addr} {H H' : Hp} {b dxb : Addr} {fs : List (Str × V)} {v : V} {c : Str × Bool} {ks : List Knd} {g : List Addr} (k : Off b H H') (hb : H b = some (.ins CR dxb fs)) (n : CT ≠ CR) (m : CL ≠ CR) (h : ScaleX CL CT H v c ks g) : ScaleX CL CT H' v c ks g := by
  unfold ScaleX at h ⊢
  split at h
  · rename_i e
    rw [if_pos e]
    obtain ⟨a, dx, u, l, rfl, t, rfl⟩ := h
    exact ⟨a, dx, u, l, rfl, t.off k hb n, rfl⟩
  · rename_i e
    rw [if_neg e]
    obtain ⟨a, dx, rfl, t, rfl⟩ := h
    exact ⟨a, dx, rfl, k.ins hb m t, rfl⟩
theorem SclX.off {CL CT CR : Addr} {H H' : Hp} {b dxb : Addr} {fs : List (Str × V)} {ks : List Knd} (k : Off b H H') (hb : H b = some (.ins CR dxb fs)) (n : CT ≠ CR) (m : CL ≠ CR) : ∀ {kvs : List (Key × V)} {gs : List Col}, SclX CL CT H kvs gs ks → SclX CL CT H' kvs gs ks
  | _, _, .nil => .nil
  | _, _, .cons h r => .cons ⟨h.1, h.2.off k hb n m⟩ (SclX.off k hb n m r)
theorem Off.upd {a : Addr} {H H' : Hp} {o : HO} (k : Off a H H') : Off a H (upd H' a o) := fun c u hc e => by
  rw [upd_ne hc]
  exact k c u hc e
theorem Off.same {a : Addr} {H H1 H' : Hp} (k : Off a H H1) (s : Same H1 H') : Off a H H' := fun c u hc e => s _ _ (k c u hc e)
theorem CenX.same {CL CT CR : Addr} {H H' : Hp} {a dx tc tk tp ds dn : Addr} {gs : List Col} {R : Reg} (s : Same H H') (d : CenX CL CT CR H a dx tc tk tp ds dn gs R) : CenX CL CT CR H' a dx tc tk tp ds dn gs R := by
  have t : TS H H' := TS.of s
  obtain ⟨cv, c1, c2⟩ := d.hc
  obtain ⟨kv, k1, k2⟩ := d.hk
  obtain ⟨pv, p1, p2⟩ := d.hp
  obtain ⟨kvs, s1, s2⟩ := d.hs
  exact ⟨s _ _ d.hi, ⟨cv, s _ _ c1, c2.mono t⟩, ⟨kv, s _ _ k1, k2.mono t⟩, ⟨pv, s _ _ p1, p2.mono t⟩, ⟨kvs, s _ _ s1, s2.keep (Keep.of s) fun c _ h => by cases h⟩, d.hg, s _ _ d.hn⟩
end M
namespace Toy
open PySem L2 U M TL ZV
section
variable {P : Program} {w : World} {K : PySem.W.Frag} {mg : Str → Option Value} {base : Heap}
theorem sc_Register___init__ : FnScope ["self", "text", "draft"] ["self", "text"] (defScope s_Register___init__) := ⟨rfl, rfl, rfl, by decide +kernel, rfl, by decide +kernel, by decide +kernel⟩
def sp_Register_init (CL CT CR : Addr) : Sp := fun vs H Q _ => ∃ (a dx : Addr) (R : Reg), vs = [.ref a, .str (regText R)] ∧ H a = some (.ins CR dx []) ∧ RegOk R ∧ ∀ (tc tk tp ds dn : Addr) (gs : List Col) (H' : Hp), CenX CL CT CR H' a dx tc tk tp ds dn gs R → Off a H H' → Q .non H'
theorem ok_Register___init__ (T : Tx K mg) : FnOk P w K mg base CX0 9 T.a_Register___init__ T.fd_Register___init__ ["self", "text"] (sp_Register_init T.C_Line T.C_Tree T.C_Register) := by
  refine T.F_Register___init__.ok sc_Register___init__ (fun vs H Q E h => ?_) (fun cdv A outer s H vs Q E hr h => ?_)
  · obtain ⟨a, dx, R, rfl, _⟩ := h
    rfl
  · obtain ⟨a, dx, R, rfl, ha, ok, kk⟩ := h
    have hu := hu_of hr
    have hu64 := hr.units
    have nT : T.C_Tree ≠ T.C_Register := fun z => by
      have e := T.ki_Register_Tree
      rw [← z, T.ki_Tree_Tree] at e
      cases e
    have nL : T.C_Line ≠ T.C_Register := fun z => by
      have e := T.ki_Line_Register
      rw [z, T.ki_Register_Register] at e
      cases e
    refine ⟨_, (pss_cons (ps_set (i := 2) sc_Register___init__.nd rfl (Or.inl rfl) (pe_call (ok_draft_in T) (hr.mono (by decide)) rfl T.m_draft_in T.F_draft_in.kp (b_draft_in T) .nil pass0 (pa_cons (pv 1) pa_nil)))
        (pss_cons (ps_fld (pv 0) (pv 1) rfl)
        (pss_cons (ps_fld (pv 0) (pe_callTy (call_uTuple (K := K) rfl) (by rfl) T.n_tuple (by decide +kernel) (pa_cons (u_fld (K := K) rfl (pv 2) rfl) pa_nil)) rfl)
        (pss_cons (ps_fld (pv 0) (pe_callTy (call_uTuple (K := K) rfl) (by rfl) T.n_tuple (by decide +kernel) (pa_cons (u_fld (K := K) rfl (pv 2) rfl) pa_nil)) rfl)
        (pss_cons (ps_fld (pv 0) (pe_callTy (call_uTuple (K := K) rfl) (by rfl) T.n_tuple (by decide +kernel) (pa_cons (u_fld (K := K) rfl (pv 2) rfl) pa_nil)) rfl)
        (pss_cons (ps_fld (pv 0) (u_fld (K := K) rfl (pv 2) rfl) rfl)
        (pss_one (ps_fld (pv 0) (u_fld (K := K) rfl (pv 2) rfl) rfl)))))))), ?_⟩
    walk_at "st"
    walk_at "go"
    refine ⟨R, rfl, ok, fun d ddx lc lk lp ds dn gs H1 s1 dr hg fr => ?_⟩
    have da : d ≠ a := fun z => by rw [← z, fr d List.mem_cons_self] at ha; cases ha
    have ha1 := s1 _ _ ha
    walk_at "go"
    refine g_sfld ?_
    walk_at "go"
    refine ⟨a, T.C_Register, dx, [], rfl, ha1, T.cl_Register, T.na_Register_text, by decide, ?_⟩
    have k1 : Off a H1 (upd H1 a (.ins T.C_Register dx (putF "text" (.str (regText R)) []))) := Off.upd fun c o _ e => e
    have a1 : (upd H1 a (.ins T.C_Register dx (putF "text" (.str (regText R)) []))) a = some (.ins T.C_Register dx [("text", .str (regText R))]) := upd_same
    generalize (upd H1 a (.ins T.C_Register dx (putF "text" (.str (regText R)) []))) = H2 at k1 a1 ⊢
    have col : ∀ {Hn : Hp}, Off a H1 Hn → Hn d = some (.ins T.C_Draft ddx (draftF lc lk lp ds dn)) := fun k => k _ _ da dr.hi
    obtain ⟨cv, hcv, tcv⟩ := dr.hc
    obtain ⟨kv, hkv, tkv⟩ := dr.hk
    obtain ⟨pv, hpv, tpv⟩ := dr.hp
    walk_at "go"
    refine g_sfld ?_
    walk_at "go"
    refine g_fld ?_
    walk_at "go"
    refine ⟨d, T.C_Draft, ddx, _, _, rfl, col k1, T.cl_Draft, T.na_Draft_columns, dr_columns lc lk lp ds dn, ?_⟩
    walk_at "go"
    refine U.g_tupL (SqL.of (k1.lst ha1 hcv)) fun tc ntc => ?_
    walk_at "go"
    have qtc : tc ≠ a := fun z => by rw [z, a1] at ntc; cases ntc
    refine ⟨a, T.C_Register, dx, _, rfl, (upd_ne (Ne.symm qtc)).trans a1, T.cl_Register, T.na_Register_columns, by show 1 < 1000; decide, ?_⟩
    have e2 : putF ("columns" : Str) (.ref tc) ([(("text" : Str), V.str (regText R))] : List (Str × V)) = [(("text" : Str), V.str (regText R)), ("columns", V.ref tc)] := by rw [putF_skip (by decide +kernel)]; rfl
    rw [e2]
    have k2 : Off a H1 (upd (upd H2 tc (.tup cv)) a (.ins T.C_Register dx [(("text" : Str), V.str (regText R)), ("columns", V.ref tc)])) := (k1.same (U.same_new ntc)).upd
    have a2 : (upd (upd H2 tc (.tup cv)) a (.ins T.C_Register dx [(("text" : Str), V.str (regText R)), ("columns", V.ref tc)])) a = some (.ins T.C_Register dx [(("text" : Str), V.str (regText R)), ("columns", V.ref tc)]) := upd_same
    have htc : (upd (upd H2 tc (.tup cv)) a (.ins T.C_Register dx [(("text" : Str), V.str (regText R)), ("columns", V.ref tc)])) tc = some (.tup cv) := (upd_ne qtc).trans upd_same
    have m2 : ∀ c xs, H2 c = some (.tup xs) → (upd (upd H2 tc (.tup cv)) a (.ins T.C_Register dx [(("text" : Str), V.str (regText R)), ("columns", V.ref tc)])) c = some (.tup xs) := fun c xs e => (upd_ne (ne_ins a1 e fun _ _ _ z => by cases z)).trans (U.same_new ntc _ _ e)
    generalize (upd (upd H2 tc (.tup cv)) a (.ins T.C_Register dx [(("text" : Str), V.str (regText R)), ("columns", V.ref tc)])) = H3 at k2 a2 htc m2 ⊢
    walk_at "go"
    refine g_sfld ?_
    walk_at "go"
    refine g_fld ?_
    walk_at "go"
    refine ⟨d, T.C_Draft, ddx, _, _, rfl, col k2, T.cl_Draft, T.na_Draft_kinds, dr_kinds lc lk lp ds dn, ?_⟩
    walk_at "go"
    refine U.g_tupL (SqL.of (k2.lst ha1 hkv)) fun tk ntk => ?_
    walk_at "go"
    have qtk : tk ≠ a := fun z => by rw [z, a2] at ntk; cases ntk
    refine ⟨a, T.C_Register, dx, _, rfl, (upd_ne (Ne.symm qtk)).trans a2, T.cl_Register, T.na_Register_kinds, by show 2 < 1000; decide, ?_⟩
    have e3 : putF ("kinds" : Str) (.ref tk) ([(("text" : Str), V.str (regText R)), ("columns", V.ref tc)] : List (Str × V)) = [(("text" : Str), V.str (regText R)), ("columns", V.ref tc), ("kinds", V.ref tk)] := by rw [putF_skip (by decide +kernel), putF_skip (by decide +kernel)]; rfl
    rw [e3]
    have k3 : Off a H1 (upd (upd H3 tk (.tup kv)) a (.ins T.C_Register dx [(("text" : Str), V.str (regText R)), ("columns", V.ref tc), ("kinds", V.ref tk)])) := (k2.same (U.same_new ntk)).upd
    have a3 : (upd (upd H3 tk (.tup kv)) a (.ins T.C_Register dx [(("text" : Str), V.str (regText R)), ("columns", V.ref tc), ("kinds", V.ref tk)])) a = some (.ins T.C_Register dx [(("text" : Str), V.str (regText R)), ("columns", V.ref tc), ("kinds", V.ref tk)]) := upd_same
    have htk : (upd (upd H3 tk (.tup kv)) a (.ins T.C_Register dx [(("text" : Str), V.str (regText R)), ("columns", V.ref tc), ("kinds", V.ref tk)])) tk = some (.tup kv) := (upd_ne qtk).trans upd_same
    have m3 : ∀ c xs, H3 c = some (.tup xs) → (upd (upd H3 tk (.tup kv)) a (.ins T.C_Register dx [(("text" : Str), V.str (regText R)), ("columns", V.ref tc), ("kinds", V.ref tk)])) c = some (.tup xs) := fun c xs e => (upd_ne (ne_ins a2 e fun _ _ _ z => by cases z)).trans (U.same_new ntk _ _ e)
    generalize (upd (upd H3 tk (.tup kv)) a (.ins T.C_Register dx [(("text" : Str), V.str (regText R)), ("columns", V.ref tc), ("kinds", V.ref tk)])) = H4 at k3 a3 htk m3 ⊢
    walk_at "go"
    refine g_sfld ?_
    walk_at "go"
    refine g_fld ?_
    walk_at "go"
    refine ⟨d, T.C_Draft, ddx, _, _, rfl, col k3, T.cl_Draft, T.na_Draft_persons, dr_persons lc lk lp ds dn, ?_⟩
    walk_at "go"
    refine U.g_tupL (SqL.of (k3.lst ha1 hpv)) fun tp ntp => ?_
    walk_at "go"
    have qtp : tp ≠ a := fun z => by rw [z, a3] at ntp; cases ntp
    refine ⟨a, T.C_Register, dx, _, rfl, (upd_ne (Ne.symm qtp)).trans a3, T.cl_Register, T.na_Register_persons, by show 3 < 1000; decide, ?_⟩
    have e4 : putF ("persons" : Str) (.ref tp) ([(("text" : Str), V.str (regText R)), ("columns", V.ref tc), ("kinds", V.ref tk)] : List (Str × V)) = [(("text" : Str), V.str (regText R)), ("columns", V.ref tc), ("kinds", V.ref tk), ("persons", V.ref tp)] := by rw [putF_skip (by decide +kernel), putF_skip (by decide +kernel), putF_skip (by decide +kernel)]; rfl
    rw [e4]
    have k4 : Off a H1 (upd (upd H4 tp (.tup pv)) a (.ins T.C_Register dx [(("text" : Str), V.str (regText R)), ("columns", V.ref tc), ("kinds", V.ref tk), ("persons", V.ref tp)])) := (k3.same (U.same_new ntp)).upd
    have a4 : (upd (upd H4 tp (.tup pv)) a (.ins T.C_Register dx [(("text" : Str), V.str (regText R)), ("columns", V.ref tc), ("kinds", V.ref tk), ("persons", V.ref tp)])) a = some (.ins T.C_Register dx [(("text" : Str), V.str (regText R)), ("columns", V.ref tc), ("kinds", V.ref tk), ("persons", V.ref tp)]) := upd_same
    have htp : (upd (upd H4 tp (.tup pv)) a (.ins T.C_Register dx [(("text" : Str), V.str (regText R)), ("columns", V.ref tc), ("kinds", V.ref tk), ("persons", V.ref tp)])) tp = some (.tup pv) := (upd_ne qtp).trans upd_same
    have m4 : ∀ c xs, H4 c = some (.tup xs) → (upd (upd H4 tp (.tup pv)) a (.ins T.C_Register dx [(("text" : Str), V.str (regText R)), ("columns", V.ref tc), ("kinds", V.ref tk), ("persons", V.ref tp)])) c = some (.tup xs) := fun c xs e => (upd_ne (ne_ins a3 e fun _ _ _ z => by cases z)).trans (U.same_new ntp _ _ e)
    generalize (upd (upd H4 tp (.tup pv)) a (.ins T.C_Register dx [(("text" : Str), V.str (regText R)), ("columns", V.ref tc), ("kinds", V.ref tk), ("persons", V.ref tp)])) = H5 at k4 a4 htp m4 ⊢
    walk_at "go"
    refine g_sfld ?_
    walk_at "go"
    refine g_fld ?_
    walk_at "go"
    refine ⟨d, T.C_Draft, ddx, _, _, rfl, col k4, T.cl_Draft, T.na_Draft_scales, dr_scales lc lk lp ds dn, ?_⟩
    walk_at "go"
    refine ⟨a, T.C_Register, dx, _, rfl, a4, T.cl_Register, T.na_Register_scales, by show 4 < 1000; decide, ?_⟩
    have e5 : putF ("scales" : Str) (.ref ds) ([(("text" : Str), V.str (regText R)), ("columns", V.ref tc), ("kinds", V.ref tk), ("persons", V.ref tp)] : List (Str × V)) = [(("text" : Str), V.str (regText R)), ("columns", V.ref tc), ("kinds", V.ref tk), ("persons", V.ref tp), ("scales", V.ref ds)] := by rw [putF_skip (by decide +kernel), putF_skip (by decide +kernel), putF_skip (by decide +kernel), putF_skip (by decide +kernel)]; rfl
    rw [e5]
    have k5 : Off a H1 (upd H5 a (.ins T.C_Register dx [(("text" : Str), V.str (regText R)), ("columns", V.ref tc), ("kinds", V.ref tk), ("persons", V.ref tp), ("scales", V.ref ds)])) := k4.upd
    have a5 : (upd H5 a (.ins T.C_Register dx [(("text" : Str), V.str (regText R)), ("columns", V.ref tc), ("kinds", V.ref tk), ("persons", V.ref tp), ("scales", V.ref ds)])) a = some (.ins T.C_Register dx [(("text" : Str), V.str (regText R)), ("columns", V.ref tc), ("kinds", V.ref tk), ("persons", V.ref tp), ("scales", V.ref ds)]) := upd_same
    have m5 : ∀ c xs, H5 c = some (.tup xs) → (upd H5 a (.ins T.C_Register dx [(("text" : Str), V.str (regText R)), ("columns", V.ref tc), ("kinds", V.ref tk), ("persons", V.ref tp), ("scales", V.ref ds)])) c = some (.tup xs) := fun c xs e => upd_ne (ne_ins a4 e fun _ _ _ z => by cases z) |>.trans e
    generalize (upd H5 a (.ins T.C_Register dx [(("text" : Str), V.str (regText R)), ("columns", V.ref tc), ("kinds", V.ref tk), ("persons", V.ref tp), ("scales", V.ref ds)])) = H6 at k5 a5 m5 ⊢
    walk_at "go"
    refine g_sfld ?_
    walk_at "go"
    refine g_fld ?_
    walk_at "go"
    refine ⟨d, T.C_Draft, ddx, _, _, rfl, col k5, T.cl_Draft, T.na_Draft_numbers, dr_numbers lc lk lp ds dn, ?_⟩
    walk_at "go"
    refine ⟨a, T.C_Register, dx, _, rfl, a5, T.cl_Register, T.na_Register_numbers, by show 5 < 1000; decide, ?_⟩
    have e6 : putF ("numbers" : Str) (.ref dn) ([(("text" : Str), V.str (regText R)), ("columns", V.ref tc), ("kinds", V.ref tk), ("persons", V.ref tp), ("scales", V.ref ds)] : List (Str × V)) = [(("text" : Str), V.str (regText R)), ("columns", V.ref tc), ("kinds", V.ref tk), ("persons", V.ref tp), ("scales", V.ref ds), ("numbers", V.ref dn)] := by rw [putF_skip (by decide +kernel), putF_skip (by decide +kernel), putF_skip (by decide +kernel), putF_skip (by decide +kernel), putF_skip (by decide +kernel)]; rfl
    rw [e6]
    have k6 : Off a H1 (upd H6 a (.ins T.C_Register dx [(("text" : Str), V.str (regText R)), ("columns", V.ref tc), ("kinds", V.ref tk), ("persons", V.ref tp), ("scales", V.ref ds), ("numbers", V.ref dn)])) := k5.upd
    have a6 : (upd H6 a (.ins T.C_Register dx [(("text" : Str), V.str (regText R)), ("columns", V.ref tc), ("kinds", V.ref tk), ("persons", V.ref tp), ("scales", V.ref ds), ("numbers", V.ref dn)])) a = some (.ins T.C_Register dx [(("text" : Str), V.str (regText R)), ("columns", V.ref tc), ("kinds", V.ref tk), ("persons", V.ref tp), ("scales", V.ref ds), ("numbers", V.ref dn)]) := upd_same
    have m6 : ∀ c xs, H6 c = some (.tup xs) → (upd H6 a (.ins T.C_Register dx [(("text" : Str), V.str (regText R)), ("columns", V.ref tc), ("kinds", V.ref tk), ("persons", V.ref tp), ("scales", V.ref ds), ("numbers", V.ref dn)])) c = some (.tup xs) := fun c xs e => upd_ne (ne_ins a5 e fun _ _ _ z => by cases z) |>.trans e
    generalize (upd H6 a (.ins T.C_Register dx [(("text" : Str), V.str (regText R)), ("columns", V.ref tc), ("kinds", V.ref tk), ("persons", V.ref tp), ("scales", V.ref ds), ("numbers", V.ref dn)])) = H7 at k6 a6 m6 ⊢
    walk_at "go"
    have tsx := k6.tup ha1
    obtain ⟨kvs, es, sx⟩ := dr.hs
    refine kk tc tk tp ds dn gs H7 ⟨a6, ⟨cv, m6 _ _ (m5 _ _ (m4 _ _ (m3 _ _ htc))), ?_⟩, ⟨kv, m6 _ _ (m5 _ _ (m4 _ _ htk)), tkv.mono tsx⟩, ⟨pv, m6 _ _ (m5 _ _ htp), tpv.mono tsx⟩, ⟨kvs, k6.dK ha1 es, sx.off k6 ha1 nT nL⟩, hg, k6.dK ha1 dr.hn⟩ (fun c o hc e => k6 c o hc (s1 c o e))
    rw [← hg, List.map_map]
    exact tcv.mono tsx
end
end Toy

namespace Toy
open PySem L2 U M
section
variable {P : Program} {w : World} {K : PySem.W.Frag} {mg : Str → Option Value} {base : Heap}
theorem sc__law_register_text : FnScope ["own", "rows", "column", "name", "over", "loss", "values", "word", "value"] ["own"] (defScope s__law_register_text) := ⟨rfl, rfl, rfl, by decide +kernel, rfl, by decide +kernel, by decide +kernel⟩
def sp_register_text : Sp := fun vs H Q _ => ∃ (o lc lk lp : Addr) (R : Reg), vs = [.ref o] ∧ OwnX H o lc lk lp R ∧ RegOk R ∧ ∀ (H' : Hp), Same H H' → Q (.str (regText R)) H'
theorem ok__law_register_text (T : Tx K mg) : FnOk P w K mg base CX0 1 T.a__law_register_text T.fd__law_register_text ["own"] sp_register_text := by
  refine T.F__law_register_text.ok sc__law_register_text (fun vs H Q E h => ?_) (fun cdv A outer s H vs Q E hr h => ?_)
  · obtain ⟨o, lc, lk, lp, R, rfl, _⟩ := h
    rfl
  · obtain ⟨o, lc, lk, lp, R, rfl, I, ok, kk⟩ := h
    have hu := hu_of hr
    have hu64 := hr.units
    refine ⟨_, (pss_cons (ps_setLc (i := 1) rfl sc__law_register_text.nd rfl rfl (sw_true rfl rfl rfl (by decide +kernel)) (u_list (K := K) rfl (pe_dget hu (pv 0) (pe_str) (fun _ _ => rfl))) (blkOk_by (own := [("name", 3), ("word", 7)]) (N := ["own", "rows", "column", "name", "over", "loss", "values", "word", "value"]) (sc := defScope s__law_register_text) (by decide +kernel)) (fun _ _ _ _ _ => (u_gtup (K := K) (n := 2) rfl rfl (pgs_cons (pg_name (i := 3) sc__law_register_text.nd rfl (Or.inl rfl)) (pgs_cons (pg_name (i := 7) sc__law_register_text.nd rfl (Or.inl rfl)) pgs_nil)))) (fun _ _ _ _ _ => pts_nil) (fun _ _ _ _ _ => (pe_op (op_uAdd (K := K) rfl) (pe_op (op_uAdd (K := K) rfl) (pe_op (op_uAdd (K := K) rfl) (pe_str) (pv 3)) (pe_str)) (pv 7))))
        (pss_cons (ps_for PassesOwn.never rfl (u_list (K := K) rfl (pe_dget hu (pv 0) (pe_str) (fun _ _ => rfl))) (u_gtup (K := K) (n := 4) rfl rfl (pgs_cons (pg_name (i := 2) sc__law_register_text.nd rfl (Or.inl rfl)) (pgs_cons (pg_name (i := 3) sc__law_register_text.nd rfl (Or.inl rfl)) (pgs_cons (pg_name (i := 4) sc__law_register_text.nd rfl (Or.inl rfl)) (pgs_cons (pg_name (i := 5) sc__law_register_text.nd rfl (Or.inl rfl)) pgs_nil))))) (pss_one (ps_expr (pe_bm PySem.F.plainAttrs_list PySem.F.slot_list_append PySem.F.type_list_append mt_append (pv 1) (pa_cons (pe_join (pe_str) (pe_lst (pa_cons (pe_str) (pa_cons (pv 2) (pa_cons (pv 3) (pa_cons (pe_ifExp (pt_cmpR op_isN (pv 4) pe_non (nomark _)) (pe_str) (pv 4)) (pa_cons (pe_callTy call_uStr (by rfl) T.n_str (by decide +kernel) (pa_cons (pv 5) pa_nil)) pa_nil))))))) pa_nil)))))
        (pss_cons (ps_for PassesOwn.never rfl (u_list (K := K) rfl (pe_dget hu (pv 0) (pe_str) (fun _ _ => rfl))) (u_gtup (K := K) (n := 2) rfl rfl (pgs_cons (pg_name (i := 3) sc__law_register_text.nd rfl (Or.inl rfl)) (pgs_cons (pg_name (i := 6) sc__law_register_text.nd rfl (Or.inl rfl)) pgs_nil))) (pss_one (ps_expr (pe_bm PySem.F.plainAttrs_list PySem.F.slot_list_append PySem.F.type_list_append mt_append (pv 1) (pa_cons (pe_join (pe_str) (pe_op (op_uAdd (K := K) rfl) (pe_lst (pa_cons (pe_str) (pa_cons (pv 3) pa_nil))) (pe_lc rfl sc__law_register_text.nd (u_tup (K := K) rfl (pv 6)) (blkOk_by (own := [("value", 8)]) (N := ["own", "rows", "column", "name", "over", "loss", "values", "word", "value"]) (sc := defScope s__law_register_text) (by decide +kernel)) (fun _ _ _ _ _ => (pg_name (i := 8) sc__law_register_text.nd rfl (Or.inl rfl))) (fun _ _ _ _ _ => pts_nil) (fun _ _ _ _ _ => (pe_callTy call_uStr (by rfl) T.n_str (by decide +kernel) (pa_cons (pv 8) pa_nil)))))) pa_nil)))))
        (pss_one (ps_ret (pe_join (pe_str) (pv 1))))))), ?_⟩
    walk_at "st"
    walk_at "go"
    refine e_dgetS I.d (own_c lc lk lp) ?_
    obtain ⟨cv, hc1, hc2⟩ := I.c
    have hcl := prd_len hc2
    rw [List.length_map] at hcl
    have c4 := ok.cols.four
    refine e_list (SqL.of hc1) ?_
    refine lcI_same walk_list (by omega) (fun i => (R.cols[i]?).map fun c => .str (colLine c)) (fun H' s => s.seq (SqL.of hc1)) (fun i H' x H'' y => by rw [y.1]; exact Same.refl _) (fun i x H' H'' A B hi s' y kA kB => ?_) fun r H1 nr s1 hr1 => ?_
    · obtain ⟨rfl, ex⟩ := y
      obtain ⟨xs, exs, a, rfl, ha⟩ := prd_at hc2 ex
      rw [List.getElem?_map] at exs
      cases ec : R.cols[i]? with
      | none => rw [ec] at exs; cases exs
      | some c =>
        rw [ec] at exs kA
        cases exs
        have ha' : H'' a = some (HO.tup [V.str c.1, V.str (wordOf c.2)]) := s' _ _ ha
        have nm := ok.cols.nm c (List.mem_of_getElem? ec)
        have big : (100 : Nat) ≤ sizeLine := by decide
        have l1 := (isName_out nm).2.1
        have l2 := wordOf_len c.2
        have e1 : ("column " : Str).length = 7 := by decide +kernel
        have e2 : (" " : Str).length = 1 := by decide +kernel
        walk_at "go"
        refine ⟨rfl, ?_⟩
        walk_at "go"
        refine U.g_addS (by omega) ?_
        walk_at "go"
        refine U.g_addS (by rw [len_app]; omega) ?_
        walk_at "go"
        refine U.g_addS (by rw [len_app, len_app]; omega) ?_
        exact kA _ _ rfl (Same.refl _)
    rw [hcl, rng_map] at hr1
    have I1 := own_same I s1
    walk_at "go"
    refine e_dgetS I1.d (own_k lc lk lp) ?_
    obtain ⟨kv, hk1, hk2⟩ := I1.k
    have hkl := prd_len hk2
    rw [List.length_map] at hkl
    refine e_list (SqL.of hk1) ?_
    have rk : r ≠ lk := by
      intro e
      subst e
      obtain ⟨kv', q, _⟩ := I.k
      rw [nr] at q
      cases q
    have k240 : R.kinds.length ≤ 240 := by
      have := kinds_len ok.kinds.of fun c hc => by
        cases e : c.2 with
        | true => exact (ok.kinds.each c hc e).2.2
        | false =>
          have : (R.kinds.filter fun k => decide (k.col = c.1)) = [] := List.filter_eq_nil_iff.mpr fun k hk z => by
            have h1 := ok.kinds.of k hk
            have h2 := ok.cols.nd
            have := nd_fst h2 hc h1 (of_decide_eq_true z).symm
            rw [this] at e
            cases e
          rw [this]
          exact Nat.zero_le _
      omega
    refine forI_by walk_list (fun i σ' H' => ∃ (v2 v3 v4 v5 v6 : Option V), σ' = [some (.ref o), some (.ref r), v2, v3, v4, v5, v6, none, none] ∧ Same H H' ∧ H' r = some (.lst ((R.cols.map colLine ++ (R.kinds.take i).map fun k => Txt.join " " (kindWords k)).map V.str)))
      ⟨none, none, none, none, none, rfl, s1, by rw [hr1, List.take_zero, List.map_nil, List.append_nil, List.map_map]; rfl⟩ (fun i σ' H' _ ⟨_, _, _, _, _, _, s', _⟩ => by
        obtain ⟨kv', q1, _⟩ := I.k
        have e := s1 _ _ q1
        rw [hk1] at e
        cases e
        exact SqL.of (s' _ _ q1)) ?_ ?_
    · rintro i x σ' _ H' hi ⟨v2, v3, v4, v5, v6, rfl, s', hr⟩ ⟨rfl, ex⟩
      obtain ⟨kv', q1, q2⟩ := I.k
      have e := s1 _ _ q1
      rw [hk1] at e
      cases e
      obtain ⟨xs, exs, a, rfl, ha⟩ := prd_at q2 ex
      rw [List.getElem?_map] at exs
      cases ek : R.kinds[i]? with
      | none => rw [ek] at exs; cases exs
      | some k =>
        rw [ek] at exs
        cases exs
        replace ha : _ = some (HO.tup [V.str k.col, V.str k.name, upV k.up, V.int k.loss]) := s' _ _ ha
        have hkm := List.mem_of_getElem? ek
        obtain ⟨z1, z2⟩ := kindLine_len ok.kinds ok.cols.nm k hkm
        have lo := (KOk.loss (ok.kinds.each _ (ok.kinds.of k hkm) rfl).1) k (List.mem_filter.mpr ⟨hkm, decide_eq_true rfl⟩)
        have tk : R.kinds.take (i + 1) = R.kinds.take i ++ [k] := by rw [List.take_succ, ek]; rfl
        have fin : ∀ (H4 : Hp), Same H H4 → H4 r = some (.lst ((R.cols.map colLine ++ (R.kinds.take i).map fun k => Txt.join " " (kindWords k)).map V.str)) → Same H (upd H4 r (.lst ((R.cols.map colLine ++ (R.kinds.take i).map fun k => Txt.join " " (kindWords k)).map V.str ++ [.str (Txt.join " " (kindWords k))]))) ∧ (upd H4 r (.lst ((R.cols.map colLine ++ (R.kinds.take i).map fun k => Txt.join " " (kindWords k)).map V.str ++ [.str (Txt.join " " (kindWords k))]))) r = some (.lst ((R.cols.map colLine ++ (R.kinds.take (i + 1)).map fun k => Txt.join " " (kindWords k)).map V.str)) := fun H4 s4 h4 => ⟨same_mut s4 nr, by rw [upd_same, tk]; simp⟩
        have ll : ((R.cols.map colLine ++ (R.kinds.take i).map fun k => Txt.join " " (kindWords k)).map V.str).length ≤ 1000 := by
          rw [List.length_map, List.length_append, List.length_map, List.length_map, List.length_take]
          omega
        have upq : upV k.up = .non ∨ upV k.up = .str (upS k.up) := by cases k.up <;> first | exact Or.inl rfl | exact Or.inr rfl
        have upn : upV k.up = .non → upS k.up = "none" := by cases k.up <;> first | (intro _; rfl) | (intro z; cases z)
        have sz : ((kindWords k).map (·.length)).sum + (kindWords k).length * (" " : Str).length ≤ 16777216 := by
          have : (kindWords k).length = 5 := rfl
          have h6 : (" " : Str).length = 1 := by decide +kernel
          rw [this, h6]
          omega
        walk_at "go"
        refine U.g_2 (fun cc => ?_) (fun cc => ?_)
        · have cc := of_decide_eq_true cc
          walk_at "go"
          refine ⟨by show 5 ≤ sizeLine; decide, fun q nq => ?_⟩
          refine e_joinX (kindWords k) (SqL.of (by rw [upd_same]; show _ = some (HO.lst [V.str "kind", V.str k.col, V.str k.name, V.str (upS k.up), V.str (toString k.loss)]); rw [upn cc])) sz ?_
          walk_at "go"
          refine U.g_appL (get_new nq hr) (by omega) ?_
          obtain ⟨f1, f2⟩ := fin _ (fun b u e => same_new nq b u (s' b u e)) (get_new (o := .lst [V.str "kind", V.str k.col, V.str k.name, V.str "none", V.str (toString k.loss)]) nq hr)
          exact ⟨_, _, _, _, _, rfl, f1, f2⟩
        · have cc : ¬ upV k.up = .non := of_decide_eq_false cc
          have cc := upq.resolve_left cc
          rw [cc]
          walk_at "go"
          refine ⟨by show 5 ≤ sizeLine; decide, fun q nq => ?_⟩
          refine e_joinX (kindWords k) (SqL.of upd_same) sz ?_
          walk_at "go"
          refine U.g_appL (get_new nq hr) (by omega) ?_
          obtain ⟨f1, f2⟩ := fin _ (fun b u e => same_new nq b u (s' b u e)) (get_new (o := .lst [V.str "kind", V.str k.col, V.str k.name, V.str (upS k.up), V.str (toString k.loss)]) nq hr)
          exact ⟨_, _, _, _, _, rfl, f1, f2⟩
    · rintro σ' H2 ⟨v2, v3, v4, v5, v6, rfl, s2, hr2⟩
      rw [hkl, List.take_of_length_le (Nat.le_refl _)] at hr2
      walk_at "go"
      have I2 := own_same I s2
      refine e_dgetS I2.d (own_p lc lk lp) ?_
      obtain ⟨pv, hp1, hp2⟩ := I2.p
      have hpl := prd_len hp2
      have p60 := ok.pl
      refine e_list (SqL.of hp1) ?_
      refine forI_by walk_list (fun i σ' H' => ∃ (v2 v3 v4 v5 v6 v7 : Option V), σ' = [some (.ref o), some (.ref r), v2, v3, v4, v5, v6, none, none] ∧ Same H H' ∧ H' r = some (.lst ((R.cols.map colLine ++ (R.kinds.map fun k => Txt.join " " (kindWords k)) ++ (R.persons.take i).map fun p => Txt.join " " (perWords p)).map V.str)))
        ⟨v2, v3, v4, v5, v6, none, rfl, s2, by rw [hr2, List.take_zero, List.map_nil, List.append_nil]⟩ (fun i σ' H' _ ⟨_, _, _, _, _, _, _, s', _⟩ => by
          obtain ⟨pv', q1, _⟩ := I.p
          have e := s2 _ _ q1
          rw [hp1] at e
          cases e
          exact SqL.of (s' _ _ q1)) ?_ ?_
      · rintro i x σ' _ H' hi ⟨v2, v3, v4, v5, v6, v7, rfl, s', hr⟩ ⟨rfl, ex⟩
        obtain ⟨pv', q1, q2⟩ := I.p
        have e := s2 _ _ q1
        rw [hp1] at e
        cases e
        obtain ⟨p, exs, a, b, rfl, ha, hb⟩ := prd_at q2 ex
        have hpm := List.mem_of_getElem? exs
        obtain ⟨z1, z2, z3⟩ := perLine_len ok p hpm
        have pok := (ok.pk p hpm).2
        have pl := prd_len pok
        have tk : R.persons.take (i + 1) = R.persons.take i ++ [p] := by rw [List.take_succ, exs]; rfl
        have ll : ((R.cols.map colLine ++ (R.kinds.map fun k => Txt.join " " (kindWords k)) ++ (R.persons.take i).map fun p => Txt.join " " (perWords p)).map V.str).length ≤ 1000 := by
          rw [List.length_map, List.length_append, List.length_append, List.length_map, List.length_map, List.length_map, List.length_take]
          omega
        replace ha := s' _ _ ha
        replace hb := s' _ _ hb
        walk_at "go"
        refine ⟨by show 2 ≤ sizeLine; decide, fun q nq => ?_⟩
        walk_at "go"
        refine e_tup (SqT.of (get_new nq hb)) ?_
        refine lcI_tup (fun H'' s'' => SqT.of (s'' _ _ (get_new nq hb))) (by omega) (fun v => some (.str (vS v))) (fun v H3 A B hv s3 kA kB => ?_) fun E H3 nE s3 hE => ?_
        · have hvo : (∃ z : Int, v = .int z ∧ -1000000 ≤ z ∧ z ≤ 1000000) ∨ ∃ s : Str, v = .str s := by
            obtain ⟨j, hj⟩ := List.getElem?_of_mem hv
            obtain ⟨c, _, hc⟩ := prd_at2 pok hj
            unfold valOk at hc
            split at hc
            · obtain ⟨k, _, _, rfl⟩ := hc
              exact Or.inr ⟨_, rfl⟩
            · exact Or.inl hc
          rcases hvo with ⟨z, rfl, z0, z1⟩ | ⟨s, rfl⟩
          · walk_at "go"
            refine ⟨rfl, ?_⟩
            walk_at "go"
            exact kA _ _ rfl (Same.refl _)
          · walk_at "go"
            refine ⟨rfl, ?_⟩
            walk_at "go"
            exact kA _ _ rfl (Same.refl _)
        rw [show (p.2.filterMap fun v => some (V.str (vS v))) = p.2.map fun v => V.str (vS v) from fm_some _ _] at hE
        refine Or.inl ⟨q, E, [.str "person", .str p.1], _, rfl, rfl, s3 _ _ upd_same, hE, ?_, fun t nt => ?_⟩
        · rw [List.length_map]
          show 2 + p.2.length ≤ sizeLine
          have : (100 : Nat) ≤ sizeLine := by decide
          omega
        have ew : [V.str "person", V.str p.1] ++ (p.2.map fun v => V.str (vS v)) = (perWords p).map V.str := by
          unfold perWords
          rw [List.map_cons, List.map_cons, List.map_map]
          rfl
        walk_at "go"
        refine e_joinX (perWords p) (SqL.of (by rw [upd_same, ew])) ?_ ?_
        · have h6 : (" " : Str).length = 1 := by decide +kernel
          rw [h6]
          omega
        walk_at "go"
        have s4 : Same H (upd H3 t (.lst ([V.str "person", V.str p.1] ++ (p.2.map fun v => V.str (vS v))))) := fun c u e => same_new nt c u (s3 _ _ (same_new nq c u (s' c u e)))
        refine U.g_appL (get_new nt (s3 _ _ (get_new nq hr))) (by omega) ?_
        exact ⟨_, _, _, _, _, none, rfl, same_mut s4 nr, by rw [upd_same, tk]; simp⟩
      · rintro σ' H' ⟨v2, v3, v4, v5, v6, v7, rfl, s', hr⟩
        rw [hpl, List.take_of_length_le (Nat.le_refl _)] at hr
        walk_at "go"
        refine e_joinX (regLines R) (SqL.of hr) ?_ ?_
        · have h6 : ("\n" : Str).length = 1 := by decide +kernel
          have b1 := sum_le (f := fun c => (colLine c).length) (m := 30) (xs := R.cols) fun c hc => colLine_len (ok.cols.nm c hc)
          have b2 := sum_le (f := fun k => (Txt.join " " (kindWords k)).length) (m := 75) (xs := R.kinds) fun k hk => (kindLine_len ok.kinds ok.cols.nm k hk).2
          have b3 := sum_le (f := fun p => (Txt.join " " (perWords p)).length) (m := 210) (xs := R.persons) fun p hp => (perLine_len ok p hp).2.2
          rw [h6]
          unfold regLines
          simp only [List.map_append, List.map_map, List.sum_append, List.length_append, List.length_map]
          have c1 : (List.map ((fun x => x.length) ∘ colLine) R.cols).sum = (R.cols.map fun c => (colLine c).length).sum := rfl
          have c2 : (List.map ((fun x => x.length) ∘ fun k => Txt.join " " (kindWords k)) R.kinds).sum = (R.kinds.map fun k => (Txt.join " " (kindWords k)).length).sum := rfl
          have c3 : (List.map ((fun x => x.length) ∘ fun p => Txt.join " " (perWords p)) R.persons).sum = (R.persons.map fun p => (Txt.join " " (perWords p)).length).sum := rfl
          rw [c1, c2, c3]
          omega
        exact kk H' s'
end
end Toy

namespace M
open PySem L2
theorem way_keys {H : Hp} : ∀ {kvs : List (Key × V)} {ps : List (Str × List Str)}, Paired (WayAt H) kvs ps → (kvs.map fun kv => kV kv.1) = (ps.map (·.1)).map V.str
  | _, _, .nil => rfl
  | _, _, .cons h r => by
    rw [List.map_cons, List.map_cons, List.map_cons, way_keys r, h.1]
    rfl
theorem scl_keys {CL CT : Addr} {H : Hp} {ks : List Knd} : ∀ {kvs : List (Key × V)} {gs : List Col}, SclX CL CT H kvs gs ks → (kvs.map fun kv => kV kv.1) = ((gs.map (·.1)).map (·.1)).map V.str
  | _, _, .nil => rfl
  | _, _, .cons h r => by
    rw [List.map_cons, List.map_cons, List.map_cons, List.map_cons, scl_keys r, h.1]
    rfl
end M
namespace Toy
open PySem L2 U M TL ZV KY
section
variable {P : Program} {w : World} {K : PySem.W.Frag} {mg : Str → Option Value} {base : Heap}
theorem sc_scale_of : FnScope ["census", "column"] ["census", "column"] (defScope s_scale_of) := ⟨rfl, rfl, rfl, by decide +kernel, rfl, by decide +kernel, by decide +kernel⟩
def sp_scale_of (CL CT CR : Addr) : Sp := fun vs H Q _ => ∃ (a dx tc tk tp ds dn : Addr) (gs : List Col) (R : Reg) (n : Str) (b : Bool), vs = [.ref a, .str n] ∧ CenX CL CT CR H a dx tc tk tp ds dn gs R ∧ R.cols.lookup n = some b ∧ ∀ v, ScaleAt CL CT H v (n, b) (ksOf R.kinds n) → Q v H
theorem ok_scale_of (T : Tx K mg) : FnOk P w K mg base CX0 3 T.a_scale_of T.fd_scale_of ["census", "column"] (sp_scale_of T.C_Line T.C_Tree T.C_Register) := by
  refine T.F_scale_of.ok sc_scale_of (fun vs H Q E h => ?_) (fun cdv A outer s H vs Q E hr h => ?_)
  · obtain ⟨a, dx, tc, tk, tp, ds, dn, gs, R, n, b, rfl, _⟩ := h
    rfl
  · obtain ⟨a, dx, tc, tk, tp, ds, dn, gs, R, n, b, rfl, ce, hn, kk⟩ := h
    have hu := hu_of hr
    have hu64 := hr.units
    refine ⟨_, (pss_cons (ps_if (PW.pt (pw_or (pt_not (pt_val (pe_callB (call_uIsi (K := K) rfl) (by rfl) T.n_isinstance (by decide +kernel) (pa_cons (pv 1) (pa_cons (u_ty (n := "str") (by rfl) T.n_str (by decide +kernel)) pa_nil))))) (pw_or1 (pt_cmp (pc_dnotin hu (pv 1) (u_fld (K := K) rfl (pv 0) rfl)))))) (pss_one (ps_never)) pss_nil)
        (pss_one (ps_ret (pe_dget hu (u_fld (K := K) rfl (pv 0) rfl) (pv 1) (fun _ _ => rfl))))), ?_⟩
    obtain ⟨kvs, e1, e2⟩ := ce.hs
    have e2 := e2.at
    rw [ce.hg] at e2
    obtain ⟨v, hv, hs⟩ : ∃ v, valV kvs (Sum.inr n) = some v ∧ ScaleAt T.C_Line T.C_Tree H v (n, b) (ksOf R.kinds n) := by
      rcases scl_look (n := n) e2 with ⟨h1, _⟩ | ⟨b', v, h1, h2, h3⟩
      · rw [hn] at h1; cases h1
      · rw [hn] at h1; cases h1
        exact ⟨v, h2, h3⟩
    walk_at "st"
    walk_at "go"
    refine e_isi (b := true) ty_str (by decide +kernel) ?_
    walk_at "go"
    refine g_fld ?_
    walk_at "go"
    refine ⟨a, T.C_Register, dx, _, _, rfl, ce.hi, T.cl_Register, T.na_Register_scales, ce_scales R tc tk tp ds dn, ?_⟩
    refine e_dinS e1 ?_
    rw [hv]
    refine ⟨_, rfl, ?_⟩
    rw [if_neg (show ¬ (!(some v).isSome) = true by simp)]
    walk_at "go"
    refine g_fld ?_
    walk_at "go"
    refine ⟨a, T.C_Register, dx, _, _, rfl, ce.hi, T.cl_Register, T.na_Register_scales, ce_scales R tc tk tp ds dn, ?_⟩
    walk_at "go"
    exact e_dgetS e1 hv (kk v hs)
end
end Toy

namespace SU
open PySem PySem.Spec PyProof.Rows L2
theorem pi_or {X : Cx} {tg e : Expr} {i1 i2 : TI} (h1 : PI X tg e i1) (h2 : PI X tg e i2) : PI X tg e (fun σ H R => i1 σ H R ∨ i2 σ H R) :=
  ⟨fun pins s σ H R I h => h.elim (h1.run pins s σ H R I) (h2.run pins s σ H R I)⟩
end SU
namespace M
open PySem L2 U
/-- those of a way that are above all of these -/
def com (ks : List Knd) (x : Str) (l : List Str) : List Str := (wayOf (ways ks) x).filter fun y => l.all fun k => decide (y ∈ wayOf (ways ks) k)
theorem in_strs (y : Str) : ∀ l : List Str, inV (.str y) (l.map V.str) = decide (y ∈ l)
  | [] => by rw [decide_eq_false (by simp)]; rfl
  | a :: r => by
    have ih := in_strs y r
    unfold inV at ih ⊢
    rw [List.map_cons, List.any_cons, ih, Bool.eq_iff_iff, Bool.or_eq_true, decide_eq_true_eq, decide_eq_true_eq, List.mem_cons]
    have e : (eqV (.str a) (.str y) = true) ↔ y = a := by
      show ((a == y) = true) ↔ y = a
      rw [beq_iff_eq]
      exact eq_comm
    rw [e]
theorem strs_flat (l : List Str) : (l.map V.str).all flatV = true := List.all_eq_true.mpr fun v hv => by
  obtain ⟨x, _, rfl⟩ := List.mem_map.mp hv
  rfl
theorem com_nil (ks : List Knd) (x : Str) : com ks x [] = wayOf (ways ks) x := by
  unfold com
  exact List.filter_eq_self.mpr fun _ _ => rfl
theorem com_snoc (ks : List Knd) (x : Str) (l : List Str) (k : Str) : com ks x (l ++ [k]) = (com ks x l).filter fun y => decide (y ∈ wayOf (ways ks) k) := by
  unfold com
  rw [List.filter_filter]
  congr 1
  funext y
  rw [List.all_append, List.all_cons, List.all_nil, Bool.and_true, Bool.and_comm]
theorem com_iff (ks : List Knd) (x : Str) {l l' : List Str} (h : ∀ y, y ∈ l ↔ y ∈ l') : com ks x l = com ks x l' := by
  unfold com
  congr 1
  funext y
  rw [Bool.eq_iff_iff, List.all_eq_true, List.all_eq_true]
  exact ⟨fun q k hk => q k ((h k).2 hk), fun q k hk => q k ((h k).1 hk)⟩
theorem fm_filter (f : Str → Bool) : ∀ l : List Str, (l.map V.str).filterMap (fun v => match v with | .str y => if f y then some (V.str y) else none | _ => none) = (l.filter f).map V.str
  | [] => rfl
  | a :: r => by
    rw [List.map_cons, List.filterMap_cons, List.filter_cons, fm_filter f r]
    cases h : f a <;> simp [h]
end M
namespace Toy
open PySem L2 U M TL ZV KY SU
section
variable {P : Program} {w : World} {K : PySem.W.Frag} {mg : Str → Option Value} {base : Heap}
theorem sc_Tree_least : FnScope ["self", "values", "shared", "kind", "up"] ["self", "values"] (defScope s_Tree_least) := ⟨rfl, rfl, rfl, by decide +kernel, rfl, by decide +kernel, by decide +kernel⟩
def sp_Tree_least (CT : Addr) : Sp := fun vs H Q _ => ∃ (a dx u l b : Addr) (ks : List Knd) (x z : Str) (xs zs : List Str), vs = [.ref a, .ref b] ∧ TreeX CT H a dx u l ks ∧ H b = some (.tup ((x :: xs).map V.str)) ∧ xs.length < 60 ∧ ks.length ≤ 60 ∧ (∀ y ∈ x :: xs, y ∈ ks.map (·.name)) ∧ com ks x (x :: xs) = z :: zs ∧ ∀ H', Same H H' → Q (.str z) H'
theorem ok_Tree_least (T : Tx K mg) : FnOk P w K mg base CX0 1 T.a_Tree_least T.fd_Tree_least ["self", "values"] (sp_Tree_least T.C_Tree) := by
  refine T.F_Tree_least.ok sc_Tree_least (fun vs H Q E h => ?_) (fun cdv A outer s H vs Q E hr h => ?_)
  · obtain ⟨a, dx, u, l, b, ks, x, z, xs, zs, rfl, _⟩ := h
    rfl
  · obtain ⟨a, dx, u, l, b, ks, x, z, xs, zs, rfl, tr, hb, hl, hk, hin, hc, kk⟩ := h
    have hu := hu_of hr
    have hu64 := hr.units
    refine ⟨_, (pss_cons (ps_set (i := 2) sc_Tree_least.nd rfl (Or.inl rfl) (pe_dget hu (u_fld (K := K) rfl (pv 0) rfl) (pe_ix (ix_u (K := K) rfl) (pv 1) pe_int (fun _ _ => rfl)) (fun _ _ => rfl)))
        (pss_cons (ps_for PassesOwn.never rfl (u_list (K := K) rfl (SU.pe_sortSetS (K := K) rfl rfl (pv 1) (by rfl) T.n_sorted (by rfl) T.n_set)) (pg_name (i := 3) sc_Tree_least.nd rfl (Or.inr rfl)) (pss_one (ps_setLc (i := 2) rfl sc_Tree_least.nd rfl rfl (sw_true rfl rfl rfl (by decide +kernel)) (pi_or (u_list (K := K) rfl (pv 2)) (u_tup (K := K) rfl (pv 2))) (blkOk_by (own := [("up", 4)]) (N := ["self", "values", "shared", "kind", "up"]) (sc := defScope s_Tree_least) (by decide +kernel)) (fun _ _ _ _ _ => (pg_name (i := 4) sc_Tree_least.nd rfl (Or.inl rfl))) (fun _ _ _ _ _ => (pts_one (pt_cmpR (op_uIn (K := K) rfl) (pv 4) (pe_dget hu (u_fld (K := K) rfl (pv 0) rfl) (pv 3) (fun _ _ => rfl)) rfl))) (fun _ _ _ _ _ => (pv 4)))))
        (pss_one (ps_ret (pe_ix (ix_u (K := K) rfl) (pv 2) (pe_int) (fun _ _ => rfl)))))), ?_⟩
    walk_at "st"
    walk_at "go"
    have up : ∀ k ∈ ks.map (·.name), ∃ kvs w, H u = some (.dK kvs) ∧ valV kvs (Sum.inr k) = some (.ref w) ∧ H w = some (.tup ((wayOf (ways ks) k).map V.str)) := fun k hk => by
      obtain ⟨kvs, e1, _, _, e2⟩ := tr.looks k
      obtain ⟨v, e3, w, rfl, e4⟩ := e2 hk
      exact ⟨kvs, w, e1, e3, e4⟩
    refine g_fld ?_
    walk_at "go"
    refine tr.ups T.cl_Tree T.na_Tree_ups ?_
    walk_at "go"
    refine U.g_ix (v := .str x) (Or.inr (SqT.of hb)) (atI_nat (j := 0) rfl) ?_
    obtain ⟨kvs, w0, e1, e2, e3⟩ := up x (hin x List.mem_cons_self)
    refine e_dgetS e1 e2 ?_
    walk_at "go"
    refine g_sortSetS ?_
    walk_at "go"
    refine ⟨b, x :: xs, rfl, SqT.of hb, by rw [List.length_cons]; omega, fun ys p hy hyl np => ?_⟩
    have s1 : Same H (upd H p (.lst (ys.map V.str))) := U.same_new np
    have lk : ∀ l, (com ks x l).length ≤ 60 := fun l => Nat.le_trans (List.length_filter_le _ _) (Nat.le_trans (wayOf_len ks x) hk)
    refine e_list (SqL.of upd_same) ?_
    refine forI_by walk_list (fun i σ' H' => ∃ (v3 v4 : Option V) (q : Addr), σ' = [some (.ref a), some (.ref b), some (.ref q), v3, v4] ∧ Same H H' ∧ H' p = some (.lst (ys.map V.str)) ∧ (H' q = some (.lst ((com ks x (ys.take i)).map V.str)) ∨ H' q = some (.tup ((com ks x (ys.take i)).map V.str))))
      ?h0 (fun i σ' H' _ ⟨_, _, _, _, _, e, _⟩ => SqL.of e) ?hs ?hd
    case h0 =>
      refine ⟨none, none, w0, rfl, s1, upd_same, Or.inr ?_⟩
      rw [List.take_zero, com_nil]
      exact s1 _ _ e3
    case hs =>
      rintro i v σ' _ H2 hi ⟨v3, v4, q, rfl, s2, hp, hq⟩ ⟨rfl, ev⟩
      rw [List.getElem?_map] at ev
      cases ek : ys[i]? with
      | none => rw [ek] at ev; cases ev
      | some k =>
        rw [ek] at ev
        cases ev
        have hk2 : k ∈ ks.map (·.name) := hin k ((hy k).1 (List.mem_of_getElem? ek))
        obtain ⟨kvs, wk, f1, f2, f3⟩ := up k hk2
        have ft : com ks x (ys.take (i + 1)) = (com ks x (ys.take i)).filter fun y => decide (y ∈ wayOf (ways ks) k) := by rw [take_snoc ek, com_snoc]
        walk_at "go"
        have ll : ((com ks x (ys.take i)).map V.str).length ≤ 1000000 := by rw [List.length_map]; exact Nat.le_trans (lk _) (by decide)
        rcases hq with hq | hq
        · refine Or.inl (g_iList ?_)
          walk_at "go"
          refine e_list (SqL.of hq) ?_
          refine lcI_list (SqL.of hq) ll (fun v => match v with | .str y => if decide (y ∈ wayOf (ways ks) k) then some (V.str y) else none | _ => none) (fun y H3 A B hx s3 kA kB => ?_) fun L H3 nL s3 hL => ?_
          · obtain ⟨c, hc1, rfl⟩ := List.mem_map.mp hx
            walk_at "go"
            refine ⟨rfl, ?_⟩
            walk_at "go"
            refine g_fld ?_
            walk_at "go"
            refine (tr.mono (s2.trans s3)).ups T.cl_Tree T.na_Tree_ups ?_
            walk_at "go"
            refine e_dgetS ((s2.trans s3) _ _ f1) f2 ?_
            refine ⟨wk, _, rfl, Or.inr (SqT.of ((s2.trans s3) _ _ f3)), rfl, strs_flat _, ?_⟩
            rw [in_strs]
            refine ⟨_, rfl, ?_⟩
            rw [if_neg Bool.false_ne_true]
            by_cases hb1 : c ∈ wayOf (ways ks) k
            · rw [if_pos (decide_eq_true hb1)]
              walk_at "go"
              exact kA _ _ (by show (if decide _ = true then _ else _) = _; rw [if_pos (decide_eq_true hb1)]) (Same.refl _)
            · rw [if_neg (by rw [decide_eq_false hb1]; decide)]
              exact kB (by show (if decide _ = true then _ else _) = _; rw [if_neg (by rw [decide_eq_false hb1]; decide)]) _ (Same.refl _)
          · rw [fm_filter, ← ft] at hL
            walk_at "go"
            exact ⟨_, _, L, rfl, s2.trans s3, s3 _ _ hp, Or.inl hL⟩
        · refine Or.inr (g_iTup ?_)
          walk_at "go"
          refine e_tup (SqT.of hq) ?_
          refine lcI_tup (fun H'' s'' => SqT.of (s'' _ _ hq)) ll (fun v => match v with | .str y => if decide (y ∈ wayOf (ways ks) k) then some (V.str y) else none | _ => none) (fun y H3 A B hx s3 kA kB => ?_) fun L H3 nL s3 hL => ?_
          · obtain ⟨c, hc1, rfl⟩ := List.mem_map.mp hx
            walk_at "go"
            refine ⟨rfl, ?_⟩
            walk_at "go"
            refine g_fld ?_
            walk_at "go"
            refine (tr.mono (s2.trans s3)).ups T.cl_Tree T.na_Tree_ups ?_
            walk_at "go"
            refine e_dgetS ((s2.trans s3) _ _ f1) f2 ?_
            refine ⟨wk, _, rfl, Or.inr (SqT.of ((s2.trans s3) _ _ f3)), rfl, strs_flat _, ?_⟩
            rw [in_strs]
            refine ⟨_, rfl, ?_⟩
            rw [if_neg Bool.false_ne_true]
            by_cases hb1 : c ∈ wayOf (ways ks) k
            · rw [if_pos (decide_eq_true hb1)]
              walk_at "go"
              exact kA _ _ (by show (if decide _ = true then _ else _) = _; rw [if_pos (decide_eq_true hb1)]) (Same.refl _)
            · rw [if_neg (by rw [decide_eq_false hb1]; decide)]
              exact kB (by show (if decide _ = true then _ else _) = _; rw [if_neg (by rw [decide_eq_false hb1]; decide)]) _ (Same.refl _)
          · rw [fm_filter, ← ft] at hL
            walk_at "go"
            exact ⟨_, _, L, rfl, s2.trans s3, s3 _ _ hp, Or.inl hL⟩
    case hd =>
      rintro σ' H2 ⟨v3, v4, q, rfl, s2, hp, hq⟩
      rw [List.length_map, List.take_of_length_le (Nat.le_refl _), com_iff ks x hy, hc] at hq
      walk_at "go"
      refine U.g_ix (v := .str z) (hq.imp SqL.of SqT.of) (atI_nat (j := 0) rfl) ?_
      exact kk _ s2
end
end Toy

namespace M
open PySem L2 U
theorem wayOf_l {n : Str} {b : List (Str × List Str)} : ∀ {a : List (Str × List Str)}, n ∈ a.map (·.1) → wayOf (a ++ b) n = wayOf a n
  | [], h => by cases h
  | (j, w) :: r, h => by
    unfold wayOf
    rw [List.cons_append, List.lookup_cons, List.lookup_cons]
    cases e : (n == j) with
    | true => rfl
    | false =>
      have h2 : n ∈ r.map (·.1) := (List.mem_cons.mp h).resolve_left fun z => by rw [z] at e; simp at e
      exact wayOf_l h2
theorem wayOf_r {n : Str} {w : List Str} : ∀ {a : List (Str × List Str)}, n ∉ a.map (·.1) → wayOf (a ++ [(n, w)]) n = w
  | [], _ => by unfold wayOf; rw [List.nil_append, List.lookup_cons_self]; rfl
  | (j, w') :: r, h => by
    rw [List.map_cons, List.mem_cons, not_or] at h
    have := wayOf_r (w := w) h.2
    unfold wayOf at this ⊢
    rw [List.cons_append, List.lookup_cons, beq_false_of_ne h.1]
    exact this
theorem up_in {c : Str} {ks : List Knd} (K : KOk c ks) : ∀ k ∈ ks, ∀ u, k.up = some u → u ∈ ks.map (·.name) := by
  induction K with
  | nil => intro k h; cases h
  | top => intro k h u e; rw [List.mem_singleton] at h; subst h; cases e
  | more K ho h hn nd h0 h1 ih =>
    intro k hk u e
    rw [List.map_append, List.mem_append]
    rcases List.mem_append.mp hk with z | z
    · exact .inl (ih k z u e)
    · rw [List.mem_singleton] at z
      subst z
      cases e
      exact .inl (List.mem_map_of_mem (f := fun k : Knd => k.name) ho)
def upWay (ks : List Knd) : Option Str → List Str
  | none => []
  | some u => wayOf (ways ks) u
theorem way_step {c : Str} {ks : List Knd} (K : KOk c ks) : ∀ k ∈ ks, wayOf (ways ks) k.name = k.name :: upWay ks k.up := by
  induction K with
  | nil => intro k h; cases h
  | top => intro k h; rw [List.mem_singleton] at h; subst h; unfold wayOf ways; simp [wayStep, upWay]
  | @more ks o n l K ho h hn nd h0 h1 ih =>
    have keep : ∀ m, m ∈ ks.map (·.name) → wayOf (ways (ks ++ [⟨c, n, some o.name, l⟩])) m = wayOf (ways ks) m := fun m hm => by
      rw [ways_snoc]
      exact wayOf_l (by rw [ways_names]; exact hm)
    intro k hk
    rcases List.mem_append.mp hk with z | z
    · rw [keep _ (List.mem_map_of_mem (f := fun k : Knd => k.name) z), ih k z]
      cases e : k.up with
      | none => rfl
      | some u =>
        show k.name :: wayOf _ u = k.name :: wayOf _ u
        rw [keep u (up_in K k z u e)]
    · rw [List.mem_singleton] at z
      subst z
      show wayOf _ n = n :: wayOf _ o.name
      rw [keep _ (List.mem_map_of_mem (f := fun k : Knd => k.name) ho), ways_snoc]
      exact wayOf_r (by rw [ways_names]; exact nd)
theorem val_out {k : Key} : ∀ {kvs : List (Key × V)}, k ∉ kvs.map (·.1) → valV kvs k = none
  | [], _ => valV_nil
  | (j, v) :: r, h => by
    rw [List.map_cons, List.mem_cons, not_or] at h
    rw [valV_neg fun z => h.1 z.symm]
    exact val_out h.2
theorem mergeK_nd : ∀ (more acc : List (Key × V)), (more.map (·.1)).Nodup → (∀ k ∈ acc.map (·.1), k ∉ more.map (·.1)) → mergeK acc more = acc ++ more
  | [], acc, _, _ => by rw [List.append_nil]; rfl
  | p :: r, acc, nd, h => by
    rw [List.map_cons, List.nodup_cons] at nd
    have hp : p.1 ∉ acc.map (·.1) := fun z => h _ z List.mem_cons_self
    show mergeK (putK acc p.1 p.2) r = _
    have e : putK acc p.1 p.2 = acc ++ [p] := putK_new _ (val_out hp)
    rw [e, mergeK_nd r (acc ++ [p]) nd.2 fun k hk => ?_, List.append_assoc]
    · rfl
    · rw [List.map_append, List.mem_append] at hk
      rcases hk with z | z
      · exact fun y => h k z (List.mem_cons_of_mem _ y)
      · rw [List.map_cons, List.map_nil, List.mem_singleton] at z
        rw [z]
        exact nd.1
def byName (f : Knd → V) (ks : List Knd) : List (Key × V) := ks.map fun k => (Sum.inr k.name, f k)
theorem byName_keys (f : Knd → V) (ks : List Knd) : (byName f ks).map (·.1) = (ks.map (·.name)).map Sum.inr := by
  unfold byName
  rw [List.map_map, List.map_map]
  rfl
theorem byName_nd {f : Knd → V} {ks : List Knd} (nd : (ks.map (·.name)).Nodup) : mergeK [] (byName f ks) = byName f ks := by
  rw [mergeK_nd _ _ (by rw [byName_keys]; exact (List.Pairwise.map _ (fun a b h z => h (Sum.inr.inj z)) nd)) (fun k h => by cases h)]
  rfl
theorem byName_val {f : Knd → V} : ∀ {ks : List Knd}, (ks.map (·.name)).Nodup → ∀ k ∈ ks, valV (byName f ks) (Sum.inr k.name) = some (f k)
  | [], _, _, h => by cases h
  | a :: r, nd, k, h => by
    rw [List.map_cons, List.nodup_cons] at nd
    show valV ((Sum.inr a.name, f a) :: byName f r) _ = _
    by_cases e : a.name = k.name
    · rcases List.mem_cons.mp h with z | z
      · rw [z]; exact valV_pos rfl
      · exact absurd (e ▸ List.mem_map_of_mem (f := fun k : Knd => k.name) z) nd.1
    · rw [valV_neg fun z => e (Sum.inr.inj z)]
      exact byName_val nd.2 k ((List.mem_cons.mp h).resolve_left fun z => e (by rw [z]))
end M

namespace U
open PySem PySem.Spec PyProof.Rows L2
/-- a comprehension whose items are new tuples -/
theorem lcI_new {σ : L2.St} {H : Hp} {Q : VK} {g : TG} {tt : TT} {te : TE} {vs : List Nat} {J : It} {n : Nat} {G : Hp → Prop} {Y : Nat → Hp → V → Hp → Prop} (w : Walk J n G Y) (hn : n ≤ 1000000) (f : Nat → Option (List V)) (hG : ∀ H', Same H H' → G H') (hY : ∀ i H' x H'', Y i H' x H'' → Same H' H'')
    (turn : ∀ i x H' H'' (A : VK) (B : Hp → Prop), i < n → Same H H' → Y i H' x H'' → (∀ ys H4 q, f i = some ys → Same H'' H4 → H4 q = none → A (.ref q) (upd H4 q (.tup ys))) → (f i = none → ∀ H3, Same H'' H3 → B H3) →
      g x (wipe σ vs) H'' fun σ2 H2 => wipe σ2 vs = wipe σ vs ∧ tt σ2 H2 fun b H3 => if b = true then te σ2 H3 A else B H3)
    (k : ∀ E ps H', H E = none → Same H H' → H' E = some (.lst (ps.map V.ref)) → Paired (fun p ys => H' p = some (.tup ys)) ps ((List.range n).filterMap f) → Q (.ref E) H') : lcI σ vs g tt te Q J H := by
  refine lcI_by w hn fun E hE => ⟨fun i acc H' => Same H H' ∧ ∃ ps, acc = ps.map V.ref ∧ Paired (fun p ys => H' p = some (.tup ys)) ps ((List.range i).filterMap f), ⟨same_new hE, [], rfl, .nil⟩, fun i acc H' _ p => hG H' p.1, ?_, fun acc H' ha ⟨s, ps, e, r⟩ => k E ps H' hE s (by rw [ha, e]) r⟩
  intro i x acc H' H'' A B hi ha ⟨s, ps, e, r⟩ y kA kB
  have s' := hY i H' x H'' y
  refine turn i x H' H'' A B hi s y (fun ys H4 q ev s4 nq => ?_) fun en H3 s3 => kB H3 (s3 _ _ (s' _ _ ha)) ⟨s.trans (s'.trans s3), ps, e, ?_⟩
  · have a4 := s4 _ _ (s' _ _ ha)
    have sq := same_new (o := .tup ys) nq
    have qE : q ≠ E := fun z => by rw [z, a4] at nq; cases nq
    refine kA (.ref q) _ (sq _ _ a4) ⟨same_mut (s.trans (s'.trans (s4.trans sq))) hE, ps ++ [q], by rw [e, List.map_append]; rfl, ?_⟩
    have kp : ∀ p xs, H' p = some (.tup xs) → (upd (upd H4 q (.tup ys)) E (.lst (acc ++ [.ref q]))) p = some (.tup xs) := fun p xs h => by
      rw [upd_ne (fun z => by rw [z, ha] at h; cases h)]
      exact sq _ _ (s4 _ _ (s' _ _ h))
    rw [List.range_succ, List.filterMap_append]
    have e1 : List.filterMap f [i] = [ys] := by simp [ev]
    rw [e1]
    exact M.prd_snoc (M.prd_mono (fun p xs h => kp p xs h) r) ((upd_ne qE).trans upd_same)
  · rw [List.range_succ, List.filterMap_append]
    have e1 : List.filterMap f [i] = [] := by simp [en]
    rw [e1, List.append_nil]
    exact M.prd_mono (fun p xs h => s3 _ _ (s' _ _ h)) r
theorem fm_byName (f : M.Knd → V) (c : Str) : ∀ ks : List M.Knd, (ks.filterMap fun k => if k.col = c then some [V.str k.name, f k] else none) = (M.byName f (M.ksOf ks c)).map fun kv => [kV kv.1, kv.2]
  | [] => rfl
  | a :: r => by
    have ih := fm_byName f c r
    unfold M.ksOf M.byName at ih ⊢
    rw [List.filterMap_cons, List.filter_cons]
    by_cases h : a.col = c
    · rw [if_pos h, decide_eq_true h, if_pos rfl, List.map_cons, List.map_cons, ih]
      rfl
    · rw [if_neg h, decide_eq_false h, if_neg (by decide), ih]
theorem prd_map {α β γ : Type} {R : α → γ → Prop} {f : β → γ} : ∀ {xs : List α} {ys : List β}, Paired R xs (ys.map f) → Paired (fun a b => R a (f b)) xs ys
  | [], [], _ => .nil
  | _ :: _, _ :: _, .cons h r => .cons h (prd_map r)
end U

namespace M
open PySem L2 U TL
/-! ### texts of data are short -/
theorem tup_lay {ns : List Str} (h : ∀ n ∈ ns, isName n = true) : (PyData.tuple (ns.map PyData.str)).canLay0 = true := by
  show PyData.canLayAll0 _ = true
  induction ns with
  | nil => rfl
  | cons a r ih =>
    show (PyData.canLay0 (.str a) && PyData.canLayAll0 (r.map PyData.str)) = true
    rw [isName_lay (h a List.mem_cons_self), ih fun n hn => h n (List.mem_cons_of_mem _ hn)]
    rfl
theorem tup_weight {ns : List Str} (h : ∀ n ∈ ns, isName n = true) : PyData.weight (PyData.tuple (ns.map PyData.str)) ≤ 13 * ns.length := by
  show PyData.weightAll _ ≤ _
  induction ns with
  | nil => exact Nat.le_refl _
  | cons a r ih =>
    have h1 := ih fun n hn => h n (List.mem_cons_of_mem _ hn)
    have h2 : a.cps.size ≤ 12 := (isName_out (h a List.mem_cons_self)).2.1
    show a.cps.size + 1 + PyData.weightAll (r.map PyData.str) ≤ _
    rw [List.length_cons]
    omega
theorem tup_depth (ns : List Str) : PyData.depth (PyData.tuple (ns.map PyData.str)) ≤ 1 := by
  show PyData.depthAll _ + 1 ≤ 1
  have : PyData.depthAll (ns.map PyData.str) = 0 := by
    induction ns with
    | nil => rfl
    | cons a r ih =>
      show max (PyData.depth (.str a)) (PyData.depthAll (r.map PyData.str)) = 0
      rw [ih]
      rfl
  omega
theorem tup_short (ns : List Str) : (PyData.tuple (ns.map PyData.str)).intsShort 13 = true := by
  show PyData.intsShortAll 13 _ = true
  induction ns with
  | nil => rfl
  | cons a r ih => show (true && PyData.intsShortAll 13 (r.map PyData.str)) = true; rw [ih]; rfl
theorem tup_showable (ns : List Str) : (PyData.tuple (ns.map PyData.str)).showable = true := by
  show PyData.showableAll _ = true
  induction ns with
  | nil => rfl
  | cons a r ih => show (true && PyData.showableAll (r.map PyData.str)) = true; rw [ih]; rfl
theorem dp_names {K : PySem.W.Frag} {H : Hp} : ∀ ns : List Str, DpAll K H (ns.map V.str) (ns.map PyData.str)
  | [] => .nil
  | a :: r => .cons (.str a) (dp_names r)
theorem rep_names {K : PySem.W.Frag} {H : Hp} {a : Addr} {ns : List Str} {Q : VK} (h : ∀ n ∈ ns, isName n = true) (hl : ns.length ≤ 60) (ha : SqT K H a (ns.map V.str)) (q : Q (.str (PyData.tuple (ns.map PyData.str)).shown) H) : QD.rRep K [.ref a] H Q := by
  have w := tup_weight h
  have lay : PyData.layable0 (PyData.tuple (ns.map PyData.str)) = true := by
    show (PyData.canLay0 _ && decide _ && decide _) = true
    rw [tup_lay h, decide_eq_true (Nat.le_trans (tup_depth ns) (by decide)), decide_eq_true (show PyData.weight (PyData.tuple (ns.map PyData.str)) ≤ 2 ^ 20 by omega)]
    rfl
  exact ⟨_, _, rfl, .dp (.tup ha (dp_names ns)), tup_showable ns, Nat.le_trans (tup_depth ns) (by decide), Nat.le_trans (PyProof.Rows.shown_le13 lay (tup_short ns)) (by decide), q⟩
theorem rep_int {K : PySem.W.Frag} {H : Hp} {i : Int} {Q : VK} (h0 : -1000000 ≤ i) (h1 : i ≤ 1000000) (q : Q (.str (PyData.int i).shown) H) : QD.rRep K [.int i] H Q := by
  refine ⟨_, _, rfl, .dp (.int i), ?_, Nat.zero_le _, ?_, q⟩
  · refine decide_eq_true ?_
    by_cases z : i.natAbs = 0
    · rw [z]; decide
    · refine Nat.lt_of_lt_of_le ((Nat.log2_lt z).2 (show i.natAbs < 2 ^ 21 by omega)) (by decide)
  · exact Nat.le_trans (int_len h0 h1) (by decide)
theorem rep_bool {K : PySem.W.Frag} {H : Hp} {b : Bool} {Q : VK} (q : Q (.str (PyData.bool b).shown) H) : QD.rRep K [.bl b] H Q := ⟨_, _, rfl, .dp (.bl b), rfl, Nat.zero_le _, by cases b <;> decide +kernel, q⟩
end M
namespace M
open PySem L2 U
def byS {α : Type} (f : α → V) (ls : List (Str × α)) : List (Key × V) := ls.map fun q => (Sum.inr q.1, f q.2)
theorem byS_nd {α : Type} {f : α → V} {ls : List (Str × α)} (nd : (ls.map (·.1)).Nodup) : mergeK [] (byS f ls) = byS f ls := by
  have e : (byS f ls).map (·.1) = (ls.map (·.1)).map Sum.inr := by
    unfold byS
    rw [List.map_map, List.map_map]
    rfl
  rw [mergeK_nd _ _ (by rw [e]; exact List.Pairwise.map _ (fun a b h z => h (Sum.inr.inj z)) nd) (fun k h => by cases h)]
  rfl
theorem byS_val {α : Type} {f : α → V} {n : Str} : ∀ {ls : List (Str × α)}, n ∈ ls.map (·.1) → ∃ q ∈ ls, q.1 = n ∧ valV (byS f ls) (Sum.inr n) = some (f q.2)
  | [], h => by cases h
  | a :: r, h => by
    by_cases e : a.1 = n
    · exact ⟨a, List.mem_cons_self, e, valV_pos (by show (Sum.inr a.1 : Key) = _; rw [e])⟩
    · obtain ⟨q, h1, h2, h3⟩ := byS_val (f := f) ((List.mem_cons.mp h).resolve_left fun z => e z.symm)
      refine ⟨q, List.mem_cons_of_mem _ h1, h2, ?_⟩
      show valV ((Sum.inr a.1, f a.2) :: byS f r) _ = _
      rw [valV_neg fun z => e (Sum.inr.inj z)]
      exact h3
theorem prd_mapR {α β γ : Type} {R : α → γ → Prop} {f : β → γ} : ∀ {xs : List α} {ys : List β}, Paired (fun a b => R a (f b)) xs ys → Paired R xs (ys.map f)
  | _, _, .nil => .nil
  | _, _, .cons h r => .cons h (prd_mapR r)
theorem ite_no {b : Bool} {A B : Prop} (h : b = false) (q : B) : if b = true then A else B := by rw [h, if_neg Bool.false_ne_true]; exact q
theorem ne_refl (x : V) : (if (true : Bool) = true then !decide (x = x) else decide (x = x)) = false := by rw [if_pos rfl, decide_eq_true rfl]; rfl
end M
namespace M
open PySem L2 U
theorem ways_in (ks : List Knd) : ∀ p ∈ ways ks, ∀ y ∈ p.2, y ∈ ks.map (·.name) := by
  induction ks using snoc_ind with
  | h0 => intro p h; cases h
  | h1 l a ih =>
    intro p h y hy
    rw [ways_snoc] at h
    rw [List.map_append, List.mem_append]
    rcases List.mem_append.mp h with h | h
    · exact .inl (ih p h y hy)
    · rw [List.mem_singleton] at h
      subst h
      have hy : y ∈ a.name :: (match a.up with | none => [] | some u => wayOf (ways l) u) := hy
      rcases List.mem_cons.mp hy with z | z
      · exact .inr (by rw [z]; simp)
      · cases e : a.up with
        | none => rw [e] at z; cases z
        | some u =>
          rw [e] at z
          have z : y ∈ wayOf (ways l) u := z
          rcases wayOf_in (ways l) u with h | h
          · rw [h] at z; cases z
          · exact .inl (ih _ h y z)
theorem root_in {c : Str} {ks : List Knd} (K : KOk c ks) : ∃ r, ∀ m ∈ ks.map (·.name), r ∈ wayOf (ways ks) m := by
  induction K with
  | nil => exact ⟨"", fun m h => by cases h⟩
  | @top n l h hn h0 h1 =>
    refine ⟨n, fun m hm => ?_⟩
    have hm : m = n := by simpa using hm
    subst hm
    unfold wayOf ways
    simp [wayStep]
  | @more ks o n l K ho h hn nd h0 h1 ih =>
    obtain ⟨r, hr⟩ := ih
    refine ⟨r, fun m hm => ?_⟩
    rw [ways_snoc]
    by_cases e : m ∈ ks.map (·.name)
    · rw [wayOf_l (by rw [ways_names]; exact e)]
      exact hr m e
    · have e2 : m = n := by
        rw [List.map_append, List.mem_append] at hm
        simpa using hm.resolve_left e
      subst e2
      rw [wayOf_r (by rw [ways_names]; exact nd)]
      exact List.mem_cons_of_mem _ (hr _ (List.mem_map_of_mem (f := fun k : Knd => k.name) ho))
theorem com_some {c : Str} {ks : List Knd} (K : KOk c ks) {x : Str} {l : List Str} (h : ∀ y ∈ x :: l, y ∈ ks.map (·.name)) : ∃ z zs, com ks x (x :: l) = z :: zs := by
  obtain ⟨r, hr⟩ := root_in K
  have : r ∈ com ks x (x :: l) := List.mem_filter.mpr ⟨hr x (h x List.mem_cons_self), List.all_eq_true.mpr fun y hy => decide_eq_true (hr y (h y hy))⟩
  cases e : com ks x (x :: l) with
  | nil => rw [e] at this; cases this
  | cons z zs => exact ⟨z, zs, rfl⟩
theorem way_in {ks : List Knd} {m y : Str} (h : y ∈ wayOf (ways ks) m) : y ∈ ks.map (·.name) := by
  rcases wayOf_in (ways ks) m with z | z
  · rw [z] at h; cases h
  · exact ways_in ks _ z y h
end M

local macro_rules | `(tactic| walk_at "u1") => `(tactic| first
  | (with_reducible refine U.g_seq ?_) | (with_reducible refine U.g_asg ?_) | (with_reducible refine U.g_name ?_) | (with_reducible refine U.g_op ?_) | ((with_reducible refine' U.g_var ?k1 ?k2); (case k1 => exact rfl)) | (with_reducible refine U.g_c ?_)
  | (with_reducible refine U.g_cons ?_) | (with_reducible refine U.g_nil ?_) | (with_reducible refine U.g_cb ?_) | (with_reducible refine U.g_call ?_) | (with_reducible refine U.g_ret ?_) | (with_reducible refine U.g_drop ?_)
  | (with_reducible refine U.g_ifS ?_) | (with_reducible refine U.g_if ?_) | (with_reducible refine U.g_test ?_) | (with_reducible refine U.g_B ?_) | (with_reducible refine U.g_un ?_) | (with_reducible refine U.g_next ?_)
  | (with_reducible refine U.g_bl ?_) | (with_reducible refine U.g_blP ?_) | (with_reducible refine U.g_addI ?_) | (with_reducible refine U.g_subI ?_) | (with_reducible refine U.g_cmpI ?_) | (with_reducible refine U.g_intI ?_) | (with_reducible refine U.g_intB ?_)
  | (with_reducible refine U.g_absI ?_) | (with_reducible refine U.g_negI ?_) | (with_reducible refine U.g_mmI ?_) | (with_reducible refine U.g_and ?_) | (with_reducible refine U.g_or ?_) | (with_reducible refine U.g_not ?_) | (with_reducible refine U.g_andV ?_) | (with_reducible refine U.g_orV ?_) | (with_reducible refine U.g_notV ?_)
  | (with_reducible refine U.g_lst ?_) | (with_reducible refine U.g_tup ?_) | (with_reducible refine U.g_sub ?_) | (with_reducible refine U.g_lrg ?_) | (with_reducible refine U.g_rg1 ?_) | (with_reducible refine U.g_intE ?_) | (with_reducible refine U.g_sl ?_) | (with_reducible refine U.g_noP ?_) | (with_reducible refine U.g_part ?_) | (with_reducible refine U.g_lc ?_) | (with_reducible refine U.g_for ?_) | (with_reducible refine U.g_iList ?_) | (with_reducible refine U.g_iTup ?_) | (with_reducible refine U.g_iRng1 ?_) | (with_reducible refine U.g_iStr ?_) | (with_reducible refine U.g_iEnum ?_) | (with_reducible refine U.g_iVals ?_)
  | (with_reducible refine U.g_dnotin ?_) | (with_reducible refine U.g_din ?_) | (with_reducible refine U.g_dget ?_) | (with_reducible refine U.g_dput ?_) | (with_reducible refine U.g_bm ?_) | (with_reducible refine U.g_bm0 ?_) | (with_reducible refine U.g_dnewK ?_)
  | (with_reducible refine U.g_gcons ?_) | (with_reducible refine U.g_gnil ?_) | (with_reducible refine U.g_par ?_) | (with_reducible refine U.e_two ?_)
  | ((with_reducible refine' U.g_gtup ?k1 ?k2 ?k3); (case k1 => exact L2.SqT.of (by walk_at "hp")); (case k2 => exact rfl))
  | ((with_reducible refine' U.ty_lst ?k1 ?k2); (case k1 => walk_at "hp"))
  | (with_reducible refine U.g_strS ?_) | ((with_reducible refine' U.g_strI ?k1 ?k2); (case k1 => first | decide | omega))
  | (with_reducible refine U.g_nT ?_) | (with_reducible refine U.g_nF ?_) | (with_reducible refine U.g_chain ?_) | (with_reducible refine U.g_m1 ?_) | (with_reducible refine U.e_strE ?_) | (with_reducible refine U.g_disp ?_) | (with_reducible refine U.g_pcons ?_) | (with_reducible refine U.g_pnil ?_) | (with_reducible refine U.e_non ?_) | (with_reducible refine U.g_iRng2 ?_) | (with_reducible refine U.g_par3 ?_) | (with_reducible refine ZT.g_iZipX ?_) | (with_reducible refine U.e_three ?_) | (with_reducible refine ET.g_iEnumT ?_) | (with_reducible refine MD.g_ckw ?_) | (with_reducible refine M.g_fld ?_) | (with_reducible refine M.g_sfld ?_) | (with_reducible refine ZV.g_meth ?_) | (with_reducible refine KW.g_K0 ?_) | (with_reducible refine U.g_yes ?_) | (with_reducible refine U.g_cont ?_) | (with_reducible refine U.g_T ?_) | (with_reducible refine U.g_F ?_)
  | ((with_reducible refine' U.g_modI ?k1 ?k2); (case k1 => first | assumption | decide | omega))
  | ((with_reducible refine' U.g_divP ?k1 ?k2 ?k3); (case k1 => first | assumption | decide | omega); (case k2 => first | assumption | decide | omega))
  | (with_reducible refine U.g_mulB ?_) | (with_reducible refine U.g_powL (by decide +kernel) ?_) | (with_reducible refine U.g_modL (by decide +kernel) ?_)
  | ((with_reducible refine' U.g_mulL ?k1 ?k2); (case k1 => first | decide | omega))
  | ((with_reducible refine' U.g_mulR ?k1 ?k2); (case k1 => first | decide | omega))
  | ((with_reducible refine' U.g_ix ?k1 ?k2 ?k3); (case k1 => walk_at "sq"); (case k2 => exact rfl))
  | ((with_reducible refine' U.g_setL ?k1 ?k2 ?k3); (case k1 => walk_at "hp"); (case k2 => exact rfl))
  | ((with_reducible refine' U.g_eqS ?k1 ?k2); (case k1 => rfl)))
/-- what stands at an address, behind stores -/
local macro_rules | `(tactic| walk_at "hp") => `(tactic| first
  | assumption
  | ((with_reducible refine' U.get_same ?k1); (case k1 => exact rfl))
  | ((with_reducible refine' U.get_new ?k1 ?k2); (case k1 => assumption); (case k2 => walk_at "hp"))
  | ((with_reducible refine' U.get_ne ?k1 ?k2); (case k1 => first | assumption | (apply Ne.symm; assumption)); (case k2 => walk_at "hp")))
local macro_rules | `(tactic| walk_at "sq") => `(tactic| first
  | assumption | exact Or.inl (by assumption) | exact Or.inr (by assumption)
  | exact Or.inl (L2.SqL.of (by walk_at "hp")) | exact Or.inr (L2.SqT.of (by walk_at "hp")))
local macro_rules | `(tactic| walk_at "st") => `(tactic| dsimp only [L2.cxOf, L2.start, List.map, List.length, List.replicate, HAppend.hAppend, Append.append, List.append, Nat.reduceAdd, Nat.reduceSub])
local macro_rules | `(tactic| walk_at "ds") => `(tactic| try dsimp only [List.set, Int.reduceToNat])
local macro_rules | `(tactic| walk_at "go") => `(tactic| ((try dsimp only); (repeat walk_at "u1"); walk_at "ds"))
local macro_rules | `(tactic| walk_at "c2") => `(tactic| (refine U.g_2 (fun c => ?_) (fun c => ?_) <;> (try simp only [decide_eq_true_eq, decide_eq_false_iff_not, Bool.not_eq_true', Bool.not_eq_false'] at c)))

namespace M
open PySem L2 U TL
/-! ### marks as data -/
inductive Mrk where
  | kd (s : Str)
  | sp (lo hi : Int)
def MrkAt (H : Hp) (v : V) : Mrk → Prop
  | .kd s => v = .str s
  | .sp lo hi => ∃ a, v = .ref a ∧ H a = some (.tup [.int lo, .int hi])
theorem MrkAt.ts {H H' : Hp} (t : TS H H') {v : V} : ∀ {m : Mrk}, MrkAt H v m → MrkAt H' v m
  | .kd _, h => h
  | .sp _ _, ⟨a, e, h⟩ => ⟨a, e, t a _ h⟩
theorem MrkAt.same {H H' : Hp} (s : Same H H') {v : V} {m : Mrk} (h : MrkAt H v m) : MrkAt H' v m := h.ts (TS.of s)
/-- what a value is that may be a mark -/
inductive Ov where
  | str (s : Str)
  | tup (xs : List V)
  | oth
def OvAt (K : PySem.W.Frag) (H : Hp) (x : V) : Ov → Prop
  | .str s => x = .str s
  | .tup xs => xs.all plainV = true ∧ ∃ a, x = .ref a ∧ H a = some (.tup xs)
  | .oth => ∃ t : String, TyX K H x (.type t) ∧ kitB t "tuple" = some false ∧ kitB t "str" = some false
def leV : V → V → Bool
  | .int a, .int b => decide (a ≤ b)
  | _, _ => false
def lineMk : List V → Bool
  | [x, y] => intIn (-1000000) 1000000 x && (intIn (-1000000) 1000000 y && leV x y)
  | _ => false
def isMrk (ks : List Knd) (b : Bool) : Ov → Bool
  | .str s => b && decide (s ∈ ks.map (·.name))
  | .tup xs => !b && lineMk xs
  | .oth => false
def mkOk (ks : List Knd) (b : Bool) : Mrk → Prop
  | .kd s => b = true ∧ s ∈ ks.map (·.name)
  | .sp lo hi => b = false ∧ -1000000 ≤ lo ∧ lo ≤ hi ∧ hi ≤ 1000000
def mkOv : Mrk → Ov
  | .kd s => .str s
  | .sp lo hi => .tup [.int lo, .int hi]
theorem MrkAt.ov {K : PySem.W.Frag} {H : Hp} {v : V} : ∀ {m : Mrk}, MrkAt H v m → OvAt K H v (mkOv m)
  | .kd _, h => h
  | .sp _ _, ⟨a, e, h⟩ => ⟨rfl, a, e, h⟩
theorem mkOk_is {ks : List Knd} {b : Bool} : ∀ {m : Mrk}, mkOk ks b m → isMrk ks b (mkOv m) = true
  | .kd s, ⟨e, h⟩ => by subst e; exact (Bool.true_and _).trans (decide_eq_true h)
  | .sp lo hi, ⟨e, h1, h2, h3⟩ => by
    subst e
    show (!false && ((decide (-1000000 ≤ lo) && decide (lo ≤ 1000000)) && ((decide (-1000000 ≤ hi) && decide (hi ≤ 1000000)) && decide (lo ≤ hi)))) = true
    rw [decide_eq_true h1, decide_eq_true h2, decide_eq_true h3, decide_eq_true (show lo ≤ 1000000 by omega), decide_eq_true (show -1000000 ≤ hi by omega)]
    rfl
def mkCov (ks : List Knd) : Mrk → V → Bool
  | .kd s, .str n => decide (s ∈ wayOf (ways ks) n)
  | .sp lo hi, .int z => decide (lo ≤ z) && decide (z ≤ hi)
  | _, _ => false
def mkFin (ks : List Knd) : Mrk → Mrk → Bool
  | .kd a, .kd b => decide (b ∈ wayOf (ways ks) a)
  | .sp a b, .sp c d => decide (c ≤ a) && decide (b ≤ d)
  | _, _ => false
def joinN (ks : List Knd) (a b : Str) : Str := ((wayOf (ways ks) a).filter fun y => decide (y ∈ wayOf (ways ks) b)).headD ""
def loI (a c : Int) : Int := if c < a then c else a
def hiI (b d : Int) : Int := if d > b then d else b
def mkJoin (ks : List Knd) : Mrk → Mrk → Mrk
  | .kd a, .kd b => .kd (joinN ks a b)
  | .sp a b, .sp c d => .sp (loI a c) (hiI b d)
  | m, _ => m
def mkCom (ks : List Knd) : Mrk → Mrk → Option Mrk
  | .kd a, .kd b => if decide (b ∈ wayOf (ways ks) a) = true then some (.kd a) else if decide (a ∈ wayOf (ways ks) b) = true then some (.kd b) else none
  | .sp a b, .sp c d => if hiI a c ≤ loI b d then some (.sp (hiI a c) (loI b d)) else none
  | _, _ => none
/-- a value of a column -/
def vlOk (ks : List Knd) (b : Bool) : V → Prop
  | .str s => b = true ∧ s ∈ ks.map (·.name)
  | .int z => b = false ∧ -1000000 ≤ z ∧ z ≤ 1000000
  | _ => False
theorem ty_lst2 {K : PySem.W.Frag} {H : Hp} {a : Addr} {xs : List V} (h : H a = some (.lst xs)) : OvAt K H (.ref a) .oth := ⟨"list", .base (.lst h), by decide +kernel, by decide +kernel⟩
end M
namespace Toy
open PySem L2 U M TL ZV KY SU
section
variable {P : Program} {w : World} {K : PySem.W.Frag} {mg : Str → Option Value} {base : Heap}
theorem lv {H : Hp} {Q : VK} {E : XK} {a y : V} (py : plainV y = true) (q : Q (.bl (intIn (-1000000) 1000000 y)) H) : sp_Line_is_value K [a, y] H Q E := ⟨a, y, rfl, e_isval_line py q⟩
theorem tv {CT : Addr} {H : Hp} {Q : VK} {E : XK} {a dx u l : Addr} {ks : List Knd} {y : V} (tr : TreeX CT H a dx u l ks) (py : plainV y = true) (q : Q (.bl (isKind ks y)) H) : sp_Tree_is_value K CT [.ref a, y] H Q E := ⟨a, dx, u, l, ks, y, rfl, tr, e_isval_tree py q⟩
theorem sc_Line_is_mark : FnScope ["self", "mark", "low", "high"] ["self", "mark"] (defScope s_Line_is_mark) := ⟨rfl, rfl, rfl, by decide +kernel, rfl, by decide +kernel, by decide +kernel⟩
def sp_Line_is_mark (K : PySem.W.Frag) (CL : Addr) : Sp := fun vs H Q _ => ∃ (a dx : Addr) (x : V) (o : Ov), vs = [.ref a, x] ∧ H a = some (.ins CL dx []) ∧ OvAt K H x o ∧ Q (.bl (isMrk [] false o)) H
theorem ok_Line_is_mark (T : Tx K mg) : FnOk P w K mg base CX0 4 T.a_Line_is_mark T.fd_Line_is_mark ["self", "mark"] (sp_Line_is_mark K T.C_Line) := by
  refine T.F_Line_is_mark.ok sc_Line_is_mark (fun vs H Q E h => ?_) (fun cdv A outer s H vs Q E hr h => ?_)
  · obtain ⟨a, dx, x, o, rfl, _⟩ := h
    rfl
  · obtain ⟨a, dx, x, o, rfl, ha, ho, kk⟩ := h
    have hu := hu_of hr
    have hu64 := hr.units
    refine ⟨_, (pss_cons (ps_if (pt_not (pt_val (pe_call (ok_is_tuple_of T) (hr.mono (by decide)) rfl T.m_is_tuple_of T.F_is_tuple_of.kp (b_is_tuple_of T) .nil pass0 (pa_cons (pv 1) (pa_cons (pe_int) pa_nil))))) (pss_one (ps_ret (pe_bl))) pss_nil)
        (pss_cons (ps_asg (pv 1) (u_gtup (K := K) (n := 2) rfl rfl (pgs_cons (pg_name (i := 2) sc_Line_is_mark.nd rfl (Or.inl rfl)) (pgs_cons (pg_name (i := 3) sc_Line_is_mark.nd rfl (Or.inl rfl)) pgs_nil))))
        (pss_one (ps_ret (pe_and (pe_meth (pv 0) T.cl_Line T.me_Line_is_value (ok_Line_is_value T) (hr.mono (by decide)) (b_Line_is_value T) .nil pass0 (pa_cons (pv 2) pa_nil)) (pe_and (pe_meth (pv 0) T.cl_Line T.me_Line_is_value (ok_Line_is_value T) (hr.mono (by decide)) (b_Line_is_value T) .nil pass0 (pa_cons (pv 3) pa_nil)) (pe_one (pe_cmpR op_uLe (pv 2) (pv 3) (nomark _))))))))), ?_⟩
    walk_at "st"
    walk_at "go"
    cases o with
    | str s =>
      have ho : x = .str s := ho
      subst ho
      refine ⟨_, _, rfl, .inr ⟨"str", ty_str, by decide +kernel, ?_⟩⟩
      refine ⟨_, rfl, U.g_T ?_⟩
      walk_at "go"
      exact kk
    | oth =>
      obtain ⟨t, h1, h2, h3⟩ := ho
      refine ⟨_, _, rfl, .inr ⟨t, h1, h2, ?_⟩⟩
      refine ⟨_, rfl, U.g_T ?_⟩
      walk_at "go"
      exact kk
    | tup xs =>
      obtain ⟨px, b, rfl, hb⟩ := ho
      refine ⟨_, _, rfl, .inl ⟨b, xs, rfl, hb, ?_⟩⟩
      by_cases l2 : xs.length = 2
      · obtain ⟨y, z, rfl⟩ : ∃ y z, xs = [y, z] := by
          match xs, l2 with
          | [y, z], _ => exact ⟨y, z, rfl⟩
        rw [decide_eq_true (show ((([y, z] : List V).length : Nat) : Int) = 2 from rfl)]
        refine ⟨_, rfl, U.g_F ?_⟩
        walk_at "go"
        have py : plainV y = true := List.all_eq_true.mp px y List.mem_cons_self
        have pz : plainV z = true := List.all_eq_true.mp px z (List.mem_cons_of_mem _ List.mem_cons_self)
        refine ⟨a, dx, [], rfl, ha, rfl, ?_⟩
        walk_at "go"
        refine lv py ?_
        have kk : Q (.bl (intIn (-1000000) 1000000 y && (intIn (-1000000) 1000000 z && leV y z))) H := kk
        cases c1 : intIn (-1000000) 1000000 y with
        | false =>
          rw [c1] at kk
          exact ⟨_, rfl, U.g_F kk⟩
        | true =>
          rw [c1] at kk
          refine ⟨_, rfl, U.g_T ?_⟩
          walk_at "go"
          refine ⟨a, dx, [], rfl, ha, rfl, ?_⟩
          walk_at "go"
          refine lv pz ?_
          cases c2 : intIn (-1000000) 1000000 z with
          | false =>
            rw [c2] at kk
            exact ⟨_, rfl, U.g_F kk⟩
          | true =>
            rw [c2] at kk
            refine ⟨_, rfl, U.g_T ?_⟩
            obtain ⟨i, rfl, _⟩ := intIn_out c1
            obtain ⟨j, rfl, _⟩ := intIn_out c2
            walk_at "go"
            exact kk
      · rw [decide_eq_false (show ¬ (xs.length : Int) = 2 by omega)]
        refine ⟨_, rfl, U.g_T ?_⟩
        walk_at "go"
        have e : isMrk [] false (.tup xs) = false := by
          show (!false && lineMk xs) = false
          match xs, l2 with
          | [], _ => rfl
          | [_], _ => rfl
          | [_, _], l2 => exact absurd rfl l2
          | _ :: _ :: _ :: _, _ => rfl
        rw [e] at kk
        exact kk
theorem sc_Line_covers : FnScope ["self", "mark", "value", "low", "high"] ["self", "mark", "value"] (defScope s_Line_covers) := ⟨rfl, rfl, rfl, by decide +kernel, rfl, by decide +kernel, by decide +kernel⟩
def sp_Line_covers : Sp := fun vs H Q _ => ∃ (a b : Addr) (lo hi z : Int), vs = [.ref a, .ref b, .int z] ∧ H b = some (.tup [.int lo, .int hi]) ∧ Q (.bl (decide (lo ≤ z) && decide (z ≤ hi))) H
theorem ok_Line_covers (T : Tx K mg) : FnOk P w K mg base CX0 1 T.a_Line_covers T.fd_Line_covers ["self", "mark", "value"] sp_Line_covers := by
  refine T.F_Line_covers.ok sc_Line_covers (fun vs H Q E h => ?_) (fun cdv A outer s H vs Q E hr h => ?_)
  · obtain ⟨a, b, lo, hi, z, rfl, _⟩ := h
    rfl
  · obtain ⟨a, b, lo, hi, z, rfl, hb, kk⟩ := h
    have hu := hu_of hr
    have hu64 := hr.units
    refine ⟨_, (pss_cons (ps_asg (pv 1) (u_gtup (K := K) (n := 2) rfl rfl (pgs_cons (pg_name (i := 3) sc_Line_covers.nd rfl (Or.inl rfl)) (pgs_cons (pg_name (i := 4) sc_Line_covers.nd rfl (Or.inl rfl)) pgs_nil))))
        (pss_one (ps_ret (pe_chain op_uLe op_uLe (pv 3) (pv 2) (pv 4))))), ?_⟩
    walk_at "st"
    walk_at "go"
    by_cases c : lo ≤ z
    · rw [decide_eq_true c] at kk ⊢
      walk_at "go"
      exact kk
    · rw [decide_eq_false c] at kk ⊢
      walk_at "go"
      exact kk
theorem sc_Line_is_finer : FnScope ["self", "one", "other"] ["self", "one", "other"] (defScope s_Line_is_finer) := ⟨rfl, rfl, rfl, by decide +kernel, rfl, by decide +kernel, by decide +kernel⟩
def sp_Line_fin : Sp := fun vs H Q _ => ∃ (a b b' : Addr) (x y z u : Int), vs = [.ref a, .ref b, .ref b'] ∧ H b = some (.tup [.int x, .int y]) ∧ H b' = some (.tup [.int z, .int u]) ∧ Q (.bl (decide (z ≤ x) && decide (y ≤ u))) H
theorem ok_Line_is_finer (T : Tx K mg) : FnOk P w K mg base CX0 1 T.a_Line_is_finer T.fd_Line_is_finer ["self", "one", "other"] sp_Line_fin := by
  refine T.F_Line_is_finer.ok sc_Line_is_finer (fun vs H Q E h => ?_) (fun cdv A outer s H vs Q E hr h => ?_)
  · obtain ⟨a, b, b', x, y, z, u, rfl, _⟩ := h
    rfl
  · obtain ⟨a, b, b', x, y, z, u, rfl, hb, hb', kk⟩ := h
    have hu := hu_of hr
    have hu64 := hr.units
    refine ⟨_, (pss_one (ps_ret (pe_and (pe_cmpR op_uLe (pe_ix (ix_u (K := K) rfl) (pv 2) (pe_int) (fun _ _ => rfl)) (pe_ix (ix_u (K := K) rfl) (pv 1) (pe_int) (fun _ _ => rfl)) (nomark _)) (pe_one (pe_cmpR op_uLe (pe_ix (ix_u (K := K) rfl) (pv 1) (pe_int) (fun _ _ => rfl)) (pe_ix (ix_u (K := K) rfl) (pv 2) (pe_int) (fun _ _ => rfl)) (nomark _)))))), ?_⟩
    walk_at "st"
    walk_at "go"
    by_cases c : z ≤ x
    · rw [decide_eq_true c] at kk ⊢
      walk_at "go"
      exact kk
    · rw [decide_eq_false c] at kk ⊢
      walk_at "go"
      exact kk
theorem sc_Line_joined : FnScope ["self", "one", "other"] ["self", "one", "other"] (defScope s_Line_joined) := ⟨rfl, rfl, rfl, by decide +kernel, rfl, by decide +kernel, by decide +kernel⟩
def sp_Line_join : Sp := fun vs H Q _ => ∃ (a b b' : Addr) (x y z u : Int), vs = [.ref a, .ref b, .ref b'] ∧ H b = some (.tup [.int x, .int y]) ∧ H b' = some (.tup [.int z, .int u]) ∧ ∀ p, H p = none → Q (.ref p) (upd H p (.tup [.int (loI x z), .int (hiI y u)]))
theorem ok_Line_joined (T : Tx K mg) : FnOk P w K mg base CX0 1 T.a_Line_joined T.fd_Line_joined ["self", "one", "other"] sp_Line_join := by
  refine T.F_Line_joined.ok sc_Line_joined (fun vs H Q E h => ?_) (fun cdv A outer s H vs Q E hr h => ?_)
  · obtain ⟨a, b, b', x, y, z, u, rfl, _⟩ := h
    rfl
  · obtain ⟨a, b, b', x, y, z, u, rfl, hb, hb', kk⟩ := h
    have hu := hu_of hr
    have hu64 := hr.units
    refine ⟨_, (pss_one (ps_ret (pe_tup (pa_cons (pe_callB (call_uMin rfl) (by rfl) T.n_min (by decide +kernel) (pa_cons (pe_ix (ix_u (K := K) rfl) (pv 1) (pe_int) (fun _ _ => rfl)) (pa_cons (pe_ix (ix_u (K := K) rfl) (pv 2) (pe_int) (fun _ _ => rfl)) pa_nil))) (pa_cons (pe_callB (call_uMax rfl) (by rfl) T.n_max (by decide +kernel) (pa_cons (pe_ix (ix_u (K := K) rfl) (pv 1) (pe_int) (fun _ _ => rfl)) (pa_cons (pe_ix (ix_u (K := K) rfl) (pv 2) (pe_int) (fun _ _ => rfl)) pa_nil))) pa_nil))))), ?_⟩
    walk_at "st"
    walk_at "go"
    exact ⟨by show 2 ≤ sizeLine; decide, kk⟩
theorem sc_Line_common : FnScope ["self", "one", "other", "low", "high"] ["self", "one", "other"] (defScope s_Line_common) := ⟨rfl, rfl, rfl, by decide +kernel, rfl, by decide +kernel, by decide +kernel⟩
def sp_Line_com : Sp := fun vs H Q _ => ∃ (a b b' : Addr) (x y z u : Int), vs = [.ref a, .ref b, .ref b'] ∧ H b = some (.tup [.int x, .int y]) ∧ H b' = some (.tup [.int z, .int u]) ∧ (¬ hiI x z ≤ loI y u → Q .non H) ∧ (hiI x z ≤ loI y u → ∀ p, H p = none → Q (.ref p) (upd H p (.tup [.int (hiI x z), .int (loI y u)])))
theorem ok_Line_common (T : Tx K mg) : FnOk P w K mg base CX0 1 T.a_Line_common T.fd_Line_common ["self", "one", "other"] sp_Line_com := by
  refine T.F_Line_common.ok sc_Line_common (fun vs H Q E h => ?_) (fun cdv A outer s H vs Q E hr h => ?_)
  · obtain ⟨a, b, b', x, y, z, u, rfl, _⟩ := h
    rfl
  · obtain ⟨a, b, b', x, y, z, u, rfl, hb, hb', k0, k1⟩ := h
    have hu := hu_of hr
    have hu64 := hr.units
    refine ⟨_, (pss_cons (ps_set (i := 3) sc_Line_common.nd rfl (Or.inl rfl) (pe_callB (call_uMax rfl) (by rfl) T.n_max (by decide +kernel) (pa_cons (pe_ix (ix_u (K := K) rfl) (pv 1) (pe_int) (fun _ _ => rfl)) (pa_cons (pe_ix (ix_u (K := K) rfl) (pv 2) (pe_int) (fun _ _ => rfl)) pa_nil))))
        (pss_cons (ps_set (i := 4) sc_Line_common.nd rfl (Or.inl rfl) (pe_callB (call_uMin rfl) (by rfl) T.n_min (by decide +kernel) (pa_cons (pe_ix (ix_u (K := K) rfl) (pv 1) (pe_int) (fun _ _ => rfl)) (pa_cons (pe_ix (ix_u (K := K) rfl) (pv 2) (pe_int) (fun _ _ => rfl)) pa_nil))))
        (pss_one (ps_ret (pe_ifExp (pt_cmpR op_uLe (pv 3) (pv 4) (nomark _)) (pe_tup (pa_cons (pv 3) (pa_cons (pv 4) pa_nil))) (pe_non)))))), ?_⟩
    walk_at "st"
    walk_at "go"
    refine U.g_2 (fun c => ?_) (fun c => ?_)
    · have c : hiI x z ≤ loI y u := of_decide_eq_true c
      walk_at "go"
      exact ⟨by show 2 ≤ sizeLine; decide, k1 c⟩
    · have c : ¬ hiI x z ≤ loI y u := of_decide_eq_false c
      walk_at "go"
      exact k0 c
theorem sc_Line_least : FnScope ["self", "values"] ["self", "values"] (defScope s_Line_least) := ⟨rfl, rfl, rfl, by decide +kernel, rfl, by decide +kernel, by decide +kernel⟩
def sp_Line_least : Sp := fun vs H Q _ => ∃ (a b : Addr) (ns : List Int), vs = [.ref a, .ref b] ∧ H b = some (.tup (ns.map V.int)) ∧ 0 < ns.length ∧ ∀ lo hi p, lo ∈ ns → (∀ y ∈ ns, lo ≤ y) → hi ∈ ns → (∀ y ∈ ns, y ≤ hi) → H p = none → Q (.ref p) (upd H p (.tup [.int lo, .int hi]))
theorem ok_Line_least (T : Tx K mg) : FnOk P w K mg base CX0 1 T.a_Line_least T.fd_Line_least ["self", "values"] sp_Line_least := by
  refine T.F_Line_least.ok sc_Line_least (fun vs H Q E h => ?_) (fun cdv A outer s H vs Q E hr h => ?_)
  · obtain ⟨a, b, ns, rfl, _⟩ := h
    rfl
  · obtain ⟨a, b, ns, rfl, hb, h0, kk⟩ := h
    have hu := hu_of hr
    have hu64 := hr.units
    refine ⟨_, (pss_one (ps_ret (pe_tup (pa_cons (pe_callB (MT.cr_minT (K := K) rfl rfl hu64) (by rfl) T.n_min (by decide +kernel) (pa_cons (pv 1) pa_nil)) (pa_cons (pe_callB (MT.cr_maxT (K := K) rfl rfl hu64) (by rfl) T.n_max (by decide +kernel) (pa_cons (pv 1) pa_nil)) pa_nil))))), ?_⟩
    walk_at "st"
    walk_at "go"
    refine MT.g_minT (SqT.of hb) h0 fun lo l1 l2 => ?_
    walk_at "go"
    refine MT.g_maxT (SqT.of hb) h0 fun hi h1 h2 => ?_
    walk_at "go"
    exact ⟨by show 2 ≤ sizeLine; decide, fun p np => kk lo hi p l1 l2 h1 h2 np⟩
end
end Toy

namespace M
open PySem L2 U TL
/-! ### ways up: the ends of ways -/
theorem way_suf {c : Str} {ks : List Knd} (K : KOk c ks) : ∀ (n : Nat) {x y : Str}, (wayOf (ways ks) x).length ≤ n → x ∈ ks.map (·.name) → y ∈ wayOf (ways ks) x → ∃ pre, wayOf (ways ks) x = pre ++ wayOf (ways ks) y
  | 0, x, y, hl, _, h => by
    have : wayOf (ways ks) x = [] := List.length_eq_zero_iff.mp (by omega)
    rw [this] at h
    cases h
  | n + 1, x, y, hl, hx, h => by
    obtain ⟨k, hk, rfl⟩ := List.mem_map.mp hx
    have st := way_step K k hk
    rw [st] at h hl
    rcases List.mem_cons.mp h with e | h
    · exact ⟨[], by rw [e]; rfl⟩
    · cases hu : k.up with
      | none => rw [hu] at h; cases h
      | some u =>
        rw [hu] at h hl
        have h : y ∈ wayOf (ways ks) u := h
        have hl : (wayOf (ways ks) u).length + 1 ≤ n + 1 := hl
        obtain ⟨pre, e⟩ := way_suf K n (by omega) (up_in K k hk u hu) h
        refine ⟨k.name :: pre, ?_⟩
        rw [st, hu, List.cons_append, ← e]
        rfl
theorem way_end {c : Str} {ks : List Knd} (K : KOk c ks) {x y : Str} (hx : x ∈ ks.map (·.name)) (h : y ∈ wayOf (ways ks) x) : ∃ pre, wayOf (ways ks) x = pre ++ wayOf (ways ks) y := way_suf K _ (Nat.le_refl _) hx h
theorem way_hd {c : Str} {ks : List Knd} (K : KOk c ks) {x : Str} (hx : x ∈ ks.map (·.name)) : ∃ t, wayOf (ways ks) x = x :: t := by
  obtain ⟨k, hk, rfl⟩ := List.mem_map.mp hx
  exact ⟨_, way_step K k hk⟩
/-- those of a way that a set of names closed towards the root holds: an end of the way -/
theorem way_filter {c : Str} {ks : List Knd} (K : KOk c ks) {x : Str} (hx : x ∈ ks.map (·.name)) (p : Str → Bool) (hp : ∀ y z, y ∈ ks.map (·.name) → p y = true → z ∈ wayOf (ways ks) y → p z = true) {z : Str} {zs : List Str} (h : (wayOf (ways ks) x).filter p = z :: zs) : wayOf (ways ks) z = z :: zs ∧ z ∈ ks.map (·.name) := by
  have hz : z ∈ (wayOf (ways ks) x).filter p := by rw [h]; exact List.mem_cons_self
  rw [List.mem_filter] at hz
  have zin : z ∈ ks.map (·.name) := way_in hz.1
  obtain ⟨pre, e⟩ := way_end K hx hz.1
  have all : (wayOf (ways ks) z).filter p = wayOf (ways ks) z := List.filter_eq_self.mpr fun y hy => hp z y zin hz.2 hy
  obtain ⟨t, et⟩ := way_hd K zin
  rw [e, List.filter_append, all] at h
  cases hpre : pre.filter p with
  | nil => rw [hpre] at h; exact ⟨h, zin⟩
  | cons a r =>
    rw [hpre, List.cons_append] at h
    injection h with h1 h2
    subst h1
    have : a ∈ pre := (List.mem_filter.mp (show a ∈ pre.filter p by rw [hpre]; exact List.mem_cons_self)).1
    obtain ⟨u, v, euv⟩ := List.append_of_mem this
    rw [euv, List.append_assoc, List.cons_append] at e
    -- the way from the first a on is an end that begins with a, longer than the way of a
    exact absurd e (way_twice K hx)
where
  way_twice {c : Str} {ks : List Knd} (K : KOk c ks) {x a : Str} {u v : List Str} (hx : x ∈ ks.map (·.name)) : ¬ wayOf (ways ks) x = u ++ a :: (v ++ wayOf (ways ks) a) := by
    induction u generalizing x with
    | nil =>
      intro e
      obtain ⟨t, et⟩ := way_hd K hx
      have exa : x = a := by rw [et] at e; injection e
      subst exa
      have := congrArg List.length e
      simp only [List.nil_append, List.length_cons, List.length_append] at this
      omega
    | cons b u ih =>
      intro e
      obtain ⟨k, hk, rfl⟩ := List.mem_map.mp hx
      have st := way_step K k hk
      rw [st, List.cons_append] at e
      injection e with _ e
      cases hu : k.up with
      | none => rw [hu] at e; exact absurd e (by show ¬ ([] : List Str) = _; simp)
      | some w => rw [hu] at e; exact ih (up_in K k hk w hu) e
theorem way_trans {c : Str} {ks : List Knd} (K : KOk c ks) {x y z : Str} (hx : x ∈ ks.map (·.name)) (h1 : y ∈ wayOf (ways ks) x) (h2 : z ∈ wayOf (ways ks) y) : z ∈ wayOf (ways ks) x := by
  obtain ⟨pre, e⟩ := way_end K hx h1
  rw [e]
  exact List.mem_append_right _ h2
theorem way_com {c : Str} {ks : List Knd} (K : KOk c ks) {x : Str} {l : List Str} (hx : x ∈ ks.map (·.name)) (hl : ∀ y ∈ l, y ∈ ks.map (·.name)) {z : Str} {zs : List Str} (h : com ks x l = z :: zs) : wayOf (ways ks) z = z :: zs ∧ z ∈ ks.map (·.name) := by
  refine way_filter K hx _ (fun y w hy hp hw => ?_) h
  rw [List.all_eq_true] at hp ⊢
  intro k hk
  exact decide_eq_true (way_trans K (hl k hk) (of_decide_eq_true (hp k hk)) hw)
theorem pair_in {ns : List Str} {x y : Str} (hx : x ∈ ns) (hy : y ∈ ns) : ∀ w ∈ [x, y], w ∈ ns := by
  intro w hw
  rcases List.mem_cons.mp hw with e | hw
  · rw [e]; exact hx
  · rw [List.mem_singleton.mp hw]; exact hy
/-- the join of two kinds -/
theorem joinN_com {c : Str} {ks : List Knd} (K : KOk c ks) {x y : Str} (hx : x ∈ ks.map (·.name)) (hy : y ∈ ks.map (·.name)) : ∃ zs, com ks x [x, y] = joinN ks x y :: zs ∧ ((wayOf (ways ks) x).filter fun z => decide (z ∈ wayOf (ways ks) y)) = joinN ks x y :: zs := by
  have e : com ks x [x, y] = (wayOf (ways ks) x).filter fun z => decide (z ∈ wayOf (ways ks) y) := by
    unfold com
    refine List.filter_congr fun z hz => ?_
    rw [List.all_cons, List.all_cons, List.all_nil, decide_eq_true hz, Bool.true_and, Bool.and_true]
  obtain ⟨z, zs, ez⟩ := com_some K (x := x) (l := [y]) (pair_in hx hy)
  have ej : joinN ks x y = z := by
    unfold joinN
    rw [← e, ez]
    rfl
  rw [ej, ← e]
  exact ⟨zs, ez, ez⟩
theorem joinN_in {c : Str} {ks : List Knd} (K : KOk c ks) {x y : Str} (hx : x ∈ ks.map (·.name)) (hy : y ∈ ks.map (·.name)) : joinN ks x y ∈ ks.map (·.name) := by
  obtain ⟨zs, e, _⟩ := joinN_com K hx hy
  exact (way_com K hx (pair_in hx hy) e).2
theorem joinN_way {c : Str} {ks : List Knd} (K : KOk c ks) {x y : Str} (hx : x ∈ ks.map (·.name)) (hy : y ∈ ks.map (·.name)) : wayOf (ways ks) (joinN ks x y) = (wayOf (ways ks) x).filter fun z => decide (z ∈ wayOf (ways ks) y) := by
  obtain ⟨zs, e, e2⟩ := joinN_com K hx hy
  rw [e2]
  exact (way_com K hx (pair_in hx hy) e).1
/-- joins one by one -/
theorem fold_join {c : Str} {ks : List Knd} (K : KOk c ks) : ∀ (l : List Str) {x : Str}, x ∈ ks.map (·.name) → (∀ y ∈ l, y ∈ ks.map (·.name)) → l.foldl (joinN ks) x ∈ ks.map (·.name) ∧ wayOf (ways ks) (l.foldl (joinN ks) x) = com ks x l
  | [], x, hx, _ => ⟨hx, (com_nil ks x).symm⟩
  | y :: r, x, hx, h => by
    have hy := h y List.mem_cons_self
    obtain ⟨h1, h2⟩ := fold_join K r (joinN_in K hx hy) fun w hw => h w (List.mem_cons_of_mem _ hw)
    refine ⟨h1, ?_⟩
    rw [List.foldl_cons, h2]
    unfold com
    rw [joinN_way K hx hy, List.filter_filter]
    refine List.filter_congr fun z _ => ?_
    rw [List.all_cons, Bool.and_comm]
end M

namespace Toy
open PySem L2 U M TL ZV KY SU
section
variable {P : Program} {w : World} {K : PySem.W.Frag} {mg : Str → Option Value} {base : Heap}
theorem sc_Tree_is_mark : FnScope ["self", "mark"] ["self", "mark"] (defScope s_Tree_is_mark) := ⟨rfl, rfl, rfl, by decide +kernel, rfl, by decide +kernel, by decide +kernel⟩
def sp_Tree_is_mark (K : PySem.W.Frag) (CT : Addr) : Sp := fun vs H Q _ => ∃ (a dx u l : Addr) (ks : List Knd) (x : V) (o : Ov), vs = [.ref a, x] ∧ TreeX CT H a dx u l ks ∧ OvAt K H x o ∧ Q (.bl (isMrk ks true o)) H
theorem ok_Tree_is_mark (T : Tx K mg) : FnOk P w K mg base CX0 4 T.a_Tree_is_mark T.fd_Tree_is_mark ["self", "mark"] (sp_Tree_is_mark K T.C_Tree) := by
  refine T.F_Tree_is_mark.ok sc_Tree_is_mark (fun vs H Q E h => ?_) (fun cdv A outer s H vs Q E hr h => ?_)
  · obtain ⟨a, dx, u, l, ks, x, o, rfl, _⟩ := h
    rfl
  · obtain ⟨a, dx, u, l, ks, x, o, rfl, tr, ho, kk⟩ := h
    have hu := hu_of hr
    have hu64 := hr.units
    refine ⟨_, (pss_one (ps_ret (pe_meth (pv 0) T.cl_Tree T.me_Tree_is_value (ok_Tree_is_value T) (hr.mono (by decide)) (b_Tree_is_value T) .nil pass0 (pa_cons (pv 1) pa_nil)))), ?_⟩
    walk_at "st"
    walk_at "go"
    refine ⟨a, dx, _, rfl, tr.hi, lk_nil2 (by decide +kernel) (by decide +kernel), ?_⟩
    walk_at "go"
    cases o with
    | str s =>
      have ho : x = .str s := ho
      subst ho
      exact ⟨a, dx, u, l, ks, _, rfl, tr, .inl ⟨s, rfl, kk⟩⟩
    | oth =>
      obtain ⟨t, h1, h2, h3⟩ := ho
      exact ⟨a, dx, u, l, ks, _, rfl, tr, .inr ⟨t, h1, h3, kk⟩⟩
    | tup xs =>
      obtain ⟨px, b, rfl, hb⟩ := ho
      exact ⟨a, dx, u, l, ks, _, rfl, tr, .inr ⟨"tuple", ty_tup hb, by decide +kernel, kk⟩⟩
theorem tree_way {CT : Addr} {H : Hp} {a dx u l : Addr} {ks : List Knd} (tr : TreeX CT H a dx u l ks) {n : Str} (hn : n ∈ ks.map (·.name)) : ∃ kvs q, H u = some (.dK kvs) ∧ valV kvs (Sum.inr n) = some (.ref q) ∧ H q = some (.tup ((wayOf (ways ks) n).map V.str)) := by
  obtain ⟨kvs, hk, _, _, hw⟩ := tr.looks n
  obtain ⟨v, hv, q, rfl, hq⟩ := hw hn
  exact ⟨kvs, q, hk, hv, hq⟩
theorem sc_Tree_covers : FnScope ["self", "mark", "value"] ["self", "mark", "value"] (defScope s_Tree_covers) := ⟨rfl, rfl, rfl, by decide +kernel, rfl, by decide +kernel, by decide +kernel⟩
def sp_Tree_covers (CT : Addr) : Sp := fun vs H Q _ => ∃ (a dx u l : Addr) (ks : List Knd) (s n : Str), vs = [.ref a, .str s, .str n] ∧ TreeX CT H a dx u l ks ∧ n ∈ ks.map (·.name) ∧ Q (.bl (decide (s ∈ wayOf (ways ks) n))) H
theorem ok_Tree_covers (T : Tx K mg) : FnOk P w K mg base CX0 1 T.a_Tree_covers T.fd_Tree_covers ["self", "mark", "value"] (sp_Tree_covers T.C_Tree) := by
  refine T.F_Tree_covers.ok sc_Tree_covers (fun vs H Q E h => ?_) (fun cdv A outer s H vs Q E hr h => ?_)
  · obtain ⟨a, dx, u, l, ks, s, n, rfl, _⟩ := h
    rfl
  · obtain ⟨a, dx, u, l, ks, s, n, rfl, tr, hn, kk⟩ := h
    have hu := hu_of hr
    have hu64 := hr.units
    refine ⟨_, (pss_one (ps_ret (pe_cmpR (op_uIn (K := K) rfl) (pv 1) (pe_dget hu (u_fld (K := K) rfl (pv 0) rfl) (pv 2) (fun _ _ => rfl)) rfl))), ?_⟩
    obtain ⟨kvs, q, h1, h2, h3⟩ := tree_way tr hn
    walk_at "st"
    walk_at "go"
    refine tr.ups T.cl_Tree T.na_Tree_ups ?_
    walk_at "go"
    refine e_dgetS h1 h2 ?_
    refine ⟨q, _, rfl, Or.inr (SqT.of h3), rfl, strs_flat _, ?_⟩
    rw [in_strs]
    exact kk
theorem sc_Tree_is_finer : FnScope ["self", "one", "other"] ["self", "one", "other"] (defScope s_Tree_is_finer) := ⟨rfl, rfl, rfl, by decide +kernel, rfl, by decide +kernel, by decide +kernel⟩
def sp_Tree_fin (CT : Addr) : Sp := fun vs H Q _ => ∃ (a dx u l : Addr) (ks : List Knd) (s n : Str), vs = [.ref a, .str s, .str n] ∧ TreeX CT H a dx u l ks ∧ s ∈ ks.map (·.name) ∧ Q (.bl (decide (n ∈ wayOf (ways ks) s))) H
theorem ok_Tree_is_finer (T : Tx K mg) : FnOk P w K mg base CX0 1 T.a_Tree_is_finer T.fd_Tree_is_finer ["self", "one", "other"] (sp_Tree_fin T.C_Tree) := by
  refine T.F_Tree_is_finer.ok sc_Tree_is_finer (fun vs H Q E h => ?_) (fun cdv A outer s H vs Q E hr h => ?_)
  · obtain ⟨a, dx, u, l, ks, s, n, rfl, _⟩ := h
    rfl
  · obtain ⟨a, dx, u, l, ks, s, n, rfl, tr, hn, kk⟩ := h
    have hu := hu_of hr
    have hu64 := hr.units
    refine ⟨_, (pss_one (ps_ret (pe_cmpR (op_uIn (K := K) rfl) (pv 2) (pe_dget hu (u_fld (K := K) rfl (pv 0) rfl) (pv 1) (fun _ _ => rfl)) rfl))), ?_⟩
    obtain ⟨kvs, q, h1, h2, h3⟩ := tree_way tr hn
    walk_at "st"
    walk_at "go"
    refine tr.ups T.cl_Tree T.na_Tree_ups ?_
    walk_at "go"
    refine e_dgetS h1 h2 ?_
    refine ⟨q, _, rfl, Or.inr (SqT.of h3), rfl, strs_flat _, ?_⟩
    rw [in_strs]
    exact kk
theorem sc_Tree_joined : FnScope ["self", "one", "other"] ["self", "one", "other"] (defScope s_Tree_joined) := ⟨rfl, rfl, rfl, by decide +kernel, rfl, by decide +kernel, by decide +kernel⟩
def sp_Tree_join (CT : Addr) : Sp := fun vs H Q _ => ∃ (a dx u l : Addr) (c : Str) (ks : List Knd) (s n : Str), vs = [.ref a, .str s, .str n] ∧ TreeX CT H a dx u l ks ∧ KOk c ks ∧ ks.length ≤ 60 ∧ s ∈ ks.map (·.name) ∧ n ∈ ks.map (·.name) ∧ ∀ H', Same H H' → Q (.str (joinN ks s n)) H'
theorem ok_Tree_joined (T : Tx K mg) : FnOk P w K mg base CX0 2 T.a_Tree_joined T.fd_Tree_joined ["self", "one", "other"] (sp_Tree_join T.C_Tree) := by
  refine T.F_Tree_joined.ok sc_Tree_joined (fun vs H Q E h => ?_) (fun cdv A outer s H vs Q E hr h => ?_)
  · obtain ⟨a, dx, u, l, c, ks, s, n, rfl, _⟩ := h
    rfl
  · obtain ⟨a, dx, u, l, c, ks, s, n, rfl, tr, ok, k60, hs, hn, kk⟩ := h
    have hu := hu_of hr
    have hu64 := hr.units
    refine ⟨_, (pss_one (ps_ret (pe_meth (pv 0) T.cl_Tree T.me_Tree_least (ok_Tree_least T) (hr.mono (by decide)) (b_Tree_least T) .nil pass0 (pa_cons (pe_tup (pa_cons (pv 1) (pa_cons (pv 2) pa_nil))) pa_nil)))), ?_⟩
    walk_at "st"
    walk_at "go"
    refine ⟨a, dx, _, rfl, tr.hi, lk_nil2 (by decide +kernel) (by decide +kernel), ?_⟩
    walk_at "go"
    refine ⟨by show 2 ≤ sizeLine; decide, fun p np => ?_⟩
    have sp := U.same_new (o := .tup [.str s, .str n]) np
    obtain ⟨zs, e, _⟩ := joinN_com ok hs hn
    exact ⟨a, dx, u, l, p, ks, s, joinN ks s n, [n], zs, rfl, tr.mono sp, upd_same, by show 1 < 60; decide, k60, pair_in hs hn, e, fun H' s' => kk H' (sp.trans s')⟩
theorem sc_Tree_common : FnScope ["self", "one", "other"] ["self", "one", "other"] (defScope s_Tree_common) := ⟨rfl, rfl, rfl, by decide +kernel, rfl, by decide +kernel, by decide +kernel⟩
def sp_Tree_com (CT : Addr) : Sp := fun vs H Q _ => ∃ (a dx u l : Addr) (ks : List Knd) (s n : Str), vs = [.ref a, .str s, .str n] ∧ TreeX CT H a dx u l ks ∧ s ∈ ks.map (·.name) ∧ n ∈ ks.map (·.name) ∧ Q (if decide (n ∈ wayOf (ways ks) s) = true then .str s else if decide (s ∈ wayOf (ways ks) n) = true then .str n else .non) H
theorem ok_Tree_common (T : Tx K mg) : FnOk P w K mg base CX0 2 T.a_Tree_common T.fd_Tree_common ["self", "one", "other"] (sp_Tree_com T.C_Tree) := by
  refine T.F_Tree_common.ok sc_Tree_common (fun vs H Q E h => ?_) (fun cdv A outer s H vs Q E hr h => ?_)
  · obtain ⟨a, dx, u, l, ks, s, n, rfl, _⟩ := h
    rfl
  · obtain ⟨a, dx, u, l, ks, s, n, rfl, tr, hs, hn, kk⟩ := h
    have hu := hu_of hr
    have hu64 := hr.units
    refine ⟨_, (pss_cons (ps_if (pt_val (pe_meth (pv 0) T.cl_Tree T.me_Tree_is_finer (ok_Tree_is_finer T) (hr.mono (by decide)) (b_Tree_is_finer T) .nil pass0 (pa_cons (pv 1) (pa_cons (pv 2) pa_nil)))) (pss_one (ps_ret (pv 1))) pss_nil)
        (pss_one (ps_ret (pe_ifExp (pt_val (pe_meth (pv 0) T.cl_Tree T.me_Tree_is_finer (ok_Tree_is_finer T) (hr.mono (by decide)) (b_Tree_is_finer T) .nil pass0 (pa_cons (pv 2) (pa_cons (pv 1) pa_nil)))) (pv 2) (pe_non))))), ?_⟩
    walk_at "st"
    walk_at "go"
    refine ⟨a, dx, _, rfl, tr.hi, lk_nil2 (by decide +kernel) (by decide +kernel), ?_⟩
    walk_at "go"
    refine ⟨a, dx, u, l, ks, s, n, rfl, tr, hs, ?_⟩
    refine ⟨_, rfl, U.g_2 (fun c => ?_) (fun c => ?_)⟩
    · rw [if_pos c] at kk
      walk_at "go"
      exact kk
    · rw [c, if_neg Bool.false_ne_true] at kk
      walk_at "go"
      refine ⟨a, dx, _, rfl, tr.hi, lk_nil2 (by decide +kernel) (by decide +kernel), ?_⟩
      walk_at "go"
      refine ⟨a, dx, u, l, ks, n, s, rfl, tr, hn, ?_⟩
      refine ⟨_, rfl, U.g_2 (fun c2 => ?_) (fun c2 => ?_)⟩
      · rw [if_pos c2] at kk
        walk_at "go"
        exact kk
      · rw [c2, if_neg Bool.false_ne_true] at kk
        walk_at "go"
        exact kk
theorem scale_tree {CL CT : Addr} {H : Hp} {v : V} {n : Str} {ks : List Knd} (h : ScaleAt CL CT H v (n, true) ks) : ∃ a dx u l, v = .ref a ∧ TreeX CT H a dx u l ks := by
  unfold ScaleAt at h
  rw [if_pos rfl] at h
  exact h
theorem scale_line {CL CT : Addr} {H : Hp} {v : V} {n : Str} {ks : List Knd} (h : ScaleAt CL CT H v (n, false) ks) : ∃ a dx, v = .ref a ∧ H a = some (.ins CL dx []) := by
  unfold ScaleAt at h
  rw [if_neg Bool.false_ne_true] at h
  exact h
theorem sc_is_mark : FnScope ["census", "column", "value"] ["census", "column", "value"] (defScope s_is_mark) := ⟨rfl, rfl, rfl, by decide +kernel, rfl, by decide +kernel, by decide +kernel⟩
def sp_is_mark (K : PySem.W.Frag) (CL CT CR : Addr) : Sp := fun vs H Q _ => ∃ (a dx tc tk tp ds dn : Addr) (gs : List Col) (R : Reg) (n : Str) (b : Bool) (x : V) (o : Ov), vs = [.ref a, .str n, x] ∧ CenX CL CT CR H a dx tc tk tp ds dn gs R ∧ R.cols.lookup n = some b ∧ OvAt K H x o ∧ Q (.bl (isMrk (ksOf R.kinds n) b o)) H
theorem isMrk_line (ks : List Knd) (o : Ov) : isMrk ks false o = isMrk [] false o := by cases o <;> rfl
theorem ok_is_mark (T : Tx K mg) : FnOk P w K mg base CX0 5 T.a_is_mark T.fd_is_mark ["census", "column", "value"] (sp_is_mark K T.C_Line T.C_Tree T.C_Register) := by
  refine T.F_is_mark.ok sc_is_mark (fun vs H Q E h => ?_) (fun cdv A outer s H vs Q E hr h => ?_)
  · obtain ⟨a, dx, tc, tk, tp, ds, dn, gs, R, n, b, x, o, rfl, _⟩ := h
    rfl
  · obtain ⟨a, dx, tc, tk, tp, ds, dn, gs, R, n, b, x, o, rfl, ce, hn, ho, kk⟩ := h
    have hu := hu_of hr
    have hu64 := hr.units
    refine ⟨_, (pss_one (ps_ret (u_or (pe_meth (pe_call (ok_scale_of T) (hr.mono (by decide)) rfl T.m_scale_of T.F_scale_of.kp (b_scale_of T) .nil pass0 (pa_cons (pv 0) (pa_cons (pv 1) pa_nil))) T.cl_Line T.me_Line_is_mark (ok_Line_is_mark T) (hr.mono (by decide)) (b_Line_is_mark T) .nil pass0 (pa_cons (pv 2) pa_nil)) (pe_meth (pe_call (ok_scale_of T) (hr.mono (by decide)) rfl T.m_scale_of T.F_scale_of.kp (b_scale_of T) .nil pass0 (pa_cons (pv 0) (pa_cons (pv 1) pa_nil))) T.cl_Tree T.me_Tree_is_mark (ok_Tree_is_mark T) (hr.mono (by decide)) (b_Tree_is_mark T) .nil pass0 (pa_cons (pv 2) pa_nil))))), ?_⟩
    walk_at "st"
    walk_at "go"
    cases b with
    | false =>
      refine Or.inl ?_
      walk_at "go"
      refine ⟨a, dx, tc, tk, tp, ds, dn, gs, R, n, false, rfl, ce, hn, fun v hv => ?_⟩
      obtain ⟨q, qx, rfl, hq⟩ := scale_line hv
      refine ⟨q, qx, [], rfl, hq, rfl, ?_⟩
      walk_at "go"
      exact ⟨q, qx, x, o, rfl, hq, ho, by rw [← isMrk_line (ksOf R.kinds n)]; exact kk⟩
    | true =>
      refine Or.inr ?_
      walk_at "go"
      refine ⟨a, dx, tc, tk, tp, ds, dn, gs, R, n, true, rfl, ce, hn, fun v hv => ?_⟩
      obtain ⟨q, qx, u, l, rfl, tr⟩ := scale_tree hv
      refine ⟨q, qx, _, rfl, tr.hi, lk_nil2 (by decide +kernel) (by decide +kernel), ?_⟩
      walk_at "go"
      exact ⟨q, qx, u, l, _, x, o, rfl, tr, ho, kk⟩
theorem sc_scale_of_marks : FnScope ["census", "column", "marks", "scale", "mark"] ["census", "column", "marks"] (defScope s_scale_of_marks) := ⟨rfl, rfl, rfl, by decide +kernel, rfl, by decide +kernel, by decide +kernel⟩
def sp_scale_of_marks (CL CT CR : Addr) : Sp := fun vs H Q _ => ∃ (a dx tc tk tp ds dn : Addr) (gs : List Col) (R : Reg) (n : Str) (b : Bool) (tm : Addr) (mv : List V) (ms : List Mrk), vs = [.ref a, .str n, .ref tm] ∧ CenX CL CT CR H a dx tc tk tp ds dn gs R ∧ R.cols.lookup n = some b ∧ H tm = some (.tup mv) ∧ Paired (MrkAt H) mv ms ∧ (∀ m ∈ ms, mkOk (ksOf R.kinds n) b m) ∧ ∀ v, ScaleAt CL CT H v (n, b) (ksOf R.kinds n) → Q v H
theorem ok_scale_of_marks (T : Tx K mg) : FnOk P w K mg base CX0 5 T.a_scale_of_marks T.fd_scale_of_marks ["census", "column", "marks"] (sp_scale_of_marks T.C_Line T.C_Tree T.C_Register) := by
  refine T.F_scale_of_marks.ok sc_scale_of_marks (fun vs H Q E h => ?_) (fun cdv A outer s H vs Q E hr h => ?_)
  · obtain ⟨a, dx, tc, tk, tp, ds, dn, gs, R, n, b, tm, mv, ms, rfl, _⟩ := h
    rfl
  · obtain ⟨a, dx, tc, tk, tp, ds, dn, gs, R, n, b, tm, mv, ms, rfl, ce, hn, htm, hms, hok, kk⟩ := h
    have hu := hu_of hr
    have hu64 := hr.units
    refine ⟨_, (pss_cons (ps_set (i := 3) sc_scale_of_marks.nd rfl (Or.inl rfl) (pe_call (ok_scale_of T) (hr.mono (by decide)) rfl T.m_scale_of T.F_scale_of.kp (b_scale_of T) .nil pass0 (pa_cons (pv 0) (pa_cons (pv 1) pa_nil))))
        (pss_cons (ps_for PassesOwn.never rfl (u_tup (K := K) rfl (pv 2)) (pg_name (i := 4) sc_scale_of_marks.nd rfl (Or.inl rfl)) (pss_one (ps_if (pt_not (pt_val (u_or (pe_meth (pv 3) T.cl_Line T.me_Line_is_mark (ok_Line_is_mark T) (hr.mono (by decide)) (b_Line_is_mark T) .nil pass0 (pa_cons (pv 4) pa_nil)) (pe_meth (pv 3) T.cl_Tree T.me_Tree_is_mark (ok_Tree_is_mark T) (hr.mono (by decide)) (b_Tree_is_mark T) .nil pass0 (pa_cons (pv 4) pa_nil))))) (pss_one (ps_never)) pss_nil)))
        (pss_one (ps_ret (pv 3))))), ?_⟩
    walk_at "st"
    walk_at "go"
    refine ⟨a, dx, tc, tk, tp, ds, dn, gs, R, n, b, rfl, ce, hn, fun v hv => ?_⟩
    walk_at "go"
    refine e_tup (SqT.of htm) ?_
    refine forI_by walk_tup (fun i σ' H' => ∃ v4 : Option V, σ' = [some (.ref a), some (.str n), some (.ref tm), some v, v4] ∧ H' = H) ⟨none, rfl, rfl⟩ (fun i σ' H' _ ⟨_, _, e⟩ => by rw [e]; exact SqT.of htm) ?ts ?td
    case td =>
      rintro σ' H' ⟨v4, rfl, rfl⟩
      walk_at "go"
      exact kk v hv
    case ts =>
      rintro i y σ' _ H' hi ⟨v4, rfl, rfl⟩ ⟨rfl, ey⟩
      obtain ⟨m, em, hm⟩ := prd_at hms ey
      have okm := hok m (List.mem_of_getElem? em)
      have e := mkOk_is okm
      walk_at "go"
      cases b with
      | false =>
        obtain ⟨q, qx, rfl, hq⟩ := scale_line hv
        refine Or.inl ?_
        walk_at "go"
        refine ⟨q, qx, [], rfl, hq, rfl, ?_⟩
        walk_at "go"
        refine ⟨q, qx, y, mkOv m, rfl, hq, hm.ov, ?_⟩
        rw [← isMrk_line (ksOf R.kinds n), e]
        refine ⟨_, rfl, U.g_F ?_⟩
        walk_at "go"
        exact ⟨_, rfl, rfl⟩
      | true =>
        obtain ⟨q, qx, u, l, rfl, tr⟩ := scale_tree hv
        refine Or.inr ?_
        walk_at "go"
        refine ⟨q, qx, _, rfl, tr.hi, lk_nil2 (by decide +kernel) (by decide +kernel), ?_⟩
        walk_at "go"
        refine ⟨q, qx, u, l, _, y, mkOv m, rfl, tr, hm.ov, ?_⟩
        rw [e]
        refine ⟨_, rfl, U.g_F ?_⟩
        walk_at "go"
        exact ⟨_, rfl, rfl⟩
end
end Toy

namespace M
open PySem L2 U TL
theorem look_mem {n : Str} {b : Bool} : ∀ {xs : List (Str × Bool)}, xs.lookup n = some b → (n, b) ∈ xs
  | [], h => by cases h
  | (j, c) :: r, h => by
    rw [List.lookup_cons] at h
    cases e : n == j with
    | true =>
      rw [e] at h
      cases h
      rw [eq_of_beq e]
      exact List.mem_cons_self
    | false =>
      rw [e] at h
      exact List.mem_cons_of_mem _ (look_mem h)
/-- the least mark of these values -/
inductive LeastOf (ks : List Knd) : List V → Mrk → Prop
  | kd {x z : Str} {xs zs : List Str} (h : com ks x (x :: xs) = z :: zs) : LeastOf ks ((x :: xs).map V.str) (.kd z)
  | sp {ns : List Int} {lo hi : Int} (h1 : lo ∈ ns) (h2 : ∀ y ∈ ns, lo ≤ y) (h3 : hi ∈ ns) (h4 : ∀ y ∈ ns, y ≤ hi) : LeastOf ks (ns.map V.int) (.sp lo hi)
theorem vl_str {ks : List Knd} : ∀ {vals : List V}, (∀ v ∈ vals, vlOk ks true v) → ∃ xs : List Str, vals = xs.map V.str ∧ ∀ x ∈ xs, x ∈ ks.map (·.name)
  | [], _ => ⟨[], rfl, fun _ h => by cases h⟩
  | v :: r, h => by
    obtain ⟨xs, e, k⟩ := vl_str (vals := r) fun u hu => h u (List.mem_cons_of_mem _ hu)
    have hv := h v List.mem_cons_self
    cases v with
    | str s => exact ⟨s :: xs, by rw [e]; rfl, fun x hx => (List.mem_cons.mp hx).elim (fun e => e ▸ hv.2) (k x)⟩
    | int z => exact absurd hv.1 (by decide)
    | _ => exact False.elim hv
theorem vl_int {ks : List Knd} : ∀ {vals : List V}, (∀ v ∈ vals, vlOk ks false v) → ∃ xs : List Int, vals = xs.map V.int ∧ ∀ x ∈ xs, -1000000 ≤ x ∧ x ≤ 1000000
  | [], _ => ⟨[], rfl, fun _ h => by cases h⟩
  | v :: r, h => by
    obtain ⟨xs, e, k⟩ := vl_int (vals := r) fun u hu => h u (List.mem_cons_of_mem _ hu)
    have hv := h v List.mem_cons_self
    cases v with
    | int s => exact ⟨s :: xs, by rw [e]; rfl, fun x hx => (List.mem_cons.mp hx).elim (fun e => e ▸ hv.2) (k x)⟩
    | str z => exact absurd hv.1 (by decide)
    | _ => exact False.elim hv
theorem name_short {c : Str} {ks : List Knd} (K : KOk c ks) {s : Str} (h : s ∈ ks.map (·.name)) : s.length ≤ 12 := by
  obtain ⟨k, hk, rfl⟩ := List.mem_map.mp h
  exact (isName_out (KOk_name K k hk).1).2.1
theorem vl_plainI {ks : List Knd} {v : V} (h : vlOk ks false v) : plainV v = true := by
  cases v with
  | int z => rfl
  | str s => exact absurd h.1 (by decide)
  | _ => exact False.elim h
theorem vl_plainS {c : Str} {ks : List Knd} (K : KOk c ks) {v : V} (h : vlOk ks true v) : plainV v = true := by
  cases v with
  | str s => exact decide_eq_true (Nat.le_trans (name_short K h.2) (by decide))
  | int z => exact absurd h.1 (by decide)
  | _ => exact False.elim h
theorem vl_kind {ks : List Knd} {v : V} (h : vlOk ks true v) : isKind ks v = true := by
  cases v with
  | str s => exact decide_eq_true h.2
  | int z => exact absurd h.1 (by decide)
  | _ => exact False.elim h
theorem vl_in {ks : List Knd} {v : V} (h : vlOk ks false v) : intIn (-1000000) 1000000 v = true := by
  cases v with
  | int z =>
    show (decide (-1000000 ≤ z) && decide (z ≤ 1000000)) = true
    rw [decide_eq_true h.2.1, decide_eq_true h.2.2]
    rfl
  | str s => exact absurd h.1 (by decide)
  | _ => exact False.elim h
end M
namespace Toy
open PySem L2 U M TL ZV KY SU
section
variable {P : Program} {w : World} {K : PySem.W.Frag} {mg : Str → Option Value} {base : Heap}
/-- what an ask of a column starts from -/
structure AskX (CL CT CR : Addr) (H : Hp) (a : Addr) (R : Reg) (n : Str) (b : Bool) : Prop where
  ce : ∃ (dx tc tk tp ds dn : Addr) (gs : List Col), CenX CL CT CR H a dx tc tk tp ds dn gs R
  ok : RegOk R
  hn : R.cols.lookup n = some b
theorem AskX.kok {CL CT CR : Addr} {H : Hp} {a : Addr} {R : Reg} {n : Str} (h : AskX CL CT CR H a R n true) : KOk n (ksOf R.kinds n) ∧ (ksOf R.kinds n).length ≤ 60 := by
  have := h.ok.kinds.each _ (look_mem h.hn) rfl
  exact ⟨this.1, this.2.2⟩
theorem AskX.same {CL CT CR : Addr} {H H' : Hp} {a : Addr} {R : Reg} {n : Str} {b : Bool} (s : Same H H') (h : AskX CL CT CR H a R n b) : AskX CL CT CR H' a R n b := by
  obtain ⟨⟨dx, tc, tk, tp, ds, dn, gs, ce⟩, ok, hn⟩ := h
  exact ⟨⟨dx, tc, tk, tp, ds, dn, gs, ce.same s⟩, ok, hn⟩
theorem sc_covers : FnScope ["census", "column", "mark", "value", "scale"] ["census", "column", "mark", "value"] (defScope s_covers) := ⟨rfl, rfl, rfl, by decide +kernel, rfl, by decide +kernel, by decide +kernel⟩
def sp_covers (CL CT CR : Addr) : Sp := fun vs H Q _ => ∃ (a : Addr) (R : Reg) (n : Str) (b : Bool) (v x : V) (m : Mrk), vs = [.ref a, .str n, v, x] ∧ AskX CL CT CR H a R n b ∧ MrkAt H v m ∧ mkOk (ksOf R.kinds n) b m ∧ vlOk (ksOf R.kinds n) b x ∧ ∀ H', Same H H' → Q (.bl (mkCov (ksOf R.kinds n) m x)) H'
theorem ok_covers (T : Tx K mg) : FnOk P w K mg base CX0 6 T.a_covers T.fd_covers ["census", "column", "mark", "value"] (sp_covers T.C_Line T.C_Tree T.C_Register) := by
  refine T.F_covers.ok sc_covers (fun vs H Q E h => ?_) (fun cdv A outer s H vs Q E hr h => ?_)
  · obtain ⟨a, R, n, b, v, x, m, rfl, _⟩ := h
    rfl
  · obtain ⟨a, R, n, b, v, x, m, rfl, ask, hm, okm, okx, kk⟩ := h
    have hu := hu_of hr
    have hu64 := hr.units
    refine ⟨_, (pss_cons (ps_set (i := 4) sc_covers.nd rfl (Or.inl rfl) (pe_call (ok_scale_of_marks T) (hr.mono (by decide)) rfl T.m_scale_of_marks T.F_scale_of_marks.kp (b_scale_of_marks T) .nil pass0 (pa_cons (pv 0) (pa_cons (pv 1) (pa_cons (pe_tup (pa_cons (pv 2) pa_nil)) pa_nil)))))
        (pss_cons (ps_if (pt_not (pt_val (u_or (pe_meth (pv 4) T.cl_Line T.me_Line_is_value (ok_Line_is_value T) (hr.mono (by decide)) (b_Line_is_value T) .nil pass0 (pa_cons (pv 3) pa_nil)) (pe_meth (pv 4) T.cl_Tree T.me_Tree_is_value (ok_Tree_is_value T) (hr.mono (by decide)) (b_Tree_is_value T) .nil pass0 (pa_cons (pv 3) pa_nil))))) (pss_one (ps_never)) pss_nil)
        (pss_one (ps_ret (u_or (pe_meth (pv 4) T.cl_Line T.me_Line_covers (ok_Line_covers T) (hr.mono (by decide)) (b_Line_covers T) .nil pass0 (pa_cons (pv 2) (pa_cons (pv 3) pa_nil))) (pe_meth (pv 4) T.cl_Tree T.me_Tree_covers (ok_Tree_covers T) (hr.mono (by decide)) (b_Tree_covers T) .nil pass0 (pa_cons (pv 2) (pa_cons (pv 3) pa_nil)))))))), ?_⟩
    have ask' := ask
    obtain ⟨⟨dx, tc, tk, tp, ds, dn, gs, ce⟩, ok, hn⟩ := ask'
    walk_at "st"
    walk_at "go"
    refine ⟨by show 1 ≤ sizeLine; decide, fun p np => ?_⟩
    have sp := U.same_new (o := .tup [v]) np
    have hp : (upd H p (.tup [v])) p = some (.tup [v]) := upd_same
    generalize upd H p (.tup [v]) = H1 at sp hp ⊢
    refine ⟨a, dx, tc, tk, tp, ds, dn, gs, R, n, b, p, [v], [m], rfl, ce.same sp, hn, hp, .cons (hm.same sp) .nil, fun m' h => by rw [List.mem_singleton.mp h]; exact okm, fun s hs => ?_⟩
    walk_at "go"
    cases b with
    | false =>
      obtain ⟨q, qx, rfl, hq⟩ := scale_line hs
      refine Or.inl ?_
      walk_at "go"
      refine ⟨q, qx, [], rfl, hq, rfl, ?_⟩
      walk_at "go"
      refine lv (vl_plainI okx) ?_
      rw [vl_in okx]
      refine ⟨_, rfl, U.g_F ?_⟩
      walk_at "go"
      refine Or.inl ?_
      walk_at "go"
      refine ⟨q, qx, [], rfl, hq, rfl, ?_⟩
      walk_at "go"
      cases m with
      | kd s => exact absurd okm.1 (by decide)
      | sp lo hi =>
        obtain ⟨c, rfl, hc⟩ := hm
        cases x with
        | int z => exact ⟨q, c, lo, hi, z, rfl, sp _ _ hc, kk _ sp⟩
        | str s => exact absurd okx.1 (by decide)
        | _ => exact False.elim okx
    | true =>
      obtain ⟨q, qx, u, l, rfl, tr⟩ := scale_tree hs
      refine Or.inr ?_
      walk_at "go"
      refine ⟨q, qx, _, rfl, tr.hi, lk_nil2 (by decide +kernel) (by decide +kernel), ?_⟩
      walk_at "go"
      refine tv tr (vl_plainS ask.kok.1 okx) ?_
      rw [vl_kind okx]
      refine ⟨_, rfl, U.g_F ?_⟩
      walk_at "go"
      refine Or.inr ?_
      walk_at "go"
      refine ⟨q, qx, _, rfl, tr.hi, lk_nil2 (by decide +kernel) (by decide +kernel), ?_⟩
      walk_at "go"
      cases m with
      | sp lo hi => exact absurd okm.1 (by decide)
      | kd s =>
        have hm : v = .str s := hm
        subst hm
        cases x with
        | str z => exact ⟨q, qx, u, l, _, s, z, rfl, tr, okx.2, kk _ sp⟩
        | int s => exact absurd okx.1 (by decide)
        | _ => exact False.elim okx
def sp_two (CL CT CR : Addr) (R2 : List Knd → Mrk → Mrk → VK → Hp → Prop) : Sp := fun vs H Q _ => ∃ (a : Addr) (R : Reg) (n : Str) (b : Bool) (v v' : V) (m m' : Mrk), vs = [.ref a, .str n, v, v'] ∧ AskX CL CT CR H a R n b ∧ MrkAt H v m ∧ MrkAt H v' m' ∧ mkOk (ksOf R.kinds n) b m ∧ mkOk (ksOf R.kinds n) b m' ∧ R2 (ksOf R.kinds n) m m' Q H
def rFin (ks : List Knd) (m m' : Mrk) (Q : VK) (H : Hp) : Prop := ∀ H', Same H H' → Q (.bl (mkFin ks m m')) H'
def rJoin (ks : List Knd) (m m' : Mrk) (Q : VK) (H : Hp) : Prop := ∀ v H', Same H H' → MrkAt H' v (mkJoin ks m m') → Q v H'
def oMrkAt (H : Hp) (v : V) : Option Mrk → Prop
  | none => v = .non
  | some m => MrkAt H v m
def rCom (ks : List Knd) (m m' : Mrk) (Q : VK) (H : Hp) : Prop := ∀ v H', Same H H' → oMrkAt H' v (mkCom ks m m') → Q v H'
theorem mk_lines {ks : List Knd} {m m' : Mrk} (h : mkOk ks false m) (h' : mkOk ks false m') : ∃ x y z u, m = .sp x y ∧ m' = .sp z u := by
  cases m with
  | kd s => exact absurd h.1 (by decide)
  | sp x y =>
    cases m' with
    | kd s => exact absurd h'.1 (by decide)
    | sp z u => exact ⟨x, y, z, u, rfl, rfl⟩
theorem mk_kinds {ks : List Knd} {m m' : Mrk} (h : mkOk ks true m) (h' : mkOk ks true m') : ∃ s n, m = .kd s ∧ m' = .kd n ∧ s ∈ ks.map (·.name) ∧ n ∈ ks.map (·.name) := by
  cases m with
  | sp s => exact absurd h.1 (by decide)
  | kd x =>
    cases m' with
    | sp s => exact absurd h'.1 (by decide)
    | kd z => exact ⟨x, z, rfl, rfl, h.2, h'.2⟩
theorem sc_is_finer : FnScope ["census", "column", "one", "other"] ["census", "column", "one", "other"] (defScope s_is_finer) := ⟨rfl, rfl, rfl, by decide +kernel, rfl, by decide +kernel, by decide +kernel⟩
theorem ok_is_finer (T : Tx K mg) : FnOk P w K mg base CX0 6 T.a_is_finer T.fd_is_finer ["census", "column", "one", "other"] (sp_two T.C_Line T.C_Tree T.C_Register rFin) := by
  refine T.F_is_finer.ok sc_is_finer (fun vs H Q E h => ?_) (fun cdv A outer s H vs Q E hr h => ?_)
  · obtain ⟨a, R, n, b, v, x, m, m', rfl, _⟩ := h
    rfl
  · obtain ⟨a, R, n, b, v, v', m, m', rfl, ask, hm, hm', okm, okm', kk⟩ := h
    have hu := hu_of hr
    have hu64 := hr.units
    refine ⟨_, (pss_one (ps_ret (u_or (pe_meth (pe_call (ok_scale_of_marks T) (hr.mono (by decide)) rfl T.m_scale_of_marks T.F_scale_of_marks.kp (b_scale_of_marks T) .nil pass0 (pa_cons (pv 0) (pa_cons (pv 1) (pa_cons (pe_tup (pa_cons (pv 2) (pa_cons (pv 3) pa_nil))) pa_nil)))) T.cl_Line T.me_Line_is_finer (ok_Line_is_finer T) (hr.mono (by decide)) (b_Line_is_finer T) .nil pass0 (pa_cons (pv 2) (pa_cons (pv 3) pa_nil))) (pe_meth (pe_call (ok_scale_of_marks T) (hr.mono (by decide)) rfl T.m_scale_of_marks T.F_scale_of_marks.kp (b_scale_of_marks T) .nil pass0 (pa_cons (pv 0) (pa_cons (pv 1) (pa_cons (pe_tup (pa_cons (pv 2) (pa_cons (pv 3) pa_nil))) pa_nil)))) T.cl_Tree T.me_Tree_is_finer (ok_Tree_is_finer T) (hr.mono (by decide)) (b_Tree_is_finer T) .nil pass0 (pa_cons (pv 2) (pa_cons (pv 3) pa_nil)))))), ?_⟩
    obtain ⟨⟨dx, tc, tk, tp, ds, dn, gs, ce⟩, ok, hn⟩ := ask
    walk_at "st"
    walk_at "go"
    have okl : ∀ q ∈ [m, m'], mkOk (ksOf R.kinds n) b q := fun q h => by
      rcases List.mem_cons.mp h with e | h
      · rw [e]; exact okm
      · rw [List.mem_singleton.mp h]; exact okm'
    cases b with
    | false =>
      obtain ⟨x, y, z, u, rfl, rfl⟩ := mk_lines okm okm'
      refine Or.inl ?_
      walk_at "go"
      refine ⟨by show 2 ≤ sizeLine; decide, fun p np => ?_⟩
      have sp := U.same_new (o := .tup [v, v']) np
      have hp : (upd H p (.tup [v, v'])) p = some (.tup [v, v']) := upd_same
      generalize upd H p (.tup [v, v']) = H1 at sp hp ⊢
      refine ⟨a, dx, tc, tk, tp, ds, dn, gs, R, n, false, p, [v, v'], [.sp x y, .sp z u], rfl, ce.same sp, hn, hp, .cons (hm.same sp) (.cons (hm'.same sp) .nil), okl, fun s hs => ?_⟩
      obtain ⟨q, qx, rfl, hq⟩ := scale_line hs
      refine ⟨q, qx, [], rfl, hq, rfl, ?_⟩
      walk_at "go"
      obtain ⟨c, rfl, hc⟩ := hm
      obtain ⟨c', rfl, hc'⟩ := hm'
      exact ⟨q, c, c', x, y, z, u, rfl, sp _ _ hc, sp _ _ hc', kk _ sp⟩
    | true =>
      obtain ⟨s, o, rfl, rfl, hs, ho⟩ := mk_kinds okm okm'
      have hm : v = .str s := hm
      have hm' : v' = .str o := hm'
      subst hm hm'
      refine Or.inr ?_
      walk_at "go"
      refine ⟨by show 2 ≤ sizeLine; decide, fun p np => ?_⟩
      have sp := U.same_new (o := .tup [.str s, .str o]) np
      have hp : (upd H p (.tup [.str s, .str o])) p = some (.tup [.str s, .str o]) := upd_same
      generalize upd H p (.tup [.str s, .str o]) = H1 at sp hp ⊢
      refine ⟨a, dx, tc, tk, tp, ds, dn, gs, R, n, true, p, [.str s, .str o], [.kd s, .kd o], rfl, ce.same sp, hn, hp, .cons rfl (.cons rfl .nil), okl, fun v hv => ?_⟩
      obtain ⟨q, qx, u, l, rfl, tr⟩ := scale_tree hv
      refine ⟨q, qx, _, rfl, tr.hi, lk_nil2 (by decide +kernel) (by decide +kernel), ?_⟩
      walk_at "go"
      exact ⟨q, qx, u, l, _, s, o, rfl, tr, hs, kk _ sp⟩
theorem sc_joined_mark : FnScope ["census", "column", "one", "other"] ["census", "column", "one", "other"] (defScope s_joined_mark) := ⟨rfl, rfl, rfl, by decide +kernel, rfl, by decide +kernel, by decide +kernel⟩
theorem ok_joined_mark (T : Tx K mg) : FnOk P w K mg base CX0 6 T.a_joined_mark T.fd_joined_mark ["census", "column", "one", "other"] (sp_two T.C_Line T.C_Tree T.C_Register rJoin) := by
  refine T.F_joined_mark.ok sc_joined_mark (fun vs H Q E h => ?_) (fun cdv A outer s H vs Q E hr h => ?_)
  · obtain ⟨a, R, n, b, v, x, m, m', rfl, _⟩ := h
    rfl
  · obtain ⟨a, R, n, b, v, v', m, m', rfl, ask, hm, hm', okm, okm', kk⟩ := h
    have hu := hu_of hr
    have hu64 := hr.units
    refine ⟨_, (pss_one (ps_ret (u_or (pe_meth (pe_call (ok_scale_of_marks T) (hr.mono (by decide)) rfl T.m_scale_of_marks T.F_scale_of_marks.kp (b_scale_of_marks T) .nil pass0 (pa_cons (pv 0) (pa_cons (pv 1) (pa_cons (pe_tup (pa_cons (pv 2) (pa_cons (pv 3) pa_nil))) pa_nil)))) T.cl_Line T.me_Line_joined (ok_Line_joined T) (hr.mono (by decide)) (b_Line_joined T) .nil pass0 (pa_cons (pv 2) (pa_cons (pv 3) pa_nil))) (pe_meth (pe_call (ok_scale_of_marks T) (hr.mono (by decide)) rfl T.m_scale_of_marks T.F_scale_of_marks.kp (b_scale_of_marks T) .nil pass0 (pa_cons (pv 0) (pa_cons (pv 1) (pa_cons (pe_tup (pa_cons (pv 2) (pa_cons (pv 3) pa_nil))) pa_nil)))) T.cl_Tree T.me_Tree_joined (ok_Tree_joined T) (hr.mono (by decide)) (b_Tree_joined T) .nil pass0 (pa_cons (pv 2) (pa_cons (pv 3) pa_nil)))))), ?_⟩
    have ask' := ask
    obtain ⟨⟨dx, tc, tk, tp, ds, dn, gs, ce⟩, ok, hn⟩ := ask'
    walk_at "st"
    walk_at "go"
    have okl : ∀ q ∈ [m, m'], mkOk (ksOf R.kinds n) b q := fun q h => by
      rcases List.mem_cons.mp h with e | h
      · rw [e]; exact okm
      · rw [List.mem_singleton.mp h]; exact okm'
    cases b with
    | false =>
      obtain ⟨x, y, z, u, rfl, rfl⟩ := mk_lines okm okm'
      refine Or.inl ?_
      walk_at "go"
      refine ⟨by show 2 ≤ sizeLine; decide, fun p np => ?_⟩
      have sp := U.same_new (o := .tup [v, v']) np
      have hp : (upd H p (.tup [v, v'])) p = some (.tup [v, v']) := upd_same
      generalize upd H p (.tup [v, v']) = H1 at sp hp ⊢
      refine ⟨a, dx, tc, tk, tp, ds, dn, gs, R, n, false, p, [v, v'], [.sp x y, .sp z u], rfl, ce.same sp, hn, hp, .cons (hm.same sp) (.cons (hm'.same sp) .nil), okl, fun s hs => ?_⟩
      obtain ⟨q, qx, rfl, hq⟩ := scale_line hs
      refine ⟨q, qx, [], rfl, hq, rfl, ?_⟩
      walk_at "go"
      obtain ⟨c, rfl, hc⟩ := hm
      obtain ⟨c', rfl, hc'⟩ := hm'
      refine ⟨q, c, c', x, y, z, u, rfl, sp _ _ hc, sp _ _ hc', fun r nr => ?_⟩
      exact kk _ _ (sp.trans (U.same_new nr)) ⟨r, rfl, upd_same⟩
    | true =>
      obtain ⟨s, o, rfl, rfl, hs, ho⟩ := mk_kinds okm okm'
      have hm : v = .str s := hm
      have hm' : v' = .str o := hm'
      subst hm hm'
      refine Or.inr ?_
      walk_at "go"
      refine ⟨by show 2 ≤ sizeLine; decide, fun p np => ?_⟩
      have sp := U.same_new (o := .tup [.str s, .str o]) np
      have hp : (upd H p (.tup [.str s, .str o])) p = some (.tup [.str s, .str o]) := upd_same
      generalize upd H p (.tup [.str s, .str o]) = H1 at sp hp ⊢
      refine ⟨a, dx, tc, tk, tp, ds, dn, gs, R, n, true, p, [.str s, .str o], [.kd s, .kd o], rfl, ce.same sp, hn, hp, .cons rfl (.cons rfl .nil), okl, fun v hv => ?_⟩
      obtain ⟨q, qx, u, l, rfl, tr⟩ := scale_tree hv
      refine ⟨q, qx, _, rfl, tr.hi, lk_nil2 (by decide +kernel) (by decide +kernel), ?_⟩
      walk_at "go"
      exact ⟨q, qx, u, l, n, _, s, o, rfl, tr, ask.kok.1, ask.kok.2, hs, ho, fun H' s' => kk _ _ (sp.trans s') rfl⟩
theorem sc_common_mark : FnScope ["census", "column", "one", "other"] ["census", "column", "one", "other"] (defScope s_common_mark) := ⟨rfl, rfl, rfl, by decide +kernel, rfl, by decide +kernel, by decide +kernel⟩
theorem ok_common_mark (T : Tx K mg) : FnOk P w K mg base CX0 6 T.a_common_mark T.fd_common_mark ["census", "column", "one", "other"] (sp_two T.C_Line T.C_Tree T.C_Register rCom) := by
  refine T.F_common_mark.ok sc_common_mark (fun vs H Q E h => ?_) (fun cdv A outer s H vs Q E hr h => ?_)
  · obtain ⟨a, R, n, b, v, x, m, m', rfl, _⟩ := h
    rfl
  · obtain ⟨a, R, n, b, v, v', m, m', rfl, ask, hm, hm', okm, okm', kk⟩ := h
    have hu := hu_of hr
    have hu64 := hr.units
    refine ⟨_, (pss_one (ps_ret (u_or (pe_meth (pe_call (ok_scale_of_marks T) (hr.mono (by decide)) rfl T.m_scale_of_marks T.F_scale_of_marks.kp (b_scale_of_marks T) .nil pass0 (pa_cons (pv 0) (pa_cons (pv 1) (pa_cons (pe_tup (pa_cons (pv 2) (pa_cons (pv 3) pa_nil))) pa_nil)))) T.cl_Line T.me_Line_common (ok_Line_common T) (hr.mono (by decide)) (b_Line_common T) .nil pass0 (pa_cons (pv 2) (pa_cons (pv 3) pa_nil))) (pe_meth (pe_call (ok_scale_of_marks T) (hr.mono (by decide)) rfl T.m_scale_of_marks T.F_scale_of_marks.kp (b_scale_of_marks T) .nil pass0 (pa_cons (pv 0) (pa_cons (pv 1) (pa_cons (pe_tup (pa_cons (pv 2) (pa_cons (pv 3) pa_nil))) pa_nil)))) T.cl_Tree T.me_Tree_common (ok_Tree_common T) (hr.mono (by decide)) (b_Tree_common T) .nil pass0 (pa_cons (pv 2) (pa_cons (pv 3) pa_nil)))))), ?_⟩
    obtain ⟨⟨dx, tc, tk, tp, ds, dn, gs, ce⟩, ok, hn⟩ := ask
    walk_at "st"
    walk_at "go"
    have okl : ∀ q ∈ [m, m'], mkOk (ksOf R.kinds n) b q := fun q h => by
      rcases List.mem_cons.mp h with e | h
      · rw [e]; exact okm
      · rw [List.mem_singleton.mp h]; exact okm'
    cases b with
    | false =>
      obtain ⟨x, y, z, u, rfl, rfl⟩ := mk_lines okm okm'
      refine Or.inl ?_
      walk_at "go"
      refine ⟨by show 2 ≤ sizeLine; decide, fun p np => ?_⟩
      have sp := U.same_new (o := .tup [v, v']) np
      have hp : (upd H p (.tup [v, v'])) p = some (.tup [v, v']) := upd_same
      generalize upd H p (.tup [v, v']) = H1 at sp hp ⊢
      refine ⟨a, dx, tc, tk, tp, ds, dn, gs, R, n, false, p, [v, v'], [.sp x y, .sp z u], rfl, ce.same sp, hn, hp, .cons (hm.same sp) (.cons (hm'.same sp) .nil), okl, fun s hs => ?_⟩
      obtain ⟨q, qx, rfl, hq⟩ := scale_line hs
      refine ⟨q, qx, [], rfl, hq, rfl, ?_⟩
      walk_at "go"
      obtain ⟨c, rfl, hc⟩ := hm
      obtain ⟨c', rfl, hc'⟩ := hm'
      refine ⟨q, c, c', x, y, z, u, rfl, sp _ _ hc, sp _ _ hc', fun no => ?_, fun yes r nr => ?_⟩
      · refine kk _ _ sp ?_
        show oMrkAt _ _ (if hiI x z ≤ loI y u then _ else none)
        rw [if_neg no]
        rfl
      · refine kk _ _ (sp.trans (U.same_new nr)) ?_
        show oMrkAt _ _ (if hiI x z ≤ loI y u then _ else none)
        rw [if_pos yes]
        exact ⟨r, rfl, upd_same⟩
    | true =>
      obtain ⟨s, o, rfl, rfl, hs, ho⟩ := mk_kinds okm okm'
      have hm : v = .str s := hm
      have hm' : v' = .str o := hm'
      subst hm hm'
      refine Or.inr ?_
      walk_at "go"
      refine ⟨by show 2 ≤ sizeLine; decide, fun p np => ?_⟩
      have sp := U.same_new (o := .tup [.str s, .str o]) np
      have hp : (upd H p (.tup [.str s, .str o])) p = some (.tup [.str s, .str o]) := upd_same
      generalize upd H p (.tup [.str s, .str o]) = H1 at sp hp ⊢
      refine ⟨a, dx, tc, tk, tp, ds, dn, gs, R, n, true, p, [.str s, .str o], [.kd s, .kd o], rfl, ce.same sp, hn, hp, .cons rfl (.cons rfl .nil), okl, fun v hv => ?_⟩
      obtain ⟨q, qx, u, l, rfl, tr⟩ := scale_tree hv
      refine ⟨q, qx, _, rfl, tr.hi, lk_nil2 (by decide +kernel) (by decide +kernel), ?_⟩
      walk_at "go"
      refine ⟨q, qx, u, l, _, s, o, rfl, tr, hs, ho, kk _ _ sp ?_⟩
      show oMrkAt _ _ (if decide (o ∈ wayOf (ways (ksOf R.kinds n)) s) = true then some (Mrk.kd s) else if decide (s ∈ wayOf (ways (ksOf R.kinds n)) o) = true then some (Mrk.kd o) else none)
      split
      · rfl
      · split <;> rfl
theorem sc_least_mark : FnScope ["census", "column", "values", "scale", "value"] ["census", "column", "values"] (defScope s_least_mark) := ⟨rfl, rfl, rfl, by decide +kernel, rfl, by decide +kernel, by decide +kernel⟩
def sp_least_mark (CL CT CR : Addr) : Sp := fun vs H Q _ => ∃ (a tw : Addr) (R : Reg) (n : Str) (b : Bool) (vals : List V), vs = [.ref a, .str n, .ref tw] ∧ AskX CL CT CR H a R n b ∧ H tw = some (.tup vals) ∧ 0 < vals.length ∧ vals.length ≤ 50 ∧ (∀ x ∈ vals, vlOk (ksOf R.kinds n) b x) ∧ ∀ v m H', Same H H' → MrkAt H' v m → LeastOf (ksOf R.kinds n) vals m → Q v H'
theorem ok_least_mark (T : Tx K mg) : FnOk P w K mg base CX0 4 T.a_least_mark T.fd_least_mark ["census", "column", "values"] (sp_least_mark T.C_Line T.C_Tree T.C_Register) := by
  refine T.F_least_mark.ok sc_least_mark (fun vs H Q E h => ?_) (fun cdv A outer s H vs Q E hr h => ?_)
  · obtain ⟨a, tw, R, n, b, vals, rfl, _⟩ := h
    rfl
  · obtain ⟨a, tw, R, n, b, vals, rfl, ask, htw, l0, l1, hv, kk⟩ := h
    have hu := hu_of hr
    have hu64 := hr.units
    refine ⟨_, (pss_cons (ps_set (i := 3) sc_least_mark.nd rfl (Or.inr rfl) (pe_call (ok_scale_of T) (hr.mono (by decide)) rfl T.m_scale_of T.F_scale_of.kp (b_scale_of T) .nil pass0 (pa_cons (pv 0) (pa_cons (pv 1) pa_nil))))
        (pss_cons (ps_if (PW.pt (pw_or (pt_not (pt_val (pe_callB (call_uIsi (K := K) rfl) (by rfl) T.n_isinstance (by decide +kernel) (pa_cons (pv 2) (pa_cons (u_ty (n := "tuple") (by rfl) T.n_tuple (by decide +kernel)) pa_nil))))) (pw_or (pt_not (pt_truth (pv 2) (by intro _; rfl))) (pw_or1 (pt_not (pt_val (pe_callB (call_uAll (K := K) rfl rfl) (by rfl) T.n_all (by decide +kernel) (pa_cons (pe_lc rfl sc_least_mark.nd (u_tup (K := K) rfl (pv 2)) (blkOk_by (own := [("value", 4)]) (N := ["census", "column", "values", "scale", "value"]) (sc := defScope s_least_mark) (by decide +kernel)) (fun _ _ _ _ _ => (pg_name (i := 4) sc_least_mark.nd rfl (Or.inl rfl))) (fun _ _ _ _ _ => pts_nil) (fun _ _ _ _ _ => (u_or (pe_meth (pv 3) T.cl_Line T.me_Line_is_value (ok_Line_is_value T) (hr.mono (by decide)) (b_Line_is_value T) .nil pass0 (pa_cons (pv 4) pa_nil)) (pe_meth (pv 3) T.cl_Tree T.me_Tree_is_value (ok_Tree_is_value T) (hr.mono (by decide)) (b_Tree_is_value T) .nil pass0 (pa_cons (pv 4) pa_nil))))) pa_nil)))))))) (pss_one (ps_never)) pss_nil)
        (pss_one (ps_ret (u_or (pe_meth (pv 3) T.cl_Line T.me_Line_least (ok_Line_least T) (hr.mono (by decide)) (b_Line_least T) .nil pass0 (pa_cons (pv 2) pa_nil)) (pe_meth (pv 3) T.cl_Tree T.me_Tree_least (ok_Tree_least T) (hr.mono (by decide)) (b_Tree_least T) .nil pass0 (pa_cons (pv 2) pa_nil))))))), ?_⟩
    have ask' := ask
    obtain ⟨⟨dx, tc, tk, tp, ds, dn, gs, ce⟩, ok, hn⟩ := ask'
    walk_at "st"
    walk_at "go"
    refine ⟨a, dx, tc, tk, tp, ds, dn, gs, R, n, b, rfl, ce, hn, fun s hs => ?_⟩
    walk_at "go"
    refine e_isi (b := true) (ty_tup htw) (by decide +kernel) ?_
    walk_at "go"
    refine ⟨!vals.isEmpty, Or.inr (Or.inl ⟨_, SqT.of htw, rfl⟩), ?_⟩
    rw [show (!vals.isEmpty) = true by cases vals with | nil => exact absurd l0 (Nat.lt_irrefl _) | cons => rfl]
    walk_at "go"
    refine e_tup (SqT.of htw) ?_
    refine lcI_tup (fun H'' s'' => SqT.of (s'' _ _ htw)) (by omega) (fun _ => some (.bl true)) (fun y H3 A B hx s3 kA kB => ?_) fun L H3 nL s3 hL => ?_
    · have okx := hv y hx
      walk_at "go"
      refine ⟨rfl, ?_⟩
      walk_at "go"
      cases b with
      | false =>
        obtain ⟨q, qx, rfl, hq⟩ := scale_line hs
        refine Or.inl ?_
        walk_at "go"
        refine ⟨q, qx, [], rfl, s3 _ _ hq, rfl, ?_⟩
        walk_at "go"
        refine lv (vl_plainI okx) ?_
        rw [vl_in okx]
        exact kA _ _ rfl (Same.refl _)
      | true =>
        obtain ⟨q, qx, u, l, rfl, tr⟩ := scale_tree hs
        refine Or.inr ?_
        walk_at "go"
        refine ⟨q, qx, _, rfl, s3 _ _ tr.hi, lk_nil2 (by decide +kernel) (by decide +kernel), ?_⟩
        walk_at "go"
        refine tv (tr.mono s3) (vl_plainS ask.kok.1 okx) ?_
        rw [vl_kind okx]
        exact kA _ _ rfl (Same.refl _)
    have e : vals.filterMap (fun _ => some (V.bl true)) = (vals.map fun _ => true).map V.bl := by
      rw [List.map_map]
      exact congrFun List.filterMap_eq_map _
    rw [e] at hL
    walk_at "go"
    refine U.g_allB (SqL.of hL) ?_
    rw [show ((vals.map fun _ => true).all id) = true from by simp]
    refine ⟨_, rfl, U.g_F ?_⟩
    walk_at "go"
    have htw3 := s3 _ _ htw
    cases b with
    | false =>
      obtain ⟨q, qx, rfl, hq⟩ := scale_line hs
      obtain ⟨ns, rfl, _⟩ := vl_int hv
      refine Or.inl ?_
      walk_at "go"
      refine ⟨q, qx, [], rfl, s3 _ _ hq, rfl, ?_⟩
      walk_at "go"
      rw [List.length_map] at l0
      exact ⟨q, tw, ns, rfl, htw3, l0, fun lo hi p h1 h2 h3 h4 np => kk _ (.sp lo hi) _ (s3.trans (U.same_new np)) ⟨p, rfl, upd_same⟩ (.sp h1 h2 h3 h4)⟩
    | true =>
      obtain ⟨q, qx, u, l, rfl, tr⟩ := scale_tree hs
      obtain ⟨xs, rfl, hin⟩ := vl_str hv
      cases xs with
      | nil => exact absurd l0 (Nat.lt_irrefl _)
      | cons x xs =>
        refine Or.inr ?_
        walk_at "go"
        refine ⟨q, qx, _, rfl, s3 _ _ tr.hi, lk_nil2 (by decide +kernel) (by decide +kernel), ?_⟩
        walk_at "go"
        obtain ⟨z, zs, ez⟩ := com_some ask.kok.1 hin
        rw [List.map_cons, List.length_cons, List.length_map] at l1
        exact ⟨q, qx, u, l, tw, _, x, z, xs, zs, rfl, tr.mono s3, htw3, by omega, ask.kok.2, hin, ez, fun H' s' => kk _ (.kd z) H' (s3.trans s') rfl (.kd ez)⟩
end
end Toy

namespace Toy
open PySem L2 U M TL ZV KY SU
/-- the law's own register -/
structure LawX (H : Hp) (o : Addr) (R : Reg) : Prop where
  I : ∃ lc lk lp, OwnX H o lc lk lp R
  ok : RegOk R
theorem LawX.same {H H' : Hp} {o : Addr} {R : Reg} (s : Same H H') (h : LawX H o R) : LawX H' o R := by
  obtain ⟨⟨lc, lk, lp, I⟩, ok⟩ := h
  exact ⟨⟨lc, lk, lp, own_same I s⟩, ok⟩
theorem LawX.pot {H H' : Hp} {o p : Addr} {R : Reg} {n : Nat} (hp : PotAt H p n) (s : SB p H H') (h : LawX H o R) : LawX H' o R := by
  obtain ⟨⟨lc, lk, lp, I⟩, ok⟩ := h
  exact ⟨⟨lc, lk, lp, own_step I hp s⟩, ok⟩
theorem LawX.col {H : Hp} {o : Addr} {R : Reg} (h : LawX H o R) {i : Nat} {n : Str} {b : Bool} (hc : R.cols[i]? = some (n, b)) : ∃ kvs lc cv a, H o = some (.dK kvs) ∧ valV kvs (Sum.inr "columns") = some (.ref lc) ∧ H lc = some (.lst cv) ∧ cv[i]? = some (.ref a) ∧ H a = some (.tup [.str n, .str (wordOf b)]) := by
  obtain ⟨⟨lc, lk, lp, I⟩, ok⟩ := h
  obtain ⟨cv, h1, h2⟩ := I.c
  obtain ⟨v, hv, a, rfl, ha⟩ := prd_at2 h2 (show (R.cols.map colV)[i]? = some (colV (n, b)) by rw [List.getElem?_map, hc]; rfl)
  exact ⟨_, lc, cv, a, I.d, own_c lc lk lp, h1, hv, ha⟩
theorem wd_line (b : Bool) : decide (V.str (wordOf b) = V.str "line") = !b := by
  cases b with
  | false => exact decide_eq_true rfl
  | true => exact decide_eq_false fun e => absurd (V.str.inj e) (by decide +kernel)
theorem wd_kind (b : Bool) : decide (V.str (wordOf b) = V.str "kinds") = b := by
  cases b with
  | true => exact decide_eq_true rfl
  | false => exact decide_eq_false fun e => absurd (V.str.inj e) (by decide +kernel)
section
variable {P : Program} {w : World} {K : PySem.W.Frag} {mg : Str → Option Value} {base : Heap}
theorem sc__law_chain : FnScope ["own", "column", "kind", "known", "found", "here", "lap", "one", "name", "over", "lost"] ["own", "column", "kind"] (defScope s__law_chain) := ⟨rfl, rfl, rfl, by decide +kernel, rfl, by decide +kernel, by decide +kernel⟩
def sp_chain : Sp := fun vs H Q _ => ∃ (o : Addr) (R : Reg) (c m : Str), vs = [.ref o, .str c, .str m] ∧ LawX H o R ∧ (c, true) ∈ R.cols ∧ m ∈ (ksOf R.kinds c).map (·.name) ∧
  ∀ (l : Addr) (H' : Hp), H l = none → Same H H' → H' l = some (.lst ((wayOf (ways (ksOf R.kinds c)) m).map V.str)) → Q (.ref l) H'
theorem ok__law_chain (T : Tx K mg) : FnOk P w K mg base CX0 1 T.a__law_chain T.fd__law_chain ["own", "column", "kind"] sp_chain := by
  refine T.F__law_chain.ok sc__law_chain (fun vs H Q E h => ?_) (fun cdv A outer s H vs Q E hr h => ?_)
  · obtain ⟨o, R, c, m, rfl, _⟩ := h
    rfl
  · obtain ⟨o, R, c, m, rfl, ⟨⟨lc, lk, lp, I⟩, ok⟩, hc, hm, kk⟩ := h
    have hu := hu_of hr
    have hu64 := hr.units
    refine ⟨_, (pss_cons (ps_par rfl sc__law_chain.nd (i := 3) (j := 4) rfl rfl (by decide) rfl rfl (pa_cons (pe_callTy (call_dictP rfl) (by rfl) T.n_dict (by decide +kernel) (pa_cons (pe_lc rfl sc__law_chain.nd (u_list (K := K) rfl (pe_dget hu (pv 0) (pe_str) (fun _ _ => rfl))) (blkOk_by (own := [("one", 7), ("name", 8), ("over", 9), ("lost", 10)]) (N := ["own", "column", "kind", "known", "found", "here", "lap", "one", "name", "over", "lost"]) (sc := defScope s__law_chain) (by decide +kernel)) (fun _ _ _ _ _ => (u_gtup (K := K) (n := 4) rfl rfl (pgs_cons (pg_name (i := 7) sc__law_chain.nd rfl (Or.inl rfl)) (pgs_cons (pg_name (i := 8) sc__law_chain.nd rfl (Or.inl rfl)) (pgs_cons (pg_name (i := 9) sc__law_chain.nd rfl (Or.inl rfl)) (pgs_cons (pg_name (i := 10) sc__law_chain.nd rfl (Or.inl rfl)) pgs_nil)))))) (fun _ _ _ _ _ => (pts_one (pt_cmpR (op_uEq (K := K) rfl hu64) (pv 7) (pv 1) (nomark _)))) (fun _ _ _ _ _ => (pe_tup (pa_cons (pv 8) (pa_cons (pv 9) pa_nil))))) pa_nil)) (pa_cons (pe_lst pa_nil) pa_nil)) (by rfl))
        (pss_cons (ps_set (i := 5) sc__law_chain.nd rfl (Or.inl rfl) (pv 2))
        (pss_cons (ps_for PassesOwn.never rfl (pi_range1 (by rfl) T.n_range (pa_cons (pe_callB (call_uLen (K := K) rfl) (by rfl) T.n_len (by decide +kernel) (pa_cons (pv 3) pa_nil)) pa_nil)) (pg_name (i := 6) sc__law_chain.nd rfl (Or.inl rfl)) (pss_one (ps_if (pt_cmpR op_notN (pv 5) pe_non (nomark _)) (pss_cons (ps_expr (pe_bm PySem.F.plainAttrs_list PySem.F.slot_list_append PySem.F.type_list_append mt_append (pv 4) (pa_cons (pv 5) pa_nil)))
        (pss_one (ps_set (i := 5) sc__law_chain.nd rfl (Or.inl rfl) (pe_dget hu (pv 3) (pv 5) (fun _ _ => rfl))))) pss_nil)))
        (pss_one (ps_ret (pv 4)))))), ?_⟩
    obtain ⟨ks, hks⟩ : ∃ ks, ksOf R.kinds c = ks := ⟨_, rfl⟩
    have kok : KOk c ks := hks ▸ (ok.kinds.each _ hc rfl).1
    have nd : (ks.map (·.name)).Nodup := KOk.nodup kok
    have k60 : ks.length ≤ 60 := hks ▸ (ok.kinds.each _ hc rfl).2.2
    rw [hks] at hm kk
    have k240 := ok.k240
    walk_at "st"
    walk_at "go"
    refine e_dgetS I.d (own_k lc lk lp) ?_
    obtain ⟨kv, k1, k2⟩ := I.k
    refine e_list (SqL.of k1) ?_
    have hkl := prd_len k2
    rw [List.length_map] at hkl
    refine lcI_new walk_list (by omega) (fun i => (R.kinds[i]?).bind fun k => if k.col = c then some [V.str k.name, upV k.up] else none) (fun H' s => s.seq (SqL.of k1)) (fun i H' x H'' y => by rw [y.1]; exact Same.refl _) (fun i x H' H'' A B hi s' y kA kB => ?_) fun E ps H' nE s' hE hps => ?_
    · obtain ⟨rfl, ex⟩ := y
      obtain ⟨xs, exs, a, rfl, ha⟩ := prd_at k2 ex
      rw [List.getElem?_map] at exs
      cases ek : R.kinds[i]? with
      | none => rw [ek] at exs; cases exs
      | some k =>
        rw [ek] at exs
        cases exs
        have ha' : H'' a = some (.tup [.str k.col, .str k.name, upV k.up, .int k.loss]) := s' _ _ ha
        rw [ek] at kA kB
        walk_at "go"
        refine ⟨rfl, ?_⟩
        walk_at "go"
        have ex : V.str k.col = V.str c ↔ k.col = c := ⟨fun e => V.str.inj e, fun e => by rw [e]⟩
        refine U.g_2 (fun cc => ?_) (fun cc => ?_)
        · have cc := ex.mp (of_decide_eq_true cc)
          walk_at "go"
          refine ⟨by show 2 ≤ sizeLine; decide, fun q nq => ?_⟩
          exact kA _ _ q (by show (if k.col = c then _ else _) = _; rw [if_pos cc]) (Same.refl _) nq
        · have cc : ¬ k.col = c := fun e => by rw [decide_eq_true (ex.mpr e)] at cc; cases cc
          exact kB (by show (if k.col = c then _ else _) = _; rw [if_neg cc]) _ (Same.refl _)
    · rw [hkl, range_fm, fm_byName, hks] at hps
      walk_at "go"
      have hps2 : Paired (fun (p : Addr) (kv : Key × V) => SqT K H' p [kV kv.1, kv.2]) ps (byName (fun k => upV k.up) ks) := prd_mono (fun _ _ h => SqT.of h) (prd_map (R := fun p ys => H' p = some (.tup ys)) (f := fun kv : Key × V => [kV kv.1, kv.2]) hps)
      refine ⟨E, ps, _, rfl, SqL.of hE, hps2, fun d nd' => ?_⟩
      rw [byName_nd nd]
      walk_at "go"
      refine ⟨by show 0 ≤ sizeLine; decide, fun p np => ?_⟩
      have hd0 : upd H' d (.dK (byName (fun k => upV k.up) ks)) d = some (.dK (byName (fun k => upV k.up) ks)) := upd_same
      have sD : Same H (upd H' d (.dK (byName (fun k => upV k.up) ks))) := s'.trans (U.same_new nd')
      generalize upd H' d (.dK (byName (fun k => upV k.up) ks)) = Hd at hd0 sD np ⊢
      have np0 : H p = none := none_of sD np
      have pd : p ≠ d := fun z => by rw [z, hd0] at np; cases np
      walk_at "go"
      refine g_lenD (get_new np hd0) ?_
      walk_at "go"
      rw [show (byName (fun k => upV k.up) ks).length = ks.length by unfold byName; rw [List.length_map]]
      refine e_rng (by omega) (by omega) ?_
      rw [show ((ks.length : Nat) : Int).toNat = ks.length by omega]
      refine forI_by walk_range (fun i σ1 H1 => ∃ (pre : List Str) (here : V) (v6 : Option V), σ1 = [some (.ref o), some (.str c), some (.str m), some (.ref d), some (.ref p), some here, v6, none, none, none, none] ∧ Same H H1 ∧ H1 d = some (.dK (byName (fun k => upV k.up) ks)) ∧ H1 p = some (.lst (pre.map V.str)) ∧ ((here = .non ∧ wayOf (ways ks) m = pre) ∨ ∃ cur, here = .str cur ∧ cur ∈ ks.map (·.name) ∧ wayOf (ways ks) m = pre ++ wayOf (ways ks) cur ∧ pre.length = i)) ⟨[], .str m, none, rfl, same_mut sD np0, get_new np hd0, upd_same, .inr ⟨m, rfl, hm, rfl, rfl⟩⟩ (fun _ _ _ _ _ => trivial) ?ts ?td
      case td =>
        rintro σ1 H1 ⟨pre, here, v6, rfl, sH, hd1, hp1, hh⟩
        walk_at "go"
        rcases hh with ⟨rfl, e⟩ | ⟨cur, rfl, hcur, e, el⟩
        · refine kk p H1 np0 sH ?_
          rw [hp1, e]
        · have := wayOf_len ks m
          obtain ⟨t, et⟩ := way_hd kok hcur
          rw [e, et, List.length_append, List.length_cons] at this
          omega
      case ts =>
        rintro i y σ1 _ H1 hi ⟨pre, here, v6, rfl, sH, hd1, hp1, hh⟩ ⟨rfl, rfl⟩
        rcases hh with ⟨rfl, e⟩ | ⟨cur, rfl, hcur, e, el⟩
        · walk_at "go"
          rw [if_neg (show ¬ (!decide (V.non = V.non)) = true by rw [decide_eq_true rfl]; decide)]
          walk_at "go"
          exact ⟨pre, .non, _, rfl, sH, hd1, hp1, .inl ⟨rfl, e⟩⟩
        · obtain ⟨k, hk, rfl⟩ := List.mem_map.mp hcur
          have hv := byName_val (f := fun k => upV k.up) nd k hk
          have hst := way_step kok k hk
          walk_at "go"
          rw [if_pos (show (!decide (V.str k.name = V.non)) = true by rw [decide_eq_false (by intro z; cases z)]; rfl)]
          walk_at "go"
          refine U.g_appL hp1 (by rw [List.length_map]; omega) ?_
          walk_at "go"
          refine e_dgetS ((upd_ne (Ne.symm pd)).trans hd1) hv ?_
          walk_at "go"
          refine ⟨pre ++ [k.name], upV k.up, _, rfl, same_mut sH np0, (upd_ne (Ne.symm pd)).trans hd1, by rw [upd_same, List.map_append]; rfl, ?_⟩
          cases hup : k.up with
          | none =>
            rw [hup] at hst
            exact .inl ⟨rfl, by rw [e, hst]; rfl⟩
          | some u =>
            rw [hup] at hst
            refine .inr ⟨u, rfl, up_in kok k hk u hup, ?_, by rw [List.length_append, el]; rfl⟩
            rw [e, hst, List.append_assoc]
            rfl
theorem sc__law_does_cover : FnScope ["own", "at", "mark", "value", "name", "word"] ["own", "at", "mark", "value"] (defScope s__law_does_cover) := ⟨rfl, rfl, rfl, by decide +kernel, rfl, by decide +kernel, by decide +kernel⟩
def sp_dcov : Sp := fun vs H Q _ => ∃ (o : Addr) (R : Reg) (i : Nat) (n : Str) (b : Bool) (v x : V) (m : Mrk), vs = [.ref o, .int i, v, x] ∧ LawX H o R ∧ R.cols[i]? = some (n, b) ∧ MrkAt H v m ∧ mkOk (ksOf R.kinds n) b m ∧ vlOk (ksOf R.kinds n) b x ∧ ∀ H', Same H H' → Q (.bl (mkCov (ksOf R.kinds n) m x)) H'
theorem ok__law_does_cover (T : Tx K mg) : FnOk P w K mg base CX0 2 T.a__law_does_cover T.fd__law_does_cover ["own", "at", "mark", "value"] sp_dcov := by
  refine T.F__law_does_cover.ok sc__law_does_cover (fun vs H Q E h => ?_) (fun cdv A outer s H vs Q E hr h => ?_)
  · obtain ⟨o, R, i, n, b, v, x, m, rfl, _⟩ := h
    rfl
  · obtain ⟨o, R, i, n, b, v, x, m, rfl, L, hc, hm, okm, okx, kk⟩ := h
    have hu := hu_of hr
    have hu64 := hr.units
    refine ⟨_, (pss_cons (ps_asg (pe_ix (ix_u (K := K) rfl) (pe_dget hu (pv 0) (pe_str) (fun _ _ => rfl)) (pv 1) (fun _ _ => rfl)) (u_gtup (K := K) (n := 2) rfl rfl (pgs_cons (pg_name (i := 4) sc__law_does_cover.nd rfl (Or.inl rfl)) (pgs_cons (pg_name (i := 5) sc__law_does_cover.nd rfl (Or.inl rfl)) pgs_nil))))
        (pss_cons (ps_if (pt_cmpR (op_uEq (K := K) rfl hu64) (pv 5) (pe_str) (nomark _)) (pss_one (ps_ret (pe_chain op_uLe op_uLe (pe_ix (ix_u (K := K) rfl) (pv 2) (pe_int) (fun _ _ => rfl)) (pv 3) (pe_ix (ix_u (K := K) rfl) (pv 2) (pe_int) (fun _ _ => rfl))))) pss_nil)
        (pss_one (ps_ret (pe_cmpR (op_uIn (K := K) rfl) (pv 2) (pe_call (ok__law_chain T) (hr.mono (by decide)) rfl T.m__law_chain T.F__law_chain.kp (b__law_chain T) .nil pass0 (pa_cons (pv 0) (pa_cons (pv 4) (pa_cons (pv 3) pa_nil)))) rfl))))), ?_⟩
    obtain ⟨kvs, lc, cv, a, h1, h2, h3, h4, h5⟩ := L.col hc
    walk_at "st"
    walk_at "go"
    refine e_dgetS h1 h2 ?_
    walk_at "go"
    refine U.g_ix (Or.inl (SqL.of h3)) (U.at_nat rfl h4) ?_
    walk_at "go"
    rw [wd_line]
    cases b with
    | false =>
      obtain ⟨z, rfl⟩ : ∃ z, x = .int z := by
        cases x with
        | int z => exact ⟨z, rfl⟩
        | str s => exact absurd okx.1 (by decide)
        | _ => exact False.elim okx
      cases m with
      | kd s => exact absurd okm.1 (by decide)
      | sp lo hi =>
        obtain ⟨q, rfl, hq⟩ := hm
        refine U.g_T ?_
        walk_at "go"
        have kk := kk H (Same.refl _)
        have kk : Q (.bl (decide (lo ≤ z) && decide (z ≤ hi))) H := kk
        by_cases cc : lo ≤ z
        · rw [decide_eq_true cc] at kk ⊢
          walk_at "go"
          exact kk
        · rw [decide_eq_false cc] at kk ⊢
          walk_at "go"
          exact kk
    | true =>
      obtain ⟨z, rfl⟩ : ∃ z, x = .str z := by
        cases x with
        | str z => exact ⟨z, rfl⟩
        | int s => exact absurd okx.1 (by decide)
        | _ => exact False.elim okx
      cases m with
      | sp lo hi => exact absurd okm.1 (by decide)
      | kd s =>
        have hm : v = .str s := hm
        subst hm
        refine U.g_F ?_
        walk_at "go"
        refine ⟨o, R, n, z, rfl, L, List.mem_of_getElem? hc, okx.2, fun l H' nl s' hl => ?_⟩
        refine ⟨l, _, rfl, Or.inl (SqL.of hl), rfl, strs_flat _, ?_⟩
        rw [in_strs]
        exact kk _ s'
def sp_twoL (R2 : List Knd → Mrk → Mrk → VK → Hp → Prop) : Sp := fun vs H Q _ => ∃ (o : Addr) (R : Reg) (i : Nat) (n : Str) (b : Bool) (v v' : V) (m m' : Mrk), vs = [.ref o, .int i, v, v'] ∧ LawX H o R ∧ R.cols[i]? = some (n, b) ∧ MrkAt H v m ∧ MrkAt H v' m' ∧ mkOk (ksOf R.kinds n) b m ∧ mkOk (ksOf R.kinds n) b m' ∧ R2 (ksOf R.kinds n) m m' Q H
theorem sc__law_under : FnScope ["own", "at", "one", "other", "name", "what"] ["own", "at", "one", "other"] (defScope s__law_under) := ⟨rfl, rfl, rfl, by decide +kernel, rfl, by decide +kernel, by decide +kernel⟩
theorem ok__law_under (T : Tx K mg) : FnOk P w K mg base CX0 2 T.a__law_under T.fd__law_under ["own", "at", "one", "other"] (sp_twoL rFin) := by
  refine T.F__law_under.ok sc__law_under (fun vs H Q E h => ?_) (fun cdv A outer s H vs Q E hr h => ?_)
  · obtain ⟨o, R, i, n, b, v, v', m, m', rfl, _⟩ := h
    rfl
  · obtain ⟨o, R, i, n, b, v, v', m, m', rfl, L, hc, hm, hm', okm, okm', kk⟩ := h
    have hu := hu_of hr
    have hu64 := hr.units
    refine ⟨_, (pss_cons (ps_asg (pe_ix (ix_u (K := K) rfl) (pe_dget hu (pv 0) (pe_str) (fun _ _ => rfl)) (pv 1) (fun _ _ => rfl)) (u_gtup (K := K) (n := 2) rfl rfl (pgs_cons (pg_name (i := 4) sc__law_under.nd rfl (Or.inl rfl)) (pgs_cons (pg_name (i := 5) sc__law_under.nd rfl (Or.inl rfl)) pgs_nil))))
        (pss_cons (ps_if (pt_cmpR (op_uEq (K := K) rfl hu64) (pv 5) (pe_str) (nomark _)) (pss_one (ps_ret (pe_cmpR (op_uIn (K := K) rfl) (pv 3) (pe_call (ok__law_chain T) (hr.mono (by decide)) rfl T.m__law_chain T.F__law_chain.kp (b__law_chain T) .nil pass0 (pa_cons (pv 0) (pa_cons (pv 4) (pa_cons (pv 2) pa_nil)))) rfl))) pss_nil)
        (pss_one (ps_ret (pe_and (pe_cmpR op_uLe (pe_ix (ix_u (K := K) rfl) (pv 3) (pe_int) (fun _ _ => rfl)) (pe_ix (ix_u (K := K) rfl) (pv 2) (pe_int) (fun _ _ => rfl)) (nomark _)) (pe_one (pe_cmpR op_uLe (pe_ix (ix_u (K := K) rfl) (pv 2) (pe_int) (fun _ _ => rfl)) (pe_ix (ix_u (K := K) rfl) (pv 3) (pe_int) (fun _ _ => rfl)) (nomark _)))))))), ?_⟩
    obtain ⟨kvs, lc, cv, a, h1, h2, h3, h4, h5⟩ := L.col hc
    walk_at "st"
    walk_at "go"
    refine e_dgetS h1 h2 ?_
    walk_at "go"
    refine U.g_ix (Or.inl (SqL.of h3)) (U.at_nat rfl h4) ?_
    walk_at "go"
    rw [wd_kind]
    cases b with
    | false =>
      obtain ⟨x, y, z, u, rfl, rfl⟩ := mk_lines okm okm'
      obtain ⟨q, rfl, hq⟩ := hm
      obtain ⟨q', rfl, hq'⟩ := hm'
      refine U.g_F ?_
      walk_at "go"
      have kk : Q (.bl (decide (z ≤ x) && decide (y ≤ u))) H := kk H (Same.refl _)
      by_cases cc : z ≤ x
      · rw [decide_eq_true cc] at kk ⊢
        walk_at "go"
        exact kk
      · rw [decide_eq_false cc] at kk ⊢
        walk_at "go"
        exact kk
    | true =>
      obtain ⟨s, t, rfl, rfl, hs, ht⟩ := mk_kinds okm okm'
      have hm : v = .str s := hm
      have hm' : v' = .str t := hm'
      subst hm hm'
      refine U.g_T ?_
      walk_at "go"
      refine ⟨o, R, n, s, rfl, L, List.mem_of_getElem? hc, hs, fun l H' nl s' hl => ?_⟩
      refine ⟨l, _, rfl, Or.inl (SqL.of hl), rfl, strs_flat _, ?_⟩
      rw [in_strs]
      exact kk _ s'
theorem sc__law_joined : FnScope ["own", "at", "one", "other", "name", "what", "far", "kind"] ["own", "at", "one", "other"] (defScope s__law_joined) := ⟨rfl, rfl, rfl, by decide +kernel, rfl, by decide +kernel, by decide +kernel⟩
theorem ok__law_joined (T : Tx K mg) : FnOk P w K mg base CX0 2 T.a__law_joined T.fd__law_joined ["own", "at", "one", "other"] (sp_twoL rJoin) := by
  refine T.F__law_joined.ok sc__law_joined (fun vs H Q E h => ?_) (fun cdv A outer s H vs Q E hr h => ?_)
  · obtain ⟨o, R, i, n, b, v, v', m, m', rfl, _⟩ := h
    rfl
  · obtain ⟨o, R, i, n, b, v, v', m, m', rfl, L, hc, hm, hm', okm, okm', kk⟩ := h
    have hu := hu_of hr
    have hu64 := hr.units
    refine ⟨_, (pss_cons (ps_asg (pe_ix (ix_u (K := K) rfl) (pe_dget hu (pv 0) (pe_str) (fun _ _ => rfl)) (pv 1) (fun _ _ => rfl)) (u_gtup (K := K) (n := 2) rfl rfl (pgs_cons (pg_name (i := 4) sc__law_joined.nd rfl (Or.inl rfl)) (pgs_cons (pg_name (i := 5) sc__law_joined.nd rfl (Or.inl rfl)) pgs_nil))))
        (pss_cons (ps_if (pt_cmpR (op_uEq (K := K) rfl hu64) (pv 5) (pe_str) (nomark _)) (pss_cons (ps_set (i := 6) sc__law_joined.nd rfl (Or.inr rfl) (pe_call (ok__law_chain T) (hr.mono (by decide)) rfl T.m__law_chain T.F__law_chain.kp (b__law_chain T) .nil pass0 (pa_cons (pv 0) (pa_cons (pv 4) (pa_cons (pv 3) pa_nil)))))
        (pss_one (ps_ret (pe_ix (ix_u (K := K) rfl) (pe_lc rfl sc__law_joined.nd (u_list (K := K) rfl (pe_call (ok__law_chain T) (hr.mono (by decide)) rfl T.m__law_chain T.F__law_chain.kp (b__law_chain T) .nil pass0 (pa_cons (pv 0) (pa_cons (pv 4) (pa_cons (pv 2) pa_nil))))) (blkOk_by (own := [("kind", 7)]) (N := ["own", "at", "one", "other", "name", "what", "far", "kind"]) (sc := defScope s__law_joined) (by decide +kernel)) (fun _ _ _ _ _ => (pg_name (i := 7) sc__law_joined.nd rfl (Or.inl rfl))) (fun _ _ _ _ _ => (pts_one (pt_cmpR (op_uIn (K := K) rfl) (pv 7) (pv 6) rfl))) (fun _ _ _ _ _ => (pv 7))) (pe_int) (fun _ _ => rfl))))) pss_nil)
        (pss_one (ps_ret (pe_tup (pa_cons (pe_callTy call_uInt (by rfl) T.n_int (by decide +kernel) (pa_cons (pe_callB (call_uMin rfl) (by rfl) T.n_min (by decide +kernel) (pa_cons (pe_ix (ix_u (K := K) rfl) (pv 2) (pe_int) (fun _ _ => rfl)) (pa_cons (pe_ix (ix_u (K := K) rfl) (pv 3) (pe_int) (fun _ _ => rfl)) pa_nil))) pa_nil)) (pa_cons (pe_callTy call_uInt (by rfl) T.n_int (by decide +kernel) (pa_cons (pe_callB (call_uMax rfl) (by rfl) T.n_max (by decide +kernel) (pa_cons (pe_ix (ix_u (K := K) rfl) (pv 2) (pe_int) (fun _ _ => rfl)) (pa_cons (pe_ix (ix_u (K := K) rfl) (pv 3) (pe_int) (fun _ _ => rfl)) pa_nil))) pa_nil)) pa_nil))))))), ?_⟩
    obtain ⟨kvs, lc, cv, a, h1, h2, h3, h4, h5⟩ := L.col hc
    walk_at "st"
    walk_at "go"
    refine e_dgetS h1 h2 ?_
    walk_at "go"
    refine U.g_ix (Or.inl (SqL.of h3)) (U.at_nat rfl h4) ?_
    walk_at "go"
    rw [wd_kind]
    cases b with
    | false =>
      obtain ⟨x, y, z, u, rfl, rfl⟩ := mk_lines okm okm'
      obtain ⟨q, rfl, hq⟩ := hm
      obtain ⟨q', rfl, hq'⟩ := hm'
      refine U.g_F ?_
      walk_at "go"
      exact ⟨by show 2 ≤ sizeLine; decide, fun p np => kk _ _ (U.same_new np) ⟨p, rfl, upd_same⟩⟩
    | true =>
      obtain ⟨s, t, rfl, rfl, hs, ht⟩ := mk_kinds okm okm'
      have hm : v = .str s := hm
      have hm' : v' = .str t := hm'
      subst hm hm'
      have kok := (L.ok.kinds.each _ (List.mem_of_getElem? hc) rfl).1
      refine U.g_T ?_
      walk_at "go"
      refine ⟨o, R, n, t, rfl, L, List.mem_of_getElem? hc, ht, fun f H1 nf s1 hf => ?_⟩
      walk_at "go"
      refine ⟨o, R, n, s, rfl, L.same s1, List.mem_of_getElem? hc, hs, fun g H2 ng s2 hg => ?_⟩
      have hf2 := s2 _ _ hf
      refine e_list (SqL.of hg) ?_
      have wl : (wayOf (ways (ksOf R.kinds n)) s).length ≤ 1000000 := Nat.le_trans (wayOf_len _ s) (Nat.le_trans (L.ok.kinds.each _ (List.mem_of_getElem? hc) rfl).2.2 (by decide))
      refine lcI_list (SqL.of hg) (by rw [List.length_map]; exact wl) (fun v => match v with | .str y => if decide (y ∈ wayOf (ways (ksOf R.kinds n)) t) then some (V.str y) else none | _ => none) (fun y H3 A B hx s3 kA kB => ?_) fun E1 H3 nE s3 hE => ?_
      · obtain ⟨c, hc1, rfl⟩ := List.mem_map.mp hx
        walk_at "go"
        refine ⟨rfl, ?_⟩
        walk_at "go"
        refine ⟨f, _, rfl, Or.inl (SqL.of (s3 _ _ hf2)), rfl, strs_flat _, ?_⟩
        rw [in_strs]
        refine ⟨_, rfl, ?_⟩
        rw [if_neg Bool.false_ne_true]
        by_cases hb1 : c ∈ wayOf (ways (ksOf R.kinds n)) t
        · rw [if_pos (decide_eq_true hb1)]
          walk_at "go"
          exact kA _ _ (by show (if decide _ = true then _ else _) = _; rw [if_pos (decide_eq_true hb1)]) (Same.refl _)
        · rw [if_neg (by rw [decide_eq_false hb1]; decide)]
          exact kB (by show (if decide _ = true then _ else _) = _; rw [if_neg (by rw [decide_eq_false hb1]; decide)]) _ (Same.refl _)
      obtain ⟨zs, _, e2⟩ := joinN_com kok hs ht
      replace hE := hE.trans (congrArg (fun z => some (HO.lst z)) (fm_filter (fun y => decide (y ∈ wayOf (ways (ksOf R.kinds n)) t)) (wayOf (ways (ksOf R.kinds n)) s)))
      rw [e2] at hE
      walk_at "go"
      refine U.g_ix (v := .str (joinN (ksOf R.kinds n) s t)) (Or.inl (SqL.of hE)) (atI_nat (j := 0) rfl) ?_
      exact kk _ _ (s1.trans (s2.trans s3)) rfl
theorem sc__law_common : FnScope ["own", "at", "one", "other", "name", "what", "low", "high"] ["own", "at", "one", "other"] (defScope s__law_common) := ⟨rfl, rfl, rfl, by decide +kernel, rfl, by decide +kernel, by decide +kernel⟩
theorem ok__law_common (T : Tx K mg) : FnOk P w K mg base CX0 3 T.a__law_common T.fd__law_common ["own", "at", "one", "other"] (sp_twoL rCom) := by
  refine T.F__law_common.ok sc__law_common (fun vs H Q E h => ?_) (fun cdv A outer s H vs Q E hr h => ?_)
  · obtain ⟨o, R, i, n, b, v, v', m, m', rfl, _⟩ := h
    rfl
  · obtain ⟨o, R, i, n, b, v, v', m, m', rfl, L, hc, hm, hm', okm, okm', kk⟩ := h
    have hu := hu_of hr
    have hu64 := hr.units
    refine ⟨_, (pss_cons (ps_asg (pe_ix (ix_u (K := K) rfl) (pe_dget hu (pv 0) (pe_str) (fun _ _ => rfl)) (pv 1) (fun _ _ => rfl)) (u_gtup (K := K) (n := 2) rfl rfl (pgs_cons (pg_name (i := 4) sc__law_common.nd rfl (Or.inl rfl)) (pgs_cons (pg_name (i := 5) sc__law_common.nd rfl (Or.inl rfl)) pgs_nil))))
        (pss_cons (ps_if (pt_cmpR (op_uEq (K := K) rfl hu64) (pv 5) (pe_str) (nomark _)) (pss_one (ps_ret (pe_ifExp (pt_val (pe_call (ok__law_under T) (hr.mono (by decide)) rfl T.m__law_under T.F__law_under.kp (b__law_under T) .nil pass0 (pa_cons (pv 0) (pa_cons (pv 1) (pa_cons (pv 2) (pa_cons (pv 3) pa_nil)))))) (pv 2) (pe_ifExp (pt_val (pe_call (ok__law_under T) (hr.mono (by decide)) rfl T.m__law_under T.F__law_under.kp (b__law_under T) .nil pass0 (pa_cons (pv 0) (pa_cons (pv 1) (pa_cons (pv 3) (pa_cons (pv 2) pa_nil)))))) (pv 3) (pe_non))))) pss_nil)
        (pss_cons (ps_par rfl sc__law_common.nd (i := 6) (j := 7) rfl rfl (by decide) rfl rfl (pa_cons (pe_callB (call_uMax rfl) (by rfl) T.n_max (by decide +kernel) (pa_cons (pe_ix (ix_u (K := K) rfl) (pv 2) (pe_int) (fun _ _ => rfl)) (pa_cons (pe_ix (ix_u (K := K) rfl) (pv 3) (pe_int) (fun _ _ => rfl)) pa_nil))) (pa_cons (pe_callB (call_uMin rfl) (by rfl) T.n_min (by decide +kernel) (pa_cons (pe_ix (ix_u (K := K) rfl) (pv 2) (pe_int) (fun _ _ => rfl)) (pa_cons (pe_ix (ix_u (K := K) rfl) (pv 3) (pe_int) (fun _ _ => rfl)) pa_nil))) pa_nil)) (by rfl))
        (pss_one (ps_ret (pe_ifExp (pt_cmpR op_uLe (pv 6) (pv 7) (nomark _)) (pe_tup (pa_cons (pe_callTy call_uInt (by rfl) T.n_int (by decide +kernel) (pa_cons (pv 6) pa_nil)) (pa_cons (pe_callTy call_uInt (by rfl) T.n_int (by decide +kernel) (pa_cons (pv 7) pa_nil)) pa_nil))) (pe_non))))))), ?_⟩
    obtain ⟨kvs, lc, cv, a, h1, h2, h3, h4, h5⟩ := L.col hc
    walk_at "st"
    walk_at "go"
    refine e_dgetS h1 h2 ?_
    walk_at "go"
    refine U.g_ix (Or.inl (SqL.of h3)) (U.at_nat rfl h4) ?_
    walk_at "go"
    rw [wd_kind]
    cases b with
    | false =>
      obtain ⟨x, y, z, u, rfl, rfl⟩ := mk_lines okm okm'
      obtain ⟨q, rfl, hq⟩ := hm
      obtain ⟨q', rfl, hq'⟩ := hm'
      refine U.g_F ?_
      walk_at "go"
      refine U.g_2 (fun cc => ?_) (fun cc => ?_)
      · have cc : hiI x z ≤ loI y u := of_decide_eq_true cc
        walk_at "go"
        refine ⟨by show 2 ≤ sizeLine; decide, fun p np => kk _ _ (U.same_new np) ?_⟩
        show oMrkAt _ _ (if hiI x z ≤ loI y u then _ else none)
        rw [if_pos cc]
        exact ⟨p, rfl, upd_same⟩
      · have cc : ¬ hiI x z ≤ loI y u := of_decide_eq_false cc
        walk_at "go"
        refine kk _ _ (Same.refl _) ?_
        show oMrkAt _ _ (if hiI x z ≤ loI y u then _ else none)
        rw [if_neg cc]
        rfl
    | true =>
      obtain ⟨s, t, rfl, rfl, hs, ht⟩ := mk_kinds okm okm'
      have hm : v = .str s := hm
      have hm' : v' = .str t := hm'
      subst hm hm'
      have fin : ∀ v H', Same H H' → v = (if decide (t ∈ wayOf (ways (ksOf R.kinds n)) s) = true then V.str s else if decide (s ∈ wayOf (ways (ksOf R.kinds n)) t) = true then .str t else .non) → Q v H' := fun v H' s' e => by
        refine kk _ _ s' ?_
        rw [e]
        show oMrkAt _ _ (if decide (t ∈ wayOf (ways (ksOf R.kinds n)) s) = true then some (Mrk.kd s) else if decide (s ∈ wayOf (ways (ksOf R.kinds n)) t) = true then some (Mrk.kd t) else none)
        split
        · rfl
        · split <;> rfl
      refine U.g_T ?_
      walk_at "go"
      refine ⟨o, R, i, n, true, _, _, .kd s, .kd t, rfl, L, hc, rfl, rfl, okm, okm', fun H1 s1 => ?_⟩
      show ∃ k, V.bl (decide (t ∈ wayOf (ways (ksOf R.kinds n)) s)) = V.bl k ∧ _
      refine ⟨_, rfl, U.g_2 (fun cc => ?_) (fun cc => ?_)⟩
      · walk_at "go"
        exact fin _ _ s1 (by rw [if_pos cc])
      · walk_at "go"
        refine ⟨o, R, i, n, true, _, _, .kd t, .kd s, rfl, L.same s1, hc, rfl, rfl, okm', okm, fun H2 s2 => ?_⟩
        show ∃ k, V.bl (decide (s ∈ wayOf (ways (ksOf R.kinds n)) t)) = V.bl k ∧ _
        refine ⟨_, rfl, U.g_2 (fun c2 => ?_) (fun c2 => ?_)⟩
        · walk_at "go"
          exact fin _ _ (s1.trans s2) (by rw [cc, if_neg Bool.false_ne_true, if_pos c2])
        · walk_at "go"
          exact fin _ _ (s1.trans s2) (by rw [cc, if_neg Bool.false_ne_true, c2, if_neg Bool.false_ne_true])
end
end Toy

namespace U
open PySem PySem.Spec PyProof.Rows L2
section
variable {σ : L2.St} {H : Hp} {D : Ends}
theorem g_par3 {i j l : Nat} {ta : TA} (q : ta σ H fun vs H1 => ∃ u v w, vs = [u, v, w] ∧ D.nx (((σ.set i (some u)).set j (some v)).set l (some w)) H1) : tPar3 i j l ta D σ H := q
theorem e_three {u v w : V} {R : V → V → V → Prop} (q : R u v w) : ∃ x y z, [u, v, w] = [x, y, z] ∧ R x y z := ⟨u, v, w, rfl, q⟩
end
end U

namespace Toy
open PySem L2 U TL M
theorem pot_strs {H : Hp} {p c : Addr} {n : Nat} {l : List Str} (h : PotAt H p n) (e : H c = some (.lst (l.map V.str))) : c ≠ p := fun z => by
  obtain ⟨x, y, k, q, _⟩ := h
  rw [z, q] at e
  injection e with e
  injection e with e
  cases l with
  | nil => cases e
  | cons a r => cases e
theorem pot_dk {H : Hp} {p c : Addr} {n : Nat} {m : List (Key × V)} (h : PotAt H p n) (e : H c = some (.dK m)) : c ≠ p := fun z => by
  obtain ⟨x, y, k, q, _⟩ := h
  rw [z, q] at e
  cases e
theorem keep_pot {H H' : Hp} {p : Addr} {n : Nat} (h : PotAt H p n) (s : SB p H H') : Keep [p] H H' := by
  obtain ⟨x, y, z, q, r⟩ := h
  exact ⟨fun c o hc e => s c o e (fun z => hc (by rw [z]; exact List.mem_singleton_self _)), fun c hc => by rw [List.mem_singleton] at hc; subst hc; exact .inl ⟨_, q⟩⟩
theorem cen_pot {CL CT CR : Addr} {H H' : Hp} {a dx tc tk tp ds dn p : Addr} {n : Nat} {gs : List Col} {R : Reg} (h : PotAt H p n) (s : SB p H H') (d : CenX CL CT CR H a dx tc tk tp ds dn gs R) : CenX CL CT CR H' a dx tc tk tp ds dn gs R := by
  have q := keep_pot h s
  obtain ⟨x, y, z, hp, _⟩ := h
  have nk : ∀ {c : Addr} {m : List (Key × V)}, H c = some (.dK m) → c ∉ [p] := fun e hc => by
    rw [List.mem_singleton] at hc
    rw [hc, hp] at e
    cases e
  obtain ⟨cv, c1, c2⟩ := d.hc
  obtain ⟨kv, k1, k2⟩ := d.hk
  obtain ⟨pv, p1, p2⟩ := d.hp
  obtain ⟨kvs, s1, s2⟩ := d.hs
  exact ⟨q.ins d.hi, ⟨cv, q.tup _ _ c1, c2.mono q.tup⟩, ⟨kv, q.tup _ _ k1, k2.mono q.tup⟩, ⟨pv, q.tup _ _ p1, p2.mono q.tup⟩, ⟨kvs, q.k _ _ (nk s1) s1, s2.keep q fun c hc => by obtain ⟨m, e⟩ := s2.flat c hc; exact nk e⟩, d.hg, q.k _ _ (nk d.hn) d.hn⟩
end Toy

namespace M
open PySem L2 U TL
/-! ### data whose text is short enough, at any depth -/
structure GD (m w : Nat) (d : PyData) : Prop where
  lay : d.canLay0 = true
  dep : d.depth ≤ m
  wt : d.weight ≤ w
  sh : d.intsShort 13 = true
  si : d.showable = true
theorem GD.mono {m w m' w' : Nat} {d : PyData} (g : GD m w d) (h : m ≤ m') (h' : w ≤ w') : GD m' w' d := ⟨g.lay, Nat.le_trans g.dep h, Nat.le_trans g.wt h', g.sh, g.si⟩
theorem GD.str {s : Str} (h : PyData.canLay0 (.str s) = true) (l : s.length ≤ 100) : GD 0 100 (.str s) := ⟨h, Nat.le_refl _, l, rfl, rfl⟩
theorem GD.non : GD 0 100 .none := ⟨rfl, Nat.le_refl _, Nat.zero_le _, rfl, rfl⟩
theorem GD.int {i : Int} (h0 : -1000000 ≤ i) (h1 : i ≤ 1000000) : GD 0 100 (.int i) := by
  have lg : ∀ z : i.natAbs ≠ 0, i.natAbs.log2 < 21 := fun z => (Nat.log2_lt z).2 (show i.natAbs < 2 ^ 21 by omega)
  refine ⟨rfl, Nat.le_refl _, ?_, ?_, ?_⟩
  · show (if i == 0 then 0 else i.natAbs.log2 + 1) ≤ 100
    split
    · omega
    · rename_i z
      have z : i ≠ 0 := fun e => z (by rw [e]; rfl)
      have := lg (by omega)
      omega
  · exact decide_eq_true (PyData.shown_int_le (by omega))
  · refine decide_eq_true ?_
    by_cases z : i.natAbs = 0
    · rw [z]; decide
    · have := lg z; omega
theorem gd_all {m w : Nat} : ∀ {ds : List PyData}, (∀ d ∈ ds, GD m w d) → PyData.canLayAll0 ds = true ∧ PyData.depthAll ds ≤ m ∧ PyData.weightAll ds ≤ ds.length * (w + 1) ∧ PyData.intsShortAll 13 ds = true ∧ PyData.showableAll ds = true
  | [], _ => ⟨rfl, Nat.zero_le _, Nat.zero_le _, rfl, rfl⟩
  | d :: r, h => by
    have g := h d List.mem_cons_self
    obtain ⟨a, b, c, e, f⟩ := gd_all fun x hx => h x (List.mem_cons_of_mem _ hx)
    refine ⟨?_, ?_, ?_, ?_, ?_⟩
    · show (d.canLay0 && PyData.canLayAll0 r) = true
      rw [g.lay, a]; rfl
    · show max d.depth (PyData.depthAll r) ≤ m
      exact Nat.max_le.mpr ⟨g.dep, b⟩
    · show d.weight + 1 + PyData.weightAll r ≤ (r.length + 1) * (w + 1)
      have := g.wt
      rw [Nat.succ_mul]
      omega
    · show (d.intsShort 13 && PyData.intsShortAll 13 r) = true
      rw [g.sh, e]; rfl
    · show (d.showable && PyData.showableAll r) = true
      rw [g.si, f]; rfl
theorem GD.tup {m w n : Nat} {ds : List PyData} (h : ∀ d ∈ ds, GD m w d) (l : ds.length ≤ n) : GD (m + 1) (n * (w + 1)) (.tuple ds) := by
  obtain ⟨a, b, c, e, f⟩ := gd_all h
  exact ⟨a, Nat.succ_le_succ b, Nat.le_trans c (Nat.mul_le_mul_right _ l), e, f⟩
theorem rep_gd {K : PySem.W.Frag} {H : Hp} {x : V} {d : PyData} {m w : Nat} {Q : VK} (g : GD m w d) (hm : m ≤ 50) (hw : w ≤ 1000000) (hx : Dp K H x d) (q : Q (.str d.shown) H) : QD.rRep K [x] H Q := by
  have gd := g.dep
  have gw := g.wt
  have lay : PyData.layable0 d = true := by
    show (PyData.canLay0 _ && decide _ && decide _) = true
    rw [g.lay, decide_eq_true (show d.depth ≤ 64 by omega), decide_eq_true (show d.weight ≤ 2 ^ 20 by omega)]
    rfl
  exact ⟨_, _, rfl, .dp hx, g.si, by omega, Nat.le_trans (PyData.shown_le_of_layable0 lay g.sh) (by decide), q⟩
theorem rep_gdZ {K : PySem.W.Frag} {H : Hp} {x : V} {d : PyData} {m w : Nat} {Q : VK} {Z : Str} (g : GD m w d) (hm : m ≤ 50) (hw : w ≤ 1000000) (hx : Dp K H x d) (hZ : d.shown = Z) (q : Q (.str Z) H) : QD.rRep K [x] H Q := rep_gd g hm hw hx (hZ ▸ q)
end M

namespace M
open PySem L2 U TL
/-! ### marks as data for repr -/
def mkD : Mrk → PyData
  | .kd s => .str s
  | .sp lo hi => .tuple [.int lo, .int hi]
def omD : Option Mrk → PyData
  | none => .none
  | some m => mkD m
theorem mk_dp {K : PySem.W.Frag} {H : Hp} {v : V} : ∀ {m : Mrk}, MrkAt H v m → Dp K H v (mkD m)
  | .kd s, h => by have h : v = .str s := h; rw [h]; exact .str s
  | .sp lo hi, ⟨a, e, h⟩ => by rw [e]; exact .tup (SqT.of h) (.cons (.int lo) (.cons (.int hi) .nil))
theorem om_dp {K : PySem.W.Frag} {H : Hp} {v : V} : ∀ {m : Option Mrk}, Toy.oMrkAt H v m → Dp K H v (omD m)
  | none, h => by have h : v = .non := h; rw [h]; exact .non
  | some m, h => mk_dp h
theorem om_same {H H' : Hp} (s : Same H H') {v : V} : ∀ {m : Option Mrk}, Toy.oMrkAt H v m → Toy.oMrkAt H' v m
  | none, h => h
  | some m, h => MrkAt.same s h
/-- short data -/
def mkS (ks : List Knd) : Mrk → Prop
  | .kd s => s ∈ ks.map (·.name)
  | .sp lo hi => -1000000 ≤ lo ∧ lo ≤ 1000000 ∧ -1000000 ≤ hi ∧ hi ≤ 1000000
theorem mk_gd {c : Str} {ks : List Knd} (K : KOk c ks) : ∀ {m : Mrk}, mkS ks m → GD 1 303 (mkD m)
  | .kd s, h => by
    obtain ⟨k, hk, rfl⟩ := List.mem_map.mp h
    have nm := (KOk_name K k hk).1
    exact (GD.str (isName_lay nm) (Nat.le_trans (isName_out nm).2.1 (by decide))).mono (by decide) (by decide)
  | .sp lo hi, ⟨h1, h2, h3, h4⟩ => GD.tup (n := 3) (w := 100) (m := 0) (fun d hd => by
      rcases List.mem_cons.mp hd with e | hd
      · rw [e]; exact GD.int h1 h2
      · rw [List.mem_singleton.mp hd]; exact GD.int h3 h4) (by show 2 ≤ 3; decide)
theorem mk_gdL {ks : List Knd} : ∀ {m : Mrk}, mkOk ks false m → mkS ks m
  | .kd s, h => absurd h.1 (by decide)
  | .sp lo hi, ⟨_, h1, h2, h3⟩ => ⟨h1, by omega, by omega, h3⟩
theorem mk_gdK {ks : List Knd} : ∀ {m : Mrk}, mkOk ks true m → mkS ks m
  | .kd s, h => h.2
  | .sp lo hi, ⟨h, _⟩ => absurd h (by decide)
theorem loI_b {a c l h : Int} (h1 : l ≤ a) (h2 : a ≤ h) (h3 : l ≤ c) (h4 : c ≤ h) : l ≤ loI a c ∧ loI a c ≤ h := by
  unfold loI; split <;> exact ⟨by assumption, by assumption⟩
theorem hiI_b {a c l h : Int} (h1 : l ≤ a) (h2 : a ≤ h) (h3 : l ≤ c) (h4 : c ≤ h) : l ≤ hiI a c ∧ hiI a c ≤ h := by
  unfold hiI; split <;> exact ⟨by assumption, by assumption⟩
theorem join_s {c : Str} {ks : List Knd} (K : KOk c ks) {b : Bool} {m m' : Mrk} (h : mkOk ks b m) (h' : mkOk ks b m') : mkS ks (mkJoin ks m m') := by
  cases b with
  | true =>
    obtain ⟨s, t, rfl, rfl, hs, ht⟩ := Toy.mk_kinds h h'
    exact joinN_in K hs ht
  | false =>
    obtain ⟨x, y, z, u, rfl, rfl⟩ := Toy.mk_lines h h'
    obtain ⟨_, a1, a2, a3⟩ := h
    obtain ⟨_, b1, b2, b3⟩ := h'
    have p := loI_b (l := -1000000) (h := 1000000) a1 (by omega) b1 (by omega)
    have q := hiI_b (l := -1000000) (h := 1000000) (a := y) (c := u) (by omega) a3 (by omega) b3
    exact ⟨p.1, p.2, q.1, q.2⟩
theorem join_ok {c : Str} {ks : List Knd} (K : KOk c ks) {b : Bool} {m m' : Mrk} (h : mkOk ks b m) (h' : mkOk ks b m') : mkOk ks b (mkJoin ks m m') := by
  have q := join_s K h h'
  cases b with
  | true =>
    obtain ⟨s, t, rfl, rfl, hs, ht⟩ := Toy.mk_kinds h h'
    exact ⟨rfl, q⟩
  | false =>
    obtain ⟨x, y, z, u, rfl, rfl⟩ := Toy.mk_lines h h'
    obtain ⟨_, a1, a2, a3⟩ := h
    refine ⟨rfl, q.1, ?_, q.2.2.2⟩
    show loI x z ≤ hiI y u
    have : loI x z ≤ x := by unfold loI; split <;> omega
    have : y ≤ hiI y u := by unfold hiI; split <;> omega
    omega
theorem com_s {ks : List Knd} {b : Bool} {m m' r : Mrk} (h : mkOk ks b m) (h' : mkOk ks b m') (e : mkCom ks m m' = some r) : mkS ks r := by
  cases b with
  | true =>
    obtain ⟨s, t, rfl, rfl, hs, ht⟩ := Toy.mk_kinds h h'
    have e : (if decide (t ∈ wayOf (ways ks) s) = true then some (Mrk.kd s) else if decide (s ∈ wayOf (ways ks) t) = true then some (Mrk.kd t) else none) = some r := e
    split at e
    · cases e; exact hs
    · split at e
      · cases e; exact ht
      · cases e
  | false =>
    obtain ⟨x, y, z, u, rfl, rfl⟩ := Toy.mk_lines h h'
    have e : (if hiI x z ≤ loI y u then some (Mrk.sp (hiI x z) (loI y u)) else none) = some r := e
    split at e
    · cases e
      obtain ⟨_, a1, a2, a3⟩ := h
      obtain ⟨_, b1, b2, b3⟩ := h'
      have p := hiI_b (l := -1000000) (h := 1000000) (a := x) (c := z) a1 (by omega) b1 (by omega)
      have q := loI_b (l := -1000000) (h := 1000000) (a := y) (c := u) (by omega) a3 (by omega) b3
      exact ⟨p.1, p.2, q.1, q.2⟩
    · cases e
theorem com_gd {c : Str} {ks : List Knd} (K : KOk c ks) {b : Bool} {m m' : Mrk} (h : mkOk ks b m) (h' : mkOk ks b m') : GD 1 303 (omD (mkCom ks m m')) := by
  cases e : mkCom ks m m' with
  | none => exact GD.non.mono (by decide) (by decide)
  | some r => exact mk_gd K (com_s h h' e)
theorem prd_at3 {α β : Type} {R : α → β → Prop} : ∀ {xs : List α} {ys : List β}, Paired R xs ys → ∀ {i : Nat} {x : α}, xs[i]? = some x → ∃ y, ys[i]? = some y ∧ R x y
  | _, _, .nil, i, x, h => by simp at h
  | _, _, .cons a r, 0, x, h => by simp at h; subst h; exact ⟨_, rfl, a⟩
  | _, _, .cons a r, i + 1, x, h => by
    obtain ⟨y, h1, h2⟩ := prd_at3 r (i := i) (x := x) (by simpa using h)
    exact ⟨y, by simpa using h1, h2⟩
theorem tk_in {R : Reg} {n : Str} {s : Str} : s ∈ kindNames R n ↔ s ∈ (ksOf R.kinds n).map (·.name) := Iff.rfl
theorem kok_any (R : Reg) (ok : RegOk R) {i : Nat} {n : Str} {b : Bool} (hc : R.cols[i]? = some (n, b)) : KOk n (ksOf R.kinds n) := by
  cases b with
  | true => exact (ok.kinds.each _ (List.mem_of_getElem? hc) rfl).1
  | false =>
    have : ksOf R.kinds n = [] := List.filter_eq_nil_iff.mpr fun k hk => by
      intro e
      have e : k.col = n := of_decide_eq_true e
      have h1 := ok.kinds.of k hk
      rw [e] at h1
      have h2 := Toy.lookup_nd ok.cols.nd h1
      have h3 := Toy.lookup_nd ok.cols.nd (List.mem_of_getElem? hc)
      rw [h2] at h3
      cases h3
    rw [this]
    exact .nil
end M
namespace Toy
open PySem L2 U M TL ZV KY SU QD G KW
theorem AskX.pot {CL CT CR : Addr} {H H' : Hp} {a p : Addr} {R : Reg} {n : Str} {b : Bool} {k : Nat} (hp : PotAt H p k) (s : SB p H H') (h : AskX CL CT CR H a R n b) : AskX CL CT CR H' a R n b := by
  obtain ⟨⟨dx, tc, tk, tp, ds, dn, gs, ce⟩, ok, hn⟩ := h
  exact ⟨⟨dx, tc, tk, tp, ds, dn, gs, cen_pot hp s ce⟩, ok, hn⟩
theorem vOk_vl {R : Reg} {n : Str} {b : Bool} {x : V} (h : valOk R (n, b) x) : vlOk (ksOf R.kinds n) b x := by
  unfold valOk at h
  cases b with
  | true =>
    rw [if_pos rfl] at h
    obtain ⟨k, h1, h2, rfl⟩ := h
    exact ⟨rfl, List.mem_map.mpr ⟨k, List.mem_filter.mpr ⟨h1, decide_eq_true h2⟩, rfl⟩⟩
  | false =>
    rw [if_neg Bool.false_ne_true] at h
    obtain ⟨z, rfl, h1, h2⟩ := h
    exact ⟨rfl, h1, h2⟩
section
variable {P : Program} {w : World} {K : PySem.W.Frag} {mg : Str → Option Value} {base : Heap}
theorem eq_refl (x : V) : (if (false : Bool) = true then !decide (x = x) else decide (x = x)) = true := by rw [if_neg Bool.false_ne_true, decide_eq_true rfl]
theorem sc__law_a_mark : FnScope ["pot", "own", "at", "name", "what", "low"] ["pot", "own", "at"] (defScope s__law_a_mark) := ⟨rfl, rfl, rfl, by decide +kernel, rfl, by decide +kernel, by decide +kernel⟩
def sp_amark : Sp := fun vs H Q _ => ∃ (p o : Addr) (R : Reg) (i : Nat) (n : Str) (b : Bool) (k : Nat), vs = [.ref p, .ref o, .int i] ∧ LawX H o R ∧ R.cols[i]? = some (n, b) ∧ PotAt H p (k + 4) ∧ ∀ v m H', MrkAt H' v m → mkOk (ksOf R.kinds n) b m → PotAt H' p k → SB p H H' → Q v H'
theorem ok__law_a_mark (T : Tx K mg) : FnOk P w K mg base CX0 3 T.a__law_a_mark T.fd__law_a_mark ["pot", "own", "at"] sp_amark := by
  refine T.F__law_a_mark.ok sc__law_a_mark (fun vs H Q E h => ?_) (fun cdv A outer s H vs Q E hr h => ?_)
  · obtain ⟨p, o, R, i, n, b, k, rfl, _⟩ := h
    rfl
  · obtain ⟨p, o, R, i, n, b, k, rfl, L, hc, hp, kk⟩ := h
    have hu := hu_of hr
    have hu64 := hr.units
    refine ⟨_, (pss_cons (ps_asg (pe_ix (ix_u (K := K) rfl) (pe_dget hu (pv 1) (pe_str) (fun _ _ => rfl)) (pv 2) (fun _ _ => rfl)) (u_gtup (K := K) (n := 2) rfl rfl (pgs_cons (pg_name (i := 3) sc__law_a_mark.nd rfl (Or.inl rfl)) (pgs_cons (pg_name (i := 4) sc__law_a_mark.nd rfl (Or.inl rfl)) pgs_nil))))
        (pss_cons (ps_if (pt_cmpR (op_uEq (K := K) rfl hu64) (pv 4) (pe_str) (nomark _)) (pss_one (ps_ret (pe_call (ok__law_of T) (hr.mono (by decide)) rfl T.m__law_of T.F__law_of.kp (b__law_of T) .nil pass0 (pa_cons (pv 0) (pa_cons (pe_call (ok__law_kind_names T) (hr.mono (by decide)) rfl T.m__law_kind_names T.F__law_kind_names.kp (b__law_kind_names T) .nil pass0 (pa_cons (pv 1) (pa_cons (pv 3) pa_nil))) pa_nil))))) pss_nil)
        (pss_cons (ps_set (i := 5) sc__law_a_mark.nd rfl (Or.inl rfl) (pe_op (op_uAdd (K := K) rfl) (pe_call (ok__law_of T) (hr.mono (by decide)) rfl T.m__law_of T.F__law_of.kp (b__law_of T) .nil pass0 (pa_cons (pv 0) (pa_cons (pe_lst (pa_cons (pe_un op_uNeg (pe_int)) (pa_cons (pe_int) (pa_cons (pe_int) (pa_cons (pe_un op_uNeg (pe_op op_uPow (pe_int) (pe_int))) pa_nil))))) pa_nil))) (pe_call (ok__law_take T) (hr.mono (by decide)) rfl T.m__law_take T.F__law_take.kp (b__law_take T) .nil pass0 (pa_cons (pv 0) (pa_cons (pe_int) pa_nil)))))
        (pss_one (ps_ret (pe_tup (pa_cons (pe_callTy call_uInt (by rfl) T.n_int (by decide +kernel) (pa_cons (pv 5) pa_nil)) (pa_cons (pe_callTy call_uInt (by rfl) T.n_int (by decide +kernel) (pa_cons (pe_callB (call_uMin rfl) (by rfl) T.n_min (by decide +kernel) (pa_cons (pe_op op_uPow (pe_int) (pe_int)) (pa_cons (pe_op (op_uAdd (K := K) rfl) (pv 5) (pe_call (ok__law_of T) (hr.mono (by decide)) rfl T.m__law_of T.F__law_of.kp (b__law_of T) .nil pass0 (pa_cons (pv 0) (pa_cons (pe_lst (pa_cons (pe_int) (pa_cons (pe_int) (pa_cons (pe_call (ok__law_take T) (hr.mono (by decide)) rfl T.m__law_take T.F__law_take.kp (b__law_take T) .nil pass0 (pa_cons (pv 0) (pa_cons (pe_int) pa_nil))) (pa_cons (pe_op op_uPow (pe_int) (pe_int)) pa_nil))))) pa_nil)))) pa_nil))) pa_nil)) pa_nil)))))))), ?_⟩
    obtain ⟨kvs, lc, cv, a, h1, h2, h3, h4, h5⟩ := L.col hc
    walk_at "st"
    walk_at "go"
    refine e_dgetS h1 h2 ?_
    walk_at "go"
    refine U.g_ix (Or.inl (SqL.of h3)) (U.at_nat rfl h4) ?_
    walk_at "go"
    rw [wd_kind]
    cases b with
    | true =>
      refine U.g_T ?_
      walk_at "go"
      have L' := L
      obtain ⟨⟨lc', lk', lp', I⟩, ok⟩ := L'
      refine ⟨o, lc', lk', lp', R, n, rfl, I, by have := ok.k240; omega, fun l H1 nl s1 hl => ?_⟩
      walk_at "go"
      have e := ok.kinds.each _ (List.mem_of_getElem? hc) rfl
      have kl : (kindNames R n).length = (ksOf R.kinds n).length := by unfold kindNames ksOf; rw [List.length_map]
      have lpn : l ≠ p := pot_ne hp nl
      have e2 : 1 ≤ (ksOf R.kinds n).length := e.2.1
      have e3 : (ksOf R.kinds n).length ≤ 60 := e.2.2
      refine ⟨p, .ref l, k, rfl, (hp.same s1).le (by omega), Or.inl ⟨l, _, rfl, Or.inl (SqL.of hl), by rw [List.length_map]; omega, by rw [List.length_map]; omega, fun H3 s3 => Or.inl (SqL.of (s3 _ _ hl lpn)), fun j y H3 hy hp3 s3 => ?_⟩⟩
      obtain ⟨nm, hnm, rfl⟩ := List.mem_map.mp (List.mem_of_getElem? hy)
      exact kk _ (.kd nm) H3 rfl ⟨rfl, hnm⟩ hp3 ((SB.of s1).trans s3)
    | false =>
      refine U.g_F ?_
      walk_at "go"
      refine ⟨by decide, fun f nf => ?_⟩
      walk_at "go"
      have fp := pot_ne hp nf
      refine ⟨p, .ref f, k + 3, rfl, hp.new nf, Or.inl ⟨f, _, rfl, Or.inl (SqL.of upd_same), by decide, by decide, fun H3 s3 => Or.inl (SqL.of (s3 _ _ upd_same fp)), fun j y H3 hy hp3 s3 => ?_⟩⟩
      obtain ⟨z, rfl, z0, z1⟩ := intIn_out (all_at (f := intIn (-1000000) 4) (by decide +kernel) hy)
      have s03 := (SB.new (SB.refl p H) nf).trans s3
      walk_at "go"
      refine ⟨p, 9, k + 2, rfl, by decide, by decide, hp3, fun r H4 r0 r1 hp4 s4 => ?_⟩
      walk_at "go"
      refine ⟨p, 12, k + 1, rfl, by decide, by decide, hp4, fun r2 H5 r20 r21 hp5 s5 => ?_⟩
      walk_at "go"
      refine ⟨by show 4 ≤ sizeLine; decide, fun g ng => ?_⟩
      walk_at "go"
      have gp := pot_ne hp5 ng
      refine ⟨p, .ref g, k, rfl, hp5.new ng, Or.inl ⟨g, _, rfl, Or.inl (SqL.of upd_same), (by show 0 < 4; decide), (by show 4 ≤ 1000000; decide), fun H6 s6 => Or.inl (SqL.of (s6 _ _ upd_same gp)), fun j2 y2 H6 hy2 hp6 s6 => ?_⟩⟩
      obtain ⟨u, rfl, u0⟩ : ∃ u : Int, y2 = .int u ∧ 0 ≤ u := by
        have := List.mem_of_getElem? hy2
        simp only [List.mem_cons, List.not_mem_nil, or_false] at this
        rcases this with e | e | e | e
        · exact ⟨_, e, by decide⟩
        · exact ⟨_, e, by decide⟩
        · exact ⟨_, e, r20⟩
        · exact ⟨_, e, by decide +kernel⟩
      walk_at "go"
      refine ⟨by show 2 ≤ sizeLine; decide, fun q nq => ?_⟩
      have s06 := ((s03.trans s4).trans ((s5.new ng).trans s6))
      refine kk _ (.sp (z + r) (if z + r + u < 10 ^ (6 : Int).toNat then z + r + u else 10 ^ (6 : Int).toNat)) _ ⟨q, rfl, upd_same⟩ ⟨rfl, by omega, ?_, ?_⟩ (hp6.new nq) (s06.new nq)
      · have : (10 : Int) ^ (6 : Int).toNat = 1000000 := by decide +kernel
        rw [this]
        split <;> omega
      · have : (10 : Int) ^ (6 : Int).toNat = 1000000 := by decide +kernel
        rw [this]
        split <;> omega
end
end Toy

local macro_rules | `(tactic| walk_at "u1") => `(tactic| first
  | (with_reducible refine U.g_seq ?_) | (with_reducible refine U.g_asg ?_) | (with_reducible refine U.g_name ?_) | (with_reducible refine U.g_op ?_) | ((with_reducible refine' U.g_var ?k1 ?k2); (case k1 => exact rfl)) | (with_reducible refine U.g_c ?_)
  | (with_reducible refine U.g_cons ?_) | (with_reducible refine U.g_nil ?_) | (with_reducible refine U.g_cb ?_) | (with_reducible refine U.g_call ?_) | (with_reducible refine U.g_ret ?_) | (with_reducible refine U.g_drop ?_)
  | (with_reducible refine U.g_ifS ?_) | (with_reducible refine U.g_if ?_) | (with_reducible refine U.g_test ?_) | (with_reducible refine U.g_B ?_) | (with_reducible refine U.g_un ?_) | (with_reducible refine U.g_next ?_)
  | (with_reducible refine U.g_bl ?_) | (with_reducible refine U.g_blP ?_) | (with_reducible refine U.g_addI ?_) | (with_reducible refine U.g_subI ?_) | (with_reducible refine U.g_cmpI ?_) | (with_reducible refine U.g_intI ?_) | (with_reducible refine U.g_intB ?_)
  | (with_reducible refine U.g_absI ?_) | (with_reducible refine U.g_negI ?_) | (with_reducible refine U.g_mmI ?_) | (with_reducible refine U.g_and ?_) | (with_reducible refine U.g_or ?_) | (with_reducible refine U.g_not ?_) | (with_reducible refine U.g_andV ?_) | (with_reducible refine U.g_orV ?_) | (with_reducible refine U.g_notV ?_)
  | (with_reducible refine U.g_lst ?_) | (with_reducible refine U.g_tup ?_) | (with_reducible refine U.g_sub ?_) | (with_reducible refine U.g_lrg ?_) | (with_reducible refine U.g_rg1 ?_) | (with_reducible refine U.g_intE ?_) | (with_reducible refine U.g_sl ?_) | (with_reducible refine U.g_noP ?_) | (with_reducible refine U.g_part ?_) | (with_reducible refine U.g_lc ?_) | (with_reducible refine U.g_for ?_) | (with_reducible refine U.g_iList ?_) | (with_reducible refine U.g_iTup ?_) | (with_reducible refine U.g_iRng1 ?_) | (with_reducible refine U.g_iStr ?_) | (with_reducible refine U.g_iEnum ?_) | (with_reducible refine U.g_iVals ?_)
  | (with_reducible refine U.g_dnotin ?_) | (with_reducible refine U.g_din ?_) | (with_reducible refine U.g_dget ?_) | (with_reducible refine U.g_dput ?_) | (with_reducible refine U.g_bm ?_) | (with_reducible refine U.g_bm0 ?_) | (with_reducible refine U.g_dnewK ?_)
  | (with_reducible refine U.g_gcons ?_) | (with_reducible refine U.g_gnil ?_) | (with_reducible refine U.g_par ?_) | (with_reducible refine U.e_two ?_)
  | ((with_reducible refine' U.g_gtup ?k1 ?k2 ?k3); (case k1 => exact L2.SqT.of (by walk_at "hp")); (case k2 => exact rfl))
  | ((with_reducible refine' U.ty_lst ?k1 ?k2); (case k1 => walk_at "hp"))
  | (with_reducible refine U.g_strS ?_) | ((with_reducible refine' U.g_strI ?k1 ?k2); (case k1 => first | decide | omega))
  | (with_reducible refine U.g_nT ?_) | (with_reducible refine U.g_nF ?_) | (with_reducible refine U.g_chain ?_) | (with_reducible refine U.g_m1 ?_) | (with_reducible refine U.e_strE ?_) | (with_reducible refine U.g_disp ?_) | (with_reducible refine U.g_pcons ?_) | (with_reducible refine U.g_pnil ?_) | (with_reducible refine U.e_non ?_) | (with_reducible refine U.g_yes ?_) | (with_reducible refine U.g_cont ?_) | (with_reducible refine U.g_T ?_) | (with_reducible refine U.g_F ?_)
  | (with_reducible refine U.g_par3 ?_) | (with_reducible refine U.e_three ?_) | (with_reducible refine M.g_fld ?_) | (with_reducible refine M.g_sfld ?_) | (with_reducible refine ZV.g_meth ?_) | (with_reducible refine KW.g_K0 ?_) | (with_reducible refine U.g_T ?_) | (with_reducible refine U.g_F ?_)
  | ((with_reducible refine' U.g_modI ?k1 ?k2); (case k1 => first | assumption | decide | omega))
  | ((with_reducible refine' U.g_divP ?k1 ?k2 ?k3); (case k1 => first | assumption | decide | omega); (case k2 => first | assumption | decide | omega))
  | (with_reducible refine U.g_mulB ?_) | (with_reducible refine U.g_powL (by decide +kernel) ?_) | (with_reducible refine U.g_modL (by decide +kernel) ?_)
  | ((with_reducible refine' U.g_mulL ?k1 ?k2); (case k1 => first | decide | omega))
  | ((with_reducible refine' U.g_mulR ?k1 ?k2); (case k1 => first | decide | omega))
  | ((with_reducible refine' U.g_ix ?k1 ?k2 ?k3); (case k1 => walk_at "sq"); (case k2 => exact rfl))
  | ((with_reducible refine' U.g_setL ?k1 ?k2 ?k3); (case k1 => walk_at "hp"); (case k2 => exact rfl))
  | ((with_reducible refine' U.g_eqS ?k1 ?k2); (case k1 => rfl)))
/-- what stands at an address, behind stores -/
local macro_rules | `(tactic| walk_at "hp") => `(tactic| first
  | assumption
  | ((with_reducible refine' U.get_same ?k1); (case k1 => exact rfl))
  | ((with_reducible refine' U.get_new ?k1 ?k2); (case k1 => assumption); (case k2 => walk_at "hp"))
  | ((with_reducible refine' U.get_ne ?k1 ?k2); (case k1 => first | assumption | (apply Ne.symm; assumption)); (case k2 => walk_at "hp")))
local macro_rules | `(tactic| walk_at "sq") => `(tactic| first
  | assumption | exact Or.inl (by assumption) | exact Or.inr (by assumption)
  | exact Or.inl (L2.SqL.of (by walk_at "hp")) | exact Or.inr (L2.SqT.of (by walk_at "hp")))
local macro_rules | `(tactic| walk_at "st") => `(tactic| dsimp only [L2.cxOf, L2.start, List.map, List.length, List.replicate, HAppend.hAppend, Append.append, List.append, Nat.reduceAdd, Nat.reduceSub])
local macro_rules | `(tactic| walk_at "ds") => `(tactic| try dsimp only [List.set, Int.reduceToNat])
local macro_rules | `(tactic| walk_at "go") => `(tactic| ((try dsimp only); (repeat walk_at "u1"); walk_at "ds"))
local macro_rules | `(tactic| walk_at "c2") => `(tactic| (refine U.g_2 (fun c => ?_) (fun c => ?_) <;> (try simp only [decide_eq_true_eq, decide_eq_false_iff_not, Bool.not_eq_true', Bool.not_eq_false'] at c)))

namespace Toy
open PySem L2 U M TL ZV KY SU QD G KW
section
variable {P : Program} {w : World} {K : PySem.W.Frag} {mg : Str → Option Value} {base : Heap}
theorem pair_gd {c : Str} {ks : List Knd} (kok : KOk c ks) {b : Bool} {m m' : Mrk} (h : mkOk ks b m) (h' : mkOk ks b m') : GD 2 (3 * 304) (.tuple [mkD (mkJoin ks m m'), omD (mkCom ks m m')]) := GD.tup (n := 3) (w := 303) (m := 1) (fun d hd => by
  rcases List.mem_cons.mp hd with e | hd
  · rw [e]; exact mk_gd kok (join_s kok h h')
  · rw [List.mem_singleton.mp hd]; exact com_gd kok h h') (by show 2 ≤ 3; decide)
theorem sc__law_is_pair_right : FnScope ["pot", "own", "census", "at", "name", "one", "other", "due", "told", "value"] ["pot", "own", "census", "at"] (defScope s__law_is_pair_right) := ⟨rfl, rfl, rfl, by decide +kernel, rfl, by decide +kernel, by decide +kernel⟩
def sp_pairright (CL CT CR : Addr) : Sp := fun vs H Q _ => ∃ (p o a : Addr) (R : Reg) (i : Nat) (n : Str) (b : Bool) (k : Nat), vs = [.ref p, .ref o, .ref a, .int i] ∧ PotAt H p (k + 100) ∧ LawX H o R ∧ AskX CL CT CR H a R n b ∧ R.cols[i]? = some (n, b) ∧ ∀ H', PotAt H' p k → SB p H H' → Q (.bl true) H'
theorem ok__law_is_pair_right (T : Tx K mg) : FnG P w K mg base 7 T.a__law_is_pair_right T.fd__law_is_pair_right ["pot", "own", "census", "at"] (sp_pairright T.C_Line T.C_Tree T.C_Register) := by
  refine okG T.F__law_is_pair_right sc__law_is_pair_right (fun vs H Q E h => ?_) (fun cdv A outer s H vs Q E hr hgd h => ?_)
  · obtain ⟨p, o, a, R, i, n, b, k, rfl, _⟩ := h
    rfl
  · obtain ⟨p, o, a, R, i, n, b, k, rfl, hp, L, ask, hc, kk⟩ := h
    have hu := hu_of hr
    have hu64 := hr.units
    refine ⟨_, (pss_cons (ps_par3 rfl sc__law_is_pair_right.nd (i := 4) (j := 5) (l := 6) rfl rfl rfl (by decide) (by decide) (by decide) rfl rfl rfl (pa_cons (pe_ix (ix_u (K := K) rfl) (pe_ix (ix_u (K := K) rfl) (pe_dget hu (pv 1) (pe_str) (fun _ _ => rfl)) (pv 3) (fun _ _ => rfl)) (pe_int) (fun _ _ => rfl)) (pa_cons (pe_call (ok__law_a_mark T) (hr.mono (by decide)) rfl T.m__law_a_mark T.F__law_a_mark.kp (b__law_a_mark T) .nil pass0 (pa_cons (pv 0) (pa_cons (pv 1) (pa_cons (pv 3) pa_nil)))) (pa_cons (pe_call (ok__law_a_mark T) (hr.mono (by decide)) rfl T.m__law_a_mark T.F__law_a_mark.kp (b__law_a_mark T) .nil pass0 (pa_cons (pv 0) (pa_cons (pv 1) (pa_cons (pv 3) pa_nil)))) pa_nil))) (by rfl))
        (pss_cons (ps_if (pt_cmpR op_notBl (KW.pe_callK0 (ok_is_mark T) (hr.mono (by decide)) (by rfl) T.m_is_mark T.F_is_mark.kp (KW.kb0 (ks := ["value", "column", "census"]) T.F_is_mark [2, 1, 0] (fun _ _ _ _ _ _ us hl => match us, hl with | [_, _, _], _ => rfl)) pass0 (pk_cons (pv 5) (pk_cons (pv 4) (pk_cons (pv 2) pk_nil)))) pe_bl (nomark _)) (pss_one (ps_ret (pe_bl))) pss_nil)
        (pss_cons (ps_set (i := 7) sc__law_is_pair_right.nd rfl (Or.inl rfl) (pe_call (ok__law_under T) (hr.mono (by decide)) rfl T.m__law_under T.F__law_under.kp (b__law_under T) .nil pass0 (pa_cons (pv 1) (pa_cons (pv 3) (pa_cons (pv 5) (pa_cons (pv 6) pa_nil))))))
        (pss_cons (ps_if (pt_cmpR (op_uNe (K := K) rfl hu64) (pe_callB (QD.call_rep (K := K) rfl hgd hu64) (by rfl) T.n_repr (by decide +kernel) (pa_cons (KW.pe_callK0 (ok_is_finer T) (hr.mono (by decide)) (by rfl) T.m_is_finer T.F_is_finer.kp (KW.kb0 (ks := ["other", "one", "column", "census"]) T.F_is_finer [3, 2, 1, 0] (fun _ _ _ _ _ _ us hl => match us, hl with | [_, _, _, _], _ => rfl)) pass0 (pk_cons (pv 6) (pk_cons (pv 5) (pk_cons (pv 4) (pk_cons (pv 2) pk_nil))))) pa_nil)) (pe_callB (QD.call_rep (K := K) rfl hgd hu64) (by rfl) T.n_repr (by decide +kernel) (pa_cons (pv 7) pa_nil)) (nomark _)) (pss_one (ps_ret (pe_bl))) pss_nil)
        (pss_cons (ps_set (i := 8) sc__law_is_pair_right.nd rfl (Or.inl rfl) (pe_tup (pa_cons (KW.pe_callK0 (ok_joined_mark T) (hr.mono (by decide)) (by rfl) T.m_joined_mark T.F_joined_mark.kp (KW.kb0 (ks := ["other", "one", "column", "census"]) T.F_joined_mark [3, 2, 1, 0] (fun _ _ _ _ _ _ us hl => match us, hl with | [_, _, _, _], _ => rfl)) pass0 (pk_cons (pv 6) (pk_cons (pv 5) (pk_cons (pv 4) (pk_cons (pv 2) pk_nil))))) (pa_cons (pe_call (ok_common_mark T) (hr.mono (by decide)) rfl T.m_common_mark T.F_common_mark.kp (b_common_mark T) .nil pass0 (pa_cons (pv 2) (pa_cons (pv 4) (pa_cons (pv 5) (pa_cons (pv 6) pa_nil))))) pa_nil))))
        (pss_cons (ps_if (pt_cmpR (op_uNe (K := K) rfl hu64) (pe_callB (QD.call_rep (K := K) rfl hgd hu64) (by rfl) T.n_repr (by decide +kernel) (pa_cons (pv 8) pa_nil)) (pe_callB (QD.call_rep (K := K) rfl hgd hu64) (by rfl) T.n_repr (by decide +kernel) (pa_cons (pe_tup (pa_cons (pe_call (ok__law_joined T) (hr.mono (by decide)) rfl T.m__law_joined T.F__law_joined.kp (b__law_joined T) .nil pass0 (pa_cons (pv 1) (pa_cons (pv 3) (pa_cons (pv 5) (pa_cons (pv 6) pa_nil))))) (pa_cons (pe_call (ok__law_common T) (hr.mono (by decide)) rfl T.m__law_common T.F__law_common.kp (b__law_common T) .nil pass0 (pa_cons (pv 1) (pa_cons (pv 3) (pa_cons (pv 5) (pa_cons (pv 6) pa_nil))))) pa_nil))) pa_nil)) (nomark _)) (pss_one (ps_ret (pe_bl))) pss_nil)
        (pss_cons (ps_set (i := 9) sc__law_is_pair_right.nd rfl (Or.inl rfl) (pe_ix (ix_u (K := K) rfl) (pe_call (ok__law_values T) (hr.mono (by decide)) rfl T.m__law_values T.F__law_values.kp (b__law_values T) .nil pass0 (pa_cons (pv 0) (pa_cons (pv 1) (pa_cons (pe_call (ok__law_of T) (hr.mono (by decide)) rfl T.m__law_of T.F__law_of.kp (b__law_of T) .nil pass0 (pa_cons (pv 0) (pa_cons (pe_lst (pa_cons (pe_int) (pa_cons (pe_un op_uNeg (pe_int)) (pa_cons (pe_int) pa_nil)))) pa_nil))) pa_nil)))) (pv 3) (fun _ _ => rfl)))
        (pss_cons (ps_set (i := 7) sc__law_is_pair_right.nd rfl (Or.inl rfl) (pe_call (ok__law_does_cover T) (hr.mono (by decide)) rfl T.m__law_does_cover T.F__law_does_cover.kp (b__law_does_cover T) .nil pass0 (pa_cons (pv 1) (pa_cons (pv 3) (pa_cons (pv 5) (pa_cons (pv 9) pa_nil))))))
        (pss_one (ps_ret (pe_cmpR (op_uEq (K := K) rfl hu64) (pe_callB (QD.call_rep (K := K) rfl hgd hu64) (by rfl) T.n_repr (by decide +kernel) (pa_cons (KW.pe_callK0 (ok_covers T) (hr.mono (by decide)) (by rfl) T.m_covers T.F_covers.kp (KW.kb0 (ks := ["value", "mark", "column", "census"]) T.F_covers [3, 2, 1, 0] (fun _ _ _ _ _ _ us hl => match us, hl with | [_, _, _, _], _ => rfl)) pass0 (pk_cons (pv 9) (pk_cons (pv 5) (pk_cons (pv 4) (pk_cons (pv 2) pk_nil))))) pa_nil)) (pe_callB (QD.call_rep (K := K) rfl hgd hu64) (by rfl) T.n_repr (by decide +kernel) (pa_cons (pv 7) pa_nil)) (nomark _)))))))))))), ?_⟩
    obtain ⟨kvs, lc, cv, q, h1, h2, h3, h4, h5⟩ := L.col hc
    have kok := kok_any R L.ok hc
    walk_at "st"
    walk_at "go"
    refine e_dgetS h1 h2 ?_
    walk_at "go"
    refine U.g_ix (Or.inl (SqL.of h3)) (U.at_nat rfl h4) ?_
    walk_at "go"
    refine ⟨p, o, R, i, n, b, k + 50, rfl, L, hc, hp.le (by omega), fun v1 m1 H1 hm1 ok1 hp1 s1 => ?_⟩
    walk_at "go"
    refine ⟨p, o, R, i, n, b, k + 40, rfl, L.pot hp s1, hc, hp1.le (by omega), fun v2 m2 H2 hm2 ok2 hp2 s2 => ?_⟩
    have s02 := s1.trans s2
    have L2 := L.pot hp s02
    have ask2 := ask.pot hp s02
    have hm1 := hm1.ts (hp1.ts s2)
    walk_at "go"
    have ask2' := ask2
    obtain ⟨⟨dx, tc, tk, tp, ds, dn, gs, ce⟩, ok, hn⟩ := ask2'
    refine ⟨rfl, a, dx, tc, tk, tp, ds, dn, gs, R, n, b, v1, mkOv m1, rfl, ce, hn, hm1.ov, ?_⟩
    rw [mkOk_is ok1]
    walk_at "go"
    refine ⟨true, true, rfl, rfl, ?_⟩
    refine ⟨_, rfl, ite_no rfl ?_⟩
    walk_at "go"
    refine ⟨o, R, i, n, b, v1, v2, m1, m2, rfl, L2, hc, hm1, hm2, ok1, ok2, fun H3 s3 => ?_⟩
    walk_at "go"
    refine ⟨rfl, a, R, n, b, v1, v2, m1, m2, rfl, ask2.same s3, hm1.same s3, hm2.same s3, ok1, ok2, fun H4 s4 => ?_⟩
    have s24 := s3.trans s4
    walk_at "go"
    refine rep_bool ?_
    walk_at "go"
    refine rep_bool ?_
    walk_at "go"
    refine ite_no (ne_refl _) ?_
    walk_at "go"
    refine ⟨rfl, a, R, n, b, v1, v2, m1, m2, rfl, ask2.same s24, hm1.same s24, hm2.same s24, ok1, ok2, fun v3 H5 s5 hj => ?_⟩
    have s25 := s24.trans s5
    walk_at "go"
    refine ⟨a, R, n, b, v1, v2, m1, m2, rfl, ask2.same s25, hm1.same s25, hm2.same s25, ok1, ok2, fun v4 H6 s6 hcm => ?_⟩
    have s26 := s25.trans s6
    walk_at "go"
    refine ⟨by show 2 ≤ sizeLine; decide, fun t nt => ?_⟩
    have sT := U.same_new (o := .tup [v3, v4]) nt
    have ht : (upd H6 t (.tup [v3, v4])) t = some (.tup [v3, v4]) := upd_same
    generalize upd H6 t (.tup [v3, v4]) = H7 at sT ht ⊢
    have s27 := s26.trans sT
    obtain ⟨Z, hZ⟩ : ∃ Z, (PyData.tuple [mkD (mkJoin (ksOf R.kinds n) m1 m2), omD (mkCom (ksOf R.kinds n) m1 m2)]).shown = Z := ⟨_, rfl⟩
    have gd := pair_gd kok ok1 ok2
    walk_at "go"
    refine rep_gdZ gd (by decide) (by decide) (Dp.tup (SqT.of ht) (.cons (mk_dp (hj.same (s6.trans sT))) (.cons (om_dp (om_same sT hcm)) .nil))) hZ ?_
    walk_at "go"
    refine ⟨o, R, i, n, b, v1, v2, m1, m2, rfl, L2.same s27, hc, hm1.same s27, hm2.same s27, ok1, ok2, fun v5 H8 s8 hj2 => ?_⟩
    walk_at "go"
    refine ⟨o, R, i, n, b, v1, v2, m1, m2, rfl, L2.same (s27.trans s8), hc, hm1.same (s27.trans s8), hm2.same (s27.trans s8), ok1, ok2, fun v6 H9 s9 hcm2 => ?_⟩
    walk_at "go"
    refine ⟨by show 2 ≤ sizeLine; decide, fun t2 nt2 => ?_⟩
    have sT2 := U.same_new (o := .tup [v5, v6]) nt2
    have ht2 : (upd H9 t2 (.tup [v5, v6])) t2 = some (.tup [v5, v6]) := upd_same
    generalize upd H9 t2 (.tup [v5, v6]) = H10 at sT2 ht2 ⊢
    have s210 := s27.trans (s8.trans (s9.trans sT2))
    walk_at "go"
    refine rep_gdZ gd (by decide) (by decide) (Dp.tup (SqT.of ht2) (.cons (mk_dp (hj2.same (s9.trans sT2))) (.cons (om_dp (om_same sT2 hcm2)) .nil))) hZ ?_
    walk_at "go"
    refine ite_no (ne_refl _) ?_
    walk_at "go"
    refine ⟨by show 3 ≤ sizeLine; decide, fun f nf => ?_⟩
    walk_at "go"
    have hp10 := hp2.same s210
    have fp := pot_ne hp10 nf
    refine ⟨p, .ref f, k + 30, rfl, (hp10.new nf).le (by omega), Or.inl ⟨f, _, rfl, Or.inl (SqL.of upd_same), (by show 0 < 3; decide), (by show 3 ≤ 1000000; decide), fun H3 s3 => Or.inl (SqL.of (s3 _ _ upd_same fp)), fun j y H11 hy hp11 s11 => ?_⟩⟩
    obtain ⟨z, rfl, z0, z1⟩ := intIn_out (all_at (f := intIn (-1000000) 5) (by decide +kernel) hy)
    have s1011 := (SB.new (SB.refl p H10) nf).trans s11
    have s211 := (SB.of s210).trans s1011
    have L11 := L2.pot hp2 s211
    have L11' := L11
    obtain ⟨⟨lc', lk', lp', I⟩, _⟩ := L11'
    walk_at "go"
    refine ⟨p, o, lc', lk', lp', R, z, k + 20, rfl, I, ok.cols.four, by have := ok.k240; omega, fun c hc1 hc2 => ?_, z0, by omega, hp11.le (by omega), fun tv ws H12 htv hws hp12 s12 => ?_⟩
    · have e := ok.kinds.each c hc1 hc2
      obtain ⟨k', hk'⟩ := List.exists_mem_of_length_pos (show 0 < _ from e.2.1)
      rw [List.mem_filter] at hk'
      exact ⟨k', hk'.1, of_decide_eq_true hk'.2⟩
    have s212 := s211.trans s12
    obtain ⟨x, hx, hxv⟩ := prd_at3 hws hc
    have okx := vOk_vl hxv
    have hm1' := hm1.ts (hp2.ts s212)
    walk_at "go"
    refine U.g_ix (Or.inr (SqT.of htv)) (U.at_nat rfl hx) ?_
    walk_at "go"
    refine ⟨o, R, i, n, b, v1, x, m1, rfl, L2.pot hp2 s212, hc, hm1', ok1, okx, fun H13 s13 => ?_⟩
    walk_at "go"
    refine ⟨rfl, a, R, n, b, v1, x, m1, rfl, (ask2.pot hp2 s212).same s13, hm1'.same s13, ok1, okx, fun H14 s14 => ?_⟩
    walk_at "go"
    refine rep_bool ?_
    walk_at "go"
    refine rep_bool ?_
    walk_at "go"
    rw [eq_refl]
    exact kk _ ((hp12.same (s13.trans s14)).le (by omega)) ((s02.trans s212).trans (SB.of (s13.trans s14)))
theorem sc__law_is_least_right : FnScope ["pot", "own", "census", "at", "name", "what", "values", "due", "value", "lap"] ["pot", "own", "census", "at"] (defScope s__law_is_least_right) := ⟨rfl, rfl, rfl, by decide +kernel, rfl, by decide +kernel, by decide +kernel⟩
theorem fold_least {c : Str} {ks : List Knd} (kok : KOk c ks) {x : Str} {xs : List Str} (hin : ∀ y ∈ x :: xs, y ∈ ks.map (·.name)) {z : Str} {zs : List Str} (h : com ks x (x :: xs) = z :: zs) : (x :: xs).foldl (joinN ks) x = z := by
  obtain ⟨h1, h2⟩ := fold_join kok (x :: xs) (hin x List.mem_cons_self) hin
  obtain ⟨t, et⟩ := way_hd kok h1
  rw [et, h] at h2
  injection h2
def sp_leastright (CL CT CR : Addr) : Sp := fun vs H Q _ => ∃ (p o a : Addr) (R : Reg) (i : Nat) (n : Str) (b : Bool) (k : Nat), vs = [.ref p, .ref o, .ref a, .int i] ∧ PotAt H p (k + 100) ∧ LawX H o R ∧ AskX CL CT CR H a R n b ∧ R.cols[i]? = some (n, b) ∧ ∀ H', PotAt H' p k → SB p H H' → Q (.bl true) H'
theorem ok__law_is_least_right (T : Tx K mg) : FnG P w K mg base 5 T.a__law_is_least_right T.fd__law_is_least_right ["pot", "own", "census", "at"] (sp_leastright T.C_Line T.C_Tree T.C_Register) := by
  refine okG T.F__law_is_least_right sc__law_is_least_right (fun vs H Q E h => ?_) (fun cdv A outer s H vs Q E hr hgd h => ?_)
  · obtain ⟨p, o, a, R, i, n, b, k, rfl, _⟩ := h
    rfl
  · obtain ⟨p, o, a, R, i, n, b, k, rfl, hp, L, ask, hc, kk⟩ := h
    have hu := hu_of hr
    have hu64 := hr.units
    refine ⟨_, (pss_cons (ps_asg (pe_ix (ix_u (K := K) rfl) (pe_dget hu (pv 1) (pe_str) (fun _ _ => rfl)) (pv 3) (fun _ _ => rfl)) (u_gtup (K := K) (n := 2) rfl rfl (pgs_cons (pg_name (i := 4) sc__law_is_least_right.nd rfl (Or.inl rfl)) (pgs_cons (pg_name (i := 5) sc__law_is_least_right.nd rfl (Or.inl rfl)) pgs_nil))))
        (pss_cons (ps_set (i := 6) sc__law_is_least_right.nd rfl (Or.inl rfl) (pe_callTy (call_uTuple (K := K) rfl) (by rfl) T.n_tuple (by decide +kernel) (pa_cons (pe_lc rfl sc__law_is_least_right.nd (pi_range1 (by rfl) T.n_range (pa_cons (pe_op (op_uAdd (K := K) rfl) (pe_int) (pe_call (ok__law_take T) (hr.mono (by decide)) rfl T.m__law_take T.F__law_take.kp (b__law_take T) .nil pass0 (pa_cons (pv 0) (pa_cons (pe_int) pa_nil)))) pa_nil)) (blkOk_by (own := [("lap", 9)]) (N := ["pot", "own", "census", "at", "name", "what", "values", "due", "value", "lap"]) (sc := defScope s__law_is_least_right) (by decide +kernel)) (fun _ _ _ _ _ => (pg_name (i := 9) sc__law_is_least_right.nd rfl (Or.inl rfl))) (fun _ _ _ _ _ => pts_nil) (fun _ _ _ _ _ => (pe_ix (ix_u (K := K) rfl) (pe_call (ok__law_values T) (hr.mono (by decide)) rfl T.m__law_values T.F__law_values.kp (b__law_values T) .nil pass0 (pa_cons (pv 0) (pa_cons (pv 1) (pa_cons (pe_call (ok__law_of T) (hr.mono (by decide)) rfl T.m__law_of T.F__law_of.kp (b__law_of T) .nil pass0 (pa_cons (pv 0) (pa_cons (pe_lst (pa_cons (pe_int) (pa_cons (pe_un op_uNeg (pe_int)) (pa_cons (pe_int) pa_nil)))) pa_nil))) pa_nil)))) (pv 3) (fun _ _ => rfl)))) pa_nil)))
        (pss_cons (ps_set (i := 7) sc__law_is_least_right.nd rfl (Or.inl rfl) (pe_ifExp (pt_cmpR (op_uEq (K := K) rfl hu64) (pv 5) (pe_str) (nomark _)) (pe_ix (ix_u (K := K) rfl) (pv 6) (pe_int) (fun _ _ => rfl)) (pe_tup (pa_cons (pe_callTy call_uInt (by rfl) T.n_int (by decide +kernel) (pa_cons (pe_callB (MT.cr_minT (K := K) rfl rfl hu64) (by rfl) T.n_min (by decide +kernel) (pa_cons (pv 6) pa_nil)) pa_nil)) (pa_cons (pe_callTy call_uInt (by rfl) T.n_int (by decide +kernel) (pa_cons (pe_callB (MT.cr_maxT (K := K) rfl rfl hu64) (by rfl) T.n_max (by decide +kernel) (pa_cons (pv 6) pa_nil)) pa_nil)) pa_nil)))))
        (pss_cons (ps_for PassesOwn.never rfl (pi_or (u_tup (K := K) rfl (pe_ifExp (pt_cmpR (op_uEq (K := K) rfl hu64) (pv 5) pe_str (nomark _)) (pv 6) (pe_lst pa_nil))) (u_list (K := K) rfl (pe_ifExp (pt_cmpR (op_uEq (K := K) rfl hu64) (pv 5) pe_str (nomark _)) (pv 6) (pe_lst pa_nil)))) (pg_name (i := 8) sc__law_is_least_right.nd rfl (Or.inl rfl)) (pss_one (ps_set (i := 7) sc__law_is_least_right.nd rfl (Or.inl rfl) (pe_call (ok__law_joined T) (hr.mono (by decide)) rfl T.m__law_joined T.F__law_joined.kp (b__law_joined T) .nil pass0 (pa_cons (pv 1) (pa_cons (pv 3) (pa_cons (pv 7) (pa_cons (pv 8) pa_nil))))))))
        (pss_one (ps_ret (pe_cmpR (op_uEq (K := K) rfl hu64) (pe_callB (QD.call_rep (K := K) rfl hgd hu64) (by rfl) T.n_repr (by decide +kernel) (pa_cons (KW.pe_callK0 (ok_least_mark T) (hr.mono (by decide)) (by rfl) T.m_least_mark T.F_least_mark.kp (KW.kb0 (ks := ["values", "column", "census"]) T.F_least_mark [2, 1, 0] (fun _ _ _ _ _ _ us hl => match us, hl with | [_, _, _], _ => rfl)) pass0 (pk_cons (pv 6) (pk_cons (pv 4) (pk_cons (pv 2) pk_nil)))) pa_nil)) (pe_callB (QD.call_rep (K := K) rfl hgd hu64) (by rfl) T.n_repr (by decide +kernel) (pa_cons (pv 7) pa_nil)) (nomark _)))))))), ?_⟩
    obtain ⟨kvs, lc, cv, q, h1, h2, h3, h4, h5⟩ := L.col hc
    have kok := kok_any R L.ok hc
    have ok := L.ok
    walk_at "st"
    walk_at "go"
    refine e_dgetS h1 h2 ?_
    walk_at "go"
    refine U.g_ix (Or.inl (SqL.of h3)) (U.at_nat rfl h4) ?_
    walk_at "go"
    refine ⟨p, 4, k + 90, rfl, by decide, by decide, hp.le (by omega), fun r H1 r0 r1 hp1 s1 => ?_⟩
    walk_at "go"
    refine e_rng (by omega) (by omega) ?_
    obtain ⟨m, em⟩ : ∃ m : Nat, (1 + r).toNat = m ∧ 1 ≤ m ∧ m ≤ 4 := ⟨_, rfl, by omega, by omega⟩
    rw [em.1]
    obtain ⟨m1, m4⟩ := em.2
    refine lcI_by walk_range (by omega) fun Ea nE => ⟨fun j acc H' => (∀ x ∈ acc, vlOk (ksOf R.kinds n) b x) ∧ acc.length = j ∧ PotAt H' p (k + 90 - 10 * j) ∧ SB p H1 H', ⟨(fun _ h => by cases h), rfl, (hp1.new nE).le (by omega), SB.of (U.same_new nE)⟩, fun _ _ _ _ _ => trivial, ?turn, fun acc H2 hE ⟨av, al, hp2, s2⟩ => ?rest⟩
    case turn =>
      rintro j y acc H' _ A B hj hacc ⟨av, al, hpj, sj⟩ ⟨rfl, rfl⟩ kA kB
      have Ep : Ea ≠ p := pot_ne hp1 nE
      walk_at "go"
      refine ⟨rfl, ?_⟩
      walk_at "go"
      refine ⟨by show 3 ≤ sizeLine; decide, fun f nf => ?_⟩
      walk_at "go"
      have fp := pot_ne hpj nf
      refine ⟨p, .ref f, k + 90 - 10 * j - 1, rfl, (hpj.new nf).le (by omega), Or.inl ⟨f, _, rfl, Or.inl (SqL.of upd_same), (by show 0 < 3; decide), (by show 3 ≤ 1000000; decide), fun H3 s3 => Or.inl (SqL.of (s3 _ _ upd_same fp)), fun j2 y2 H3 hy hp3 s3 => ?_⟩⟩
      obtain ⟨z, rfl, z0, z1⟩ := intIn_out (all_at (f := intIn (-1000000) 5) (by decide +kernel) hy)
      have sj3 := (SB.new (SB.refl p _) nf).trans s3
      have L3 := ((L.pot hp s1).pot hp1 sj).pot hpj sj3
      obtain ⟨⟨lc', lk', lp', I⟩, _⟩ := L3
      walk_at "go"
      refine ⟨p, o, lc', lk', lp', R, z, k + 90 - 10 * (j + 1), rfl, I, ok.cols.four, by have := ok.k240; omega, fun c hc1 hc2 => ?_, z0, by omega, hp3.le (by omega), fun tv ws H4 htv hws hp4 s4 => ?_⟩
      · have e := ok.kinds.each c hc1 hc2
        obtain ⟨k', hk'⟩ := List.exists_mem_of_length_pos (show 0 < _ from e.2.1)
        rw [List.mem_filter] at hk'
        exact ⟨k', hk'.1, of_decide_eq_true hk'.2⟩
      obtain ⟨x, hx, hxv⟩ := prd_at3 hws hc
      walk_at "go"
      refine U.g_ix (Or.inr (SqT.of htv)) (U.at_nat rfl hx) ?_
      refine kA _ _ ((sj3.trans s4) _ _ hacc Ep) ⟨fun u hu => ?_, by rw [List.length_append, al]; rfl, hp4.put (Ne.symm Ep), ((sj.trans sj3).trans s4).mut nE⟩
      rcases List.mem_append.mp hu with h | h
      · exact av u h
      · rw [List.mem_singleton.mp h]; exact vOk_vl hxv
    have Ep : Ea ≠ p := pot_ne hp1 nE
    walk_at "go"
    refine U.g_tupL (SqL.of hE) fun tv ntv => ?_
    have sT := U.same_new (o := .tup acc) ntv
    have htv : (upd H2 tv (.tup acc)) tv = some (.tup acc) := upd_same
    generalize upd H2 tv (.tup acc) = H3 at sT htv ⊢
    have s03 := (s1.trans s2).trans (SB.of sT)
    have hp3 := hp2.same sT
    have L3 := L.pot hp s03
    have ask3 := ask.pot hp s03
    walk_at "go"
    rw [wd_kind]
    cases b with
    | true =>
      obtain ⟨xs, rfl, hin⟩ := vl_str av
      cases xs with
      | nil => simp at al; omega
      | cons x xs =>
        refine U.g_T ?_
        walk_at "go"
        refine U.g_ix (v := .str x) (Or.inr (SqT.of htv)) (atI_nat (j := 0) rfl) ?_
        walk_at "go"
        refine Or.inl ?_
        walk_at "go"
        rw [wd_kind]
        refine U.g_T ?_
        walk_at "go"
        refine e_tup (SqT.of htv) ?_
        refine forI_by walk_tup (fun j σ' H' => ∃ v8 : Option V, σ' = [some (.ref p), some (.ref o), some (.ref a), some (.int (i : Int)), some (.str n), some (.str (wordOf true)), some (.ref tv), some (.str (((x :: xs).take j).foldl (joinN (ksOf R.kinds n)) x)), v8, none] ∧ Same H3 H') ⟨none, rfl, Same.refl _⟩ (fun j σ' H' _ ⟨_, _, s'⟩ => SqT.of (s' _ _ htv)) ?ts ?td
        case ts =>
          rintro j y σ' _ H' hj ⟨v8, rfl, s'⟩ ⟨rfl, ey⟩
          rw [List.getElem?_map] at ey
          cases ex : (x :: xs)[j]? with
          | none => rw [ex] at ey; cases ey
          | some z =>
            rw [ex] at ey
            cases ey
            walk_at "go"
            refine ⟨o, R, i, n, true, _, _, .kd _, .kd z, rfl, L3.same s', hc, rfl, rfl, ⟨rfl, (fold_join kok _ (hin x List.mem_cons_self) fun y hy => hin y (List.mem_of_mem_take hy)).1⟩, ⟨rfl, hin z (List.mem_of_getElem? ex)⟩, fun v H4 s4 hm => ?_⟩
            have hm : v = .str (joinN (ksOf R.kinds n) (((x :: xs).take j).foldl (joinN (ksOf R.kinds n)) x) z) := hm
            subst hm
            walk_at "go"
            exact ⟨_, by rw [List.take_succ, ex, List.foldl_append]; rfl, s'.trans s4⟩
        case td =>
          rintro σ' H4 ⟨v8, rfl, s4⟩
          rw [List.length_map, List.take_of_length_le (Nat.le_refl _)]
          walk_at "go"
          obtain ⟨z0, hz0⟩ : ∃ z, (x :: xs).foldl (joinN (ksOf R.kinds n)) x = z := ⟨_, rfl⟩
          have hz1 := (fold_join kok _ (hin x List.mem_cons_self) hin).1
          rw [hz0] at hz1 ⊢
          refine ⟨rfl, a, tv, R, n, true, _, rfl, ask3.same s4, s4 _ _ htv, (by rw [List.length_map]; exact Nat.succ_pos _), (by omega), av, fun v' m' H5 s5 hm' hl => ?_⟩
          have um : m' = .kd z0 := by
            generalize hA : (x :: xs).map V.str = A at hl
            cases hl with
            | @kd x' z xs' zs h =>
              have e : x :: xs = x' :: xs' := by
                have := congrArg (List.map fun v : V => match v with | .str s => s | _ => "") hA
                simpa [List.map_map, Function.comp_def] using this
              injection e with e1 e2
              subst e1 e2
              rw [← hz0, fold_least kok hin h]
            | @sp ns lo hi h1 h2 h3 h4 =>
              cases ns with
              | nil => cases h1
              | cons => cases hA
          subst um
          obtain ⟨Z, hZ⟩ : ∃ Z, (mkD (.kd z0)).shown = Z := ⟨_, rfl⟩
          walk_at "go"
          refine rep_gdZ (mk_gd kok (m := .kd z0) hz1) (by decide) (by decide) (mk_dp hm') hZ ?_
          walk_at "go"
          refine rep_gdZ (mk_gd kok (m := .kd z0) hz1) (by decide) (by decide) (.str z0) hZ ?_
          walk_at "go"
          rw [eq_refl]
          exact kk _ ((hp3.same (s4.trans s5)).le (by omega)) (s03.trans (SB.of (s4.trans s5)))
    | false =>
      obtain ⟨ns, rfl, hin⟩ := vl_int av
      rw [List.length_map] at al
      refine U.g_F ?_
      walk_at "go"
      refine MT.g_minT (SqT.of htv) (by omega) fun lo l1 l2 => ?_
      walk_at "go"
      refine MT.g_maxT (SqT.of htv) (by omega) fun hi g1 g2 => ?_
      walk_at "go"
      refine ⟨by show 2 ≤ sizeLine; decide, fun d nd => ?_⟩
      have sD := U.same_new (o := .tup [.int lo, .int hi]) nd
      have hd : (upd H3 d (.tup [.int lo, .int hi])) d = some (.tup [.int lo, .int hi]) := upd_same
      generalize upd H3 d (.tup [.int lo, .int hi]) = H4 at sD hd ⊢
      walk_at "go"
      refine Or.inr ?_
      walk_at "go"
      rw [wd_kind]
      refine U.g_F ?_
      walk_at "go"
      refine ⟨by show 0 ≤ sizeLine; decide, fun e ne => ?_⟩
      have sE := U.same_new (o := .lst []) ne
      have he : (upd H4 e (.lst [])) e = some (.lst []) := upd_same
      generalize upd H4 e (.lst []) = H5 at sE he ⊢
      refine e_list (SqL.of he) ?_
      refine forI_by walk_list (fun j σ' H' => ∃ v8 : Option V, σ' = [some (.ref p), some (.ref o), some (.ref a), some (.int (i : Int)), some (.str n), some (.str (wordOf false)), some (.ref tv), some (.ref d), v8, none] ∧ H' = H5) ⟨none, rfl, rfl⟩ (fun j σ' H' _ ⟨_, _, s'⟩ => by rw [s']; exact SqL.of he) ?us ?ud
      case us =>
        rintro j y σ' _ H' hj _ _
        exact absurd hj (Nat.not_lt_zero _)
      case ud =>
        rintro σ' H' ⟨v8, rfl, rfl⟩
        walk_at "go"
        have b1 := hin lo l1
        have b2 := hin hi g1
        refine ⟨rfl, a, tv, R, n, false, _, rfl, ask3.same (sD.trans sE), (sD.trans sE) _ _ htv, (by rw [List.length_map]; omega), (by rw [List.length_map]; omega), av, fun v' m' H6 s6 hm' hl => ?_⟩
        have um : m' = .sp lo hi := by
          generalize hA : ns.map V.int = A at hl
          cases hl with
          | @kd x' z xs' zs h =>
            cases ns with
            | nil => cases l1
            | cons => cases hA
          | @sp ns' lo' hi' q1 q2 q3 q4 =>
            have e : ns = ns' := by
              have := congrArg (List.map fun v : V => match v with | .int s => s | _ => 0) hA
              simpa [List.map_map, Function.comp_def] using this
            subst e
            have e1 : lo' = lo := Int.le_antisymm (q2 lo l1) (l2 lo' q1)
            have e2 : hi' = hi := Int.le_antisymm (g2 hi' q3) (q4 hi g1)
            rw [e1, e2]
        subst um
        obtain ⟨Z, hZ⟩ : ∃ Z, (mkD (.sp lo hi)).shown = Z := ⟨_, rfl⟩
        have sm : mkS (ksOf R.kinds n) (.sp lo hi) := ⟨b1.1, b1.2, b2.1, b2.2⟩
        walk_at "go"
        refine rep_gdZ (mk_gd kok sm) (by decide) (by decide) (mk_dp hm') hZ ?_
        walk_at "go"
        refine rep_gdZ (mk_gd kok sm) (by decide) (by decide) (mk_dp (m := .sp lo hi) ⟨d, rfl, (sE.trans s6) _ _ hd⟩) hZ ?_
        walk_at "go"
        rw [eq_refl]
        exact kk _ ((hp3.same (sD.trans (sE.trans s6))).le (by omega)) (s03.trans (SB.of (sD.trans (sE.trans s6))))
end
end Toy

namespace M
open PySem L2 U
theorem g_popAt {H : Hp} {Q : VK} {l : Addr} {xs : List V} {i : Int} {k : Nat} {y : V} (h : H l = some (.lst xs)) (e : i = (k : Int)) (hk : xs[k]? = some y) (hl : xs.length ≤ 1000000) (q : Q y (upd H l (.lst (xs.eraseIdx k)))) : rPopAt (.ref l) [.int i] H Q := by
  have lt : k < xs.length := (List.getElem?_eq_some_iff.mp hk).1
  refine ⟨l, xs, i, k, y, rfl, rfl, h, by omega, by omega, ?_, hk, q⟩
  subst e
  unfold seqIndex?
  simp
  omega
theorem perm_erase {α : Type} {xs : List α} {k : Nat} {y : α} (h : xs[k]? = some y) : (y :: xs.eraseIdx k).Perm xs := by
  induction xs generalizing k with
  | nil => simp at h
  | cons a r ih =>
    cases k with
    | zero => simp at h; subst h; exact List.Perm.refl _
    | succ k =>
      have := ih (k := k) (by simpa using h)
      rw [List.eraseIdx_cons_succ]
      exact (List.Perm.swap a y _).trans (this.cons a)
end M
namespace Toy
open PySem L2 U M
section
variable {P : Program} {w : World} {K : PySem.W.Frag} {mg : Str → Option Value} {base : Heap}
theorem sc__law_some : FnScope ["pot", "pool", "amount", "left", "found", "lap"] ["pot", "pool", "amount"] (defScope s__law_some) := ⟨rfl, rfl, rfl, by decide +kernel, rfl, by decide +kernel, by decide +kernel⟩
def sp_some (K : PySem.W.Frag) : Sp := fun vs H Q _ => ∃ (p l : Addr) (xs : List V) (k n : Nat), vs = [.ref p, .ref l, .int k] ∧ SqL K H l xs ∧ k ≤ xs.length ∧ xs.length ≤ 1000 ∧ PotAt H p (n + k) ∧ ∀ (q : Addr) (ys rest : List V) (H' : Hp), H q = none → H' q = some (.lst ys) → ys.length = k → (ys ++ rest).Perm xs → PotAt H' p n → SB p H H' → Q (.ref q) H'
theorem ok__law_some (T : Tx K mg) : FnOk P w K mg base CX0 2 T.a__law_some T.fd__law_some ["pot", "pool", "amount"] (sp_some K) := by
  refine T.F__law_some.ok sc__law_some (fun vs H Q E h => ?_) (fun cdv A outer s H vs Q E hr h => ?_)
  · obtain ⟨p, l, xs, k, n, rfl, _⟩ := h
    rfl
  · obtain ⟨p, l, xs, k, n, rfl, hl, hk, hx, hp, kk⟩ := h
    have hu := hu_of hr
    have hu64 := hr.units
    refine ⟨_, (pss_cons (ps_par rfl sc__law_some.nd (i := 3) (j := 4) rfl rfl (by decide) rfl rfl (pa_cons (pe_callTy (call_uList (K := K) rfl) (by rfl) T.n_list (by decide +kernel) (pa_cons (pv 1) pa_nil)) (pa_cons (pe_lst pa_nil) pa_nil)) (by rfl))
        (pss_cons (ps_for PassesOwn.never rfl (pi_range1 (by rfl) T.n_range (pa_cons (pv 2) pa_nil)) (pg_name (i := 5) sc__law_some.nd rfl (Or.inl rfl)) (pss_one (ps_expr (pe_bm PySem.F.plainAttrs_list PySem.F.slot_list_append PySem.F.type_list_append mt_append (pv 4) (pa_cons (pe_bm PySem.F.plainAttrs_list PySem.F.slot_list_pop PySem.F.type_list_pop mt_popAt (pv 3) (pa_cons (pe_call (ok__law_take T) (hr.mono (by decide)) rfl T.m__law_take T.F__law_take.kp (b__law_take T) .nil pass0 (pa_cons (pv 0) (pa_cons (pe_callB (call_uLen (K := K) rfl) (by rfl) T.n_len (by decide +kernel) (pa_cons (pv 3) pa_nil)) pa_nil))) pa_nil)) pa_nil)))))
        (pss_one (ps_ret (pv 4))))), ?_⟩
    walk_at "st"
    walk_at "go"
    refine U.g_lstC (Or.inl hl) fun a na => ?_
    walk_at "go"
    refine ⟨by decide, fun f nf => ?_⟩
    have na' := U.nb1 nf
    have fa : f ≠ a := U.nb2 nf
    have pa : a ≠ p := pot_ne hp na
    have pf : f ≠ p := pot_ne (hp.new (o := .lst xs) na) nf
    walk_at "go"
    refine e_rng (by omega) (by omega) ?_
    rw [Int.toNat_natCast]
    refine forI_by walk_range (fun i σ' H' => ∃ (v5 : Option V) (ys rest : List V), σ' = [some (.ref p), some (.ref l), some (.int (k : Int)), some (.ref a), some (.ref f), v5] ∧ H' a = some (.lst rest) ∧ H' f = some (.lst ys) ∧ ys.length = i ∧ (ys ++ rest).Perm xs ∧ PotAt H' p (n + k - i) ∧ SB p H H') ⟨none, [], xs, rfl, (upd_ne (Ne.symm fa)).trans upd_same, upd_same, rfl, List.Perm.refl _, ((hp.new na).new nf).le (by omega), ((SB.refl p H).new na).new nf⟩ (fun _ _ _ _ _ => trivial) ?ts ?td
    case td =>
      rintro σ' H' ⟨v5, ys, rest, rfl, ha, hf, yl, pm, hp', s'⟩
      walk_at "go"
      exact kk f ys rest H' na' hf yl pm (hp'.le (by omega)) s'
    case ts =>
      rintro i y σ' _ H' hi ⟨v5, ys, rest, rfl, ha, hf, yl, pm, hp', s'⟩ ⟨rfl, rfl⟩
      have lr : ys.length + rest.length = xs.length := by rw [← List.length_append]; exact pm.length_eq
      walk_at "go"
      refine U.g_lenL (Or.inl (SqL.of ha)) ?_
      walk_at "go"
      refine ⟨p, rest.length, n + k - (i + 1), rfl, by omega, by omega, hp'.le (by omega), fun r H2 r0 r1 hp2 s2 => ?_⟩
      have ha2 := s2 _ _ ha pa
      have hf2 := s2 _ _ hf pf
      have hj : r.toNat < rest.length := by omega
      walk_at "go"
      refine g_popAt ha2 (show r = ((r.toNat : Nat) : Int) by omega) (List.getElem?_eq_getElem hj) (by omega) ?_
      walk_at "go"
      have hf3 : (upd H2 a (.lst (rest.eraseIdx r.toNat))) f = some (.lst ys) := (upd_ne fa).trans hf2
      refine U.g_appL hf3 (by omega) ?_
      refine ⟨_, ys ++ [rest[r.toNat]], rest.eraseIdx r.toNat, rfl, (upd_ne (Ne.symm fa)).trans upd_same, upd_same, by rw [List.length_append, yl]; rfl, ?_, ((hp2.put (Ne.symm pa)).put (Ne.symm pf)), ((s'.trans s2).mut na).mut na'⟩
      refine List.Perm.trans ?_ pm
      rw [List.append_assoc]
      exact List.Perm.append_left ys (perm_erase (List.getElem?_eq_getElem hj))
end
end Toy

namespace M
open PySem L2 U TL
/-! ### odd values -/
inductive Od where
  | non
  | zero
  | st (s : Str)
  | tu (xs : List V)
  | ls
  | di
def OdAt (H : Hp) (p : Addr) (y : V) : Od → Prop
  | .non => y = .non
  | .zero => y = .int 0
  | .st s => y = .str s
  | .tu xs => ∃ a, a ≠ p ∧ y = .ref a ∧ H a = some (.tup xs)
  | .ls => ∃ a, a ≠ p ∧ y = .ref a ∧ H a = some (.lst [.int 1, .int 2])
  | .di => ∃ a, a ≠ p ∧ y = .ref a ∧ H a = some (.dK [])
theorem OdAt.mono {p : Addr} {H H' : Hp} (s : SB p H H') {y : V} : ∀ {o : Od}, OdAt H p y o → OdAt H' p y o
  | .non, h => h
  | .zero, h => h
  | .st _, h => h
  | .tu _, ⟨a, n, e, h⟩ => ⟨a, n, e, s _ _ h n⟩
  | .ls, ⟨a, n, e, h⟩ => ⟨a, n, e, s _ _ h n⟩
  | .di, ⟨a, n, e, h⟩ => ⟨a, n, e, s _ _ h n⟩
def odOv : Od → Ov
  | .st s => .str s
  | .tu xs => .tup xs
  | _ => .oth
def one1 : PyData := .tuple [.int 1, .int 1]
def odOk : Od → Bool
  | .tu xs => xs.all flat2 && (xs.all plainV && ((PyData.eqv (.tuple (xs.map vD)) one1 == lineMk xs) && SeqAt.shaped (.tuple (xs.map vD))))
  | .st s => SeqAt.shaped (.str s)
  | _ => true
theorem od_ov {K : PySem.W.Frag} {H : Hp} {p : Addr} {y : V} : ∀ {o : Od}, odOk o = true → OdAt H p y o → OvAt K H y (odOv o)
  | .non, _, h => by have h : y = .non := h; rw [h]; exact ⟨"NoneType", ty_non, by decide +kernel, by decide +kernel⟩
  | .zero, _, h => by have h : y = .int 0 := h; rw [h]; exact ⟨"int", ty_int, by decide +kernel, by decide +kernel⟩
  | .st s, _, h => h
  | .tu xs, k, ⟨a, n, e, h⟩ => by
    have k : (xs.all flat2 && (xs.all plainV && _)) = true := k
    rw [Bool.and_eq_true, Bool.and_eq_true] at k
    exact ⟨k.2.1, a, e, h⟩
  | .ls, _, ⟨a, n, e, h⟩ => by rw [e]; exact ty_lst2 h
  | .di, _, ⟨a, n, e, h⟩ => by rw [e]; exact ⟨"dict", .base (.dK h), by decide +kernel, by decide +kernel⟩
theorem one_dp {K : PySem.W.Frag} {H : Hp} {t : Addr} (h : H t = some (.tup [.int 1, .int 1])) : Dp K H (.ref t) one1 := .tup (SqT.of h) (.cons (.int 1) (.cons (.int 1) .nil))
theorem one_sh : SeqAt.shaped one1 = true := by decide +kernel
theorem od_eq {K : PySem.W.Frag} {H : Hp} {p t : Addr} {y : V} {Q : VK} (ht : H t = some (.tup [.int 1, .int 1])) : ∀ {o : Od}, odOk o = true → OdAt H p y o → Q (.bl (isMrk [] false (odOv o))) H → (uEq K false y (.ref t) H Q ∨ EM.rDT y (.ref t) H Q)
  | .non, _, h, q => by
    have h : y = .non := h
    rw [h]
    exact .inl (.inr ⟨.none, one1, Dp.non, one_dp ht, rfl, one_sh, q⟩)
  | .zero, _, h, q => by
    have h : y = .int 0 := h
    rw [h]
    exact .inl (.inr ⟨.int 0, one1, Dp.int 0, one_dp ht, rfl, one_sh, q⟩)
  | .st s, k, h, q => by
    have h : y = .str s := h
    rw [h]
    exact .inl (.inr ⟨.str s, one1, Dp.str s, one_dp ht, k, one_sh, q⟩)
  | .tu xs, k, ⟨a, n, e, h⟩, q => by
    have k : (xs.all flat2 && (xs.all plainV && ((PyData.eqv (.tuple (xs.map vD)) one1 == lineMk xs) && SeqAt.shaped (.tuple (xs.map vD))))) = true := k
    rw [Bool.and_eq_true, Bool.and_eq_true, Bool.and_eq_true, beq_iff_eq] at k
    rw [e]
    refine .inl (.inr ⟨.tuple (xs.map vD), one1, Dp.tup (SqT.of h) (vDs_dp k.1), one_dp ht, k.2.2.2, one_sh, ?_⟩)
    rw [if_neg Bool.false_ne_true, k.2.2.1]
    exact q
  | .ls, _, ⟨a, n, e, h⟩, q => by
    rw [e]
    exact .inl (.inr ⟨.list [.int 1, .int 2], one1, Dp.lst (SqL.of h) (.cons (.int 1) (.cons (.int 2) .nil)), one_dp ht, by decide +kernel, one_sh, q⟩)
  | .di, _, ⟨a, n, e, h⟩, q => by
    rw [e]
    exact .inr ⟨a, t, _, _, rfl, rfl, h, ht, q⟩
theorem in_none {y : V} (h : y = .non ∨ y = .int 0) (l : List Str) : inV y (l.map V.str) = false := by
  unfold inV
  rw [List.any_eq_false]
  intro v hv
  obtain ⟨x, _, rfl⟩ := List.mem_map.mp hv
  rcases h with rfl | rfl <;> exact Bool.false_ne_true
theorem od_in {K : PySem.W.Frag} {H : Hp} {p l : Addr} {y : V} {Q : VK} {ks : List Knd} (hl : H l = some (.lst ((ks.map (·.name)).map V.str))) : ∀ {o : Od}, OdAt H p y o → Q (.bl (isMrk ks true (odOv o))) H → (rIn K false y (.ref l) H Q ∨ EM.rInO K y (.ref l) H Q)
  | .non, h, q => by
    have h : y = .non := h
    refine .inl ⟨l, _, rfl, .inl (SqL.of hl), by rw [h]; rfl, strs_flat _, ?_⟩
    rw [if_neg Bool.false_ne_true, in_none (.inl h)]
    exact q
  | .zero, h, q => by
    have h : y = .int 0 := h
    refine .inl ⟨l, _, rfl, .inl (SqL.of hl), by rw [h]; rfl, strs_flat _, ?_⟩
    rw [if_neg Bool.false_ne_true, in_none (.inr h)]
    exact q
  | .st s, h, q => by
    have h : y = .str s := h
    subst h
    refine .inl ⟨l, _, rfl, .inl (SqL.of hl), rfl, strs_flat _, ?_⟩
    rw [if_neg Bool.false_ne_true, in_strs]
    have q : Q (.bl (true && decide (s ∈ ks.map (·.name)))) H := q
    rw [Bool.true_and] at q
    exact q
  | .tu xs, ⟨a, n, e, h⟩, q => .inr ⟨a, l, _, e, .inr (.inl ⟨_, h⟩), rfl, .inl (SqL.of hl), by
    have q : Q (.bl (!true && lineMk xs)) H := q
    exact q⟩
  | .ls, ⟨a, n, e, h⟩, q => .inr ⟨a, l, _, e, .inl ⟨_, h⟩, rfl, .inl (SqL.of hl), q⟩
  | .di, ⟨a, n, e, h⟩, q => .inr ⟨a, l, _, e, .inr (.inr ⟨_, h⟩), rfl, .inl (SqL.of hl), q⟩
end M
namespace Toy
open PySem L2 U M TL ZV KY SU QD G KW
section
variable {P : Program} {w : World} {K : PySem.W.Frag} {mg : Str → Option Value} {base : Heap}
theorem sc__law_are_odd_told : FnScope ["pot", "own", "census", "at", "name", "what", "odd", "value", "fine"] ["pot", "own", "census", "at"] (defScope s__law_are_odd_told) := ⟨rfl, rfl, rfl, by decide +kernel, rfl, by decide +kernel, by decide +kernel⟩
theorem ok__law_are_odd_told (T : Tx K mg) : FnG P w K mg base 6 T.a__law_are_odd_told T.fd__law_are_odd_told ["pot", "own", "census", "at"] (sp_leastright T.C_Line T.C_Tree T.C_Register) := by
  refine okG T.F__law_are_odd_told sc__law_are_odd_told (fun vs H Q E h => ?_) (fun cdv A outer s H vs Q E hr hgd h => ?_)
  · obtain ⟨p, o, a, R, i, n, b, k, rfl, _⟩ := h
    rfl
  · obtain ⟨p, o, a, R, i, n, b, k, rfl, hp, L, ask, hc, kk⟩ := h
    have hu := hu_of hr
    have hu64 := hr.units
    refine ⟨_, (pss_cons (ps_asg (pe_ix (ix_u (K := K) rfl) (pe_dget hu (pv 1) (pe_str) (fun _ _ => rfl)) (pv 3) (fun _ _ => rfl)) (u_gtup (K := K) (n := 2) rfl rfl (pgs_cons (pg_name (i := 4) sc__law_are_odd_told.nd rfl (Or.inl rfl)) (pgs_cons (pg_name (i := 5) sc__law_are_odd_told.nd rfl (Or.inl rfl)) pgs_nil))))
        (pss_cons (ps_set (i := 6) sc__law_are_odd_told.nd rfl (Or.inl rfl) (pe_lst (pa_cons (pe_non) (pa_cons (pe_int) (pa_cons (pe_str) (pa_cons (pe_str) (pa_cons (pe_str) (pa_cons (pe_tup pa_nil) (pa_cons (pe_tup (pa_cons (pe_int) pa_nil)) (pa_cons (pe_tup (pa_cons (pe_int) (pa_cons (pe_int) pa_nil))) (pa_cons (pe_tup (pa_cons (pe_int) (pa_cons (pe_int) pa_nil))) (pa_cons (pe_lst (pa_cons (pe_int) (pa_cons (pe_int) pa_nil))) (pa_cons (pe_tup (pa_cons (pe_int) (pa_cons (pe_int) (pa_cons (pe_int) pa_nil)))) (pa_cons (pe_tup (pa_cons (pe_bl) (pa_cons (pe_int) pa_nil))) (pa_cons (pe_tup (pa_cons (pe_int) (pa_cons (pe_op (op_uAdd (K := K) rfl) (pe_op op_uPow (pe_int) (pe_int)) (pe_int)) pa_nil))) (pa_cons (pe_dnewK) pa_nil))))))))))))))))
        (pss_cons (ps_for PassesOwn.never rfl (u_list (K := K) rfl (pe_call (ok__law_some T) (hr.mono (by decide)) rfl T.m__law_some T.F__law_some.kp (b__law_some T) .nil pass0 (pa_cons (pv 0) (pa_cons (pv 6) (pa_cons (pe_int) pa_nil))))) (pg_name (i := 7) sc__law_are_odd_told.nd rfl (Or.inl rfl)) (pss_cons (ps_set (i := 8) sc__law_are_odd_told.nd rfl (Or.inl rfl) (pe_ifExp (pt_cmpR (op_uEq (K := K) rfl hu64) (pv 5) (pe_str) (nomark _)) (pe_cmpR (OpR.or (op_uEq (K := K) rfl hu64) (EM.op_eqDT hu64)) (pv 7) (pe_tup (pa_cons (pe_int) (pa_cons (pe_int) pa_nil))) (nomark _)) (pe_cmpR (OpR.or (op_uIn (K := K) rfl) (EM.op_inO (K := K) rfl hu64)) (pv 7) (pe_call (ok__law_kind_names T) (hr.mono (by decide)) rfl T.m__law_kind_names T.F__law_kind_names.kp (b__law_kind_names T) .nil pass0 (pa_cons (pv 1) (pa_cons (pv 4) pa_nil))) rfl)))
        (pss_one (ps_if (pt_cmpR (op_uNe (K := K) rfl hu64) (pe_callB (QD.call_rep (K := K) rfl hgd hu64) (by rfl) T.n_repr (by decide +kernel) (pa_cons (pe_call (ok_is_mark T) (hr.mono (by decide)) rfl T.m_is_mark T.F_is_mark.kp (b_is_mark T) .nil pass0 (pa_cons (pv 2) (pa_cons (pv 4) (pa_cons (pv 7) pa_nil)))) pa_nil)) (pe_callB (QD.call_rep (K := K) rfl hgd hu64) (by rfl) T.n_repr (by decide +kernel) (pa_cons (pv 8) pa_nil)) (nomark _)) (pss_one (ps_ret (pe_bl))) pss_nil))))
        (pss_one (ps_ret (pe_bl)))))), ?_⟩
    obtain ⟨kvs, lc, cv, q, h1, h2, h3, h4, h5⟩ := L.col hc
    have kok := kok_any R L.ok hc
    have ok := L.ok
    walk_at "st"
    walk_at "go"
    refine e_dgetS h1 h2 ?_
    walk_at "go"
    refine U.g_ix (Or.inl (SqL.of h3)) (U.at_nat rfl h4) ?_
    walk_at "go"
    refine ⟨Nat.le_of_ble_eq_true rfl, fun a1 na1 => ?_⟩
    generalize qn1 : upd H a1 (.tup []) = N1
    have sn1 : Same H N1 := qn1 ▸ U.same_new na1
    have e1 : N1 a1 = some (.tup []) := qn1 ▸ upd_same
    clear qn1
    have n1 : a1 ≠ p := pot_ne hp na1
    walk_at "go"
    refine ⟨Nat.le_of_ble_eq_true rfl, fun a2 na2 => ?_⟩
    generalize qn2 : upd N1 a2 (.tup [.int 1]) = N2
    have sn2 : Same N1 N2 := qn2 ▸ U.same_new na2
    have e2 : N2 a2 = some (.tup [.int 1]) := qn2 ▸ upd_same
    clear qn2
    have n2 : a2 ≠ p := pot_ne (hp.same sn1) na2
    have sx2 : Same H N2 := sn1.trans sn2
    walk_at "go"
    refine ⟨Nat.le_of_ble_eq_true rfl, fun a3 na3 => ?_⟩
    generalize qn3 : upd N2 a3 (.tup [.int 2, .int 1]) = N3
    have sn3 : Same N2 N3 := qn3 ▸ U.same_new na3
    have e3 : N3 a3 = some (.tup [.int 2, .int 1]) := qn3 ▸ upd_same
    clear qn3
    have n3 : a3 ≠ p := pot_ne (hp.same sx2) na3
    have sx3 : Same H N3 := sx2.trans sn3
    walk_at "go"
    refine ⟨Nat.le_of_ble_eq_true rfl, fun a4 na4 => ?_⟩
    generalize qn4 : upd N3 a4 (.tup [.int 1, .int 1]) = N4
    have sn4 : Same N3 N4 := qn4 ▸ U.same_new na4
    have e4 : N4 a4 = some (.tup [.int 1, .int 1]) := qn4 ▸ upd_same
    clear qn4
    have n4 : a4 ≠ p := pot_ne (hp.same sx3) na4
    have sx4 : Same H N4 := sx3.trans sn4
    walk_at "go"
    refine ⟨Nat.le_of_ble_eq_true rfl, fun a5 na5 => ?_⟩
    generalize qn5 : upd N4 a5 (.lst [.int 1, .int 2]) = N5
    have sn5 : Same N4 N5 := qn5 ▸ U.same_new na5
    have e5 : N5 a5 = some (.lst [.int 1, .int 2]) := qn5 ▸ upd_same
    clear qn5
    have n5 : a5 ≠ p := pot_ne (hp.same sx4) na5
    have sx5 : Same H N5 := sx4.trans sn5
    walk_at "go"
    refine ⟨Nat.le_of_ble_eq_true rfl, fun a6 na6 => ?_⟩
    generalize qn6 : upd N5 a6 (.tup [.int 1, .int 2, .int 3]) = N6
    have sn6 : Same N5 N6 := qn6 ▸ U.same_new na6
    have e6 : N6 a6 = some (.tup [.int 1, .int 2, .int 3]) := qn6 ▸ upd_same
    clear qn6
    have n6 : a6 ≠ p := pot_ne (hp.same sx5) na6
    have sx6 : Same H N6 := sx5.trans sn6
    walk_at "go"
    refine ⟨Nat.le_of_ble_eq_true rfl, fun a7 na7 => ?_⟩
    generalize qn7 : upd N6 a7 (.tup [.bl true, .int 2]) = N7
    have sn7 : Same N6 N7 := qn7 ▸ U.same_new na7
    have e7 : N7 a7 = some (.tup [.bl true, .int 2]) := qn7 ▸ upd_same
    clear qn7
    have n7 : a7 ≠ p := pot_ne (hp.same sx6) na7
    have sx7 : Same H N7 := sx6.trans sn7
    walk_at "go"
    rw [show ((10 : Int) ^ 6 + 1) = 1000001 by decide +kernel]
    refine ⟨Nat.le_of_ble_eq_true rfl, fun a8 na8 => ?_⟩
    generalize qn8 : upd N7 a8 (.tup [.int 0, .int 1000001]) = N8
    have sn8 : Same N7 N8 := qn8 ▸ U.same_new na8
    have e8 : N8 a8 = some (.tup [.int 0, .int 1000001]) := qn8 ▸ upd_same
    clear qn8
    have n8 : a8 ≠ p := pot_ne (hp.same sx7) na8
    have sx8 : Same H N8 := sx7.trans sn8
    walk_at "go"
    intro a9 na9
    generalize qn9 : upd N8 a9 (.dK []) = N9
    have sn9 : Same N8 N9 := qn9 ▸ U.same_new na9
    have e9 : N9 a9 = some (.dK []) := qn9 ▸ upd_same
    clear qn9
    have n9 : a9 ≠ p := pot_ne (hp.same sx8) na9
    have sx9 : Same H N9 := sx8.trans sn9
    walk_at "go"
    refine ⟨Nat.le_of_ble_eq_true rfl, fun a10 na10 => ?_⟩
    obtain ⟨odds, hodds⟩ : ∃ odds : List V, [.non, .int 0, .str "", .str "nosuch", .str "A", .ref a1, .ref a2, .ref a3, .ref a4, .ref a5, .ref a6, .ref a7, .ref a8, .ref a9] = odds := ⟨_, rfl⟩
    rw [hodds]
    generalize qn10 : upd N9 a10 (.lst odds) = N10
    have sn10 : Same N9 N10 := qn10 ▸ U.same_new na10
    have e10 : N10 a10 = some (.lst odds) := qn10 ▸ upd_same
    clear qn10
    have sH : Same H N10 := sx9.trans sn10
    have s1 : Same N1 N10 := (sn2.trans (sn3.trans (sn4.trans (sn5.trans (sn6.trans (sn7.trans (sn8.trans (sn9.trans sn10))))))))
    have s2 : Same N2 N10 := (sn3.trans (sn4.trans (sn5.trans (sn6.trans (sn7.trans (sn8.trans (sn9.trans sn10)))))))
    have s3 : Same N3 N10 := (sn4.trans (sn5.trans (sn6.trans (sn7.trans (sn8.trans (sn9.trans sn10))))))
    have s4 : Same N4 N10 := (sn5.trans (sn6.trans (sn7.trans (sn8.trans (sn9.trans sn10)))))
    have s5 : Same N5 N10 := (sn6.trans (sn7.trans (sn8.trans (sn9.trans sn10))))
    have s6 : Same N6 N10 := (sn7.trans (sn8.trans (sn9.trans sn10)))
    have s7 : Same N7 N10 := (sn8.trans (sn9.trans sn10))
    have s8 : Same N8 N10 := (sn9.trans sn10)
    have s9 : Same N9 N10 := sn10
    have oddAll : ∀ y ∈ odds, ∃ od : Od, odOk od = true ∧ OdAt N10 p y od := fun y hy => by
      rw [← hodds] at hy
      simp only [List.mem_cons, List.not_mem_nil, or_false] at hy
      rcases hy with rfl | rfl | rfl | rfl | rfl | rfl | rfl | rfl | rfl | rfl | rfl | rfl | rfl | rfl
      · exact ⟨.non, rfl, rfl⟩
      · exact ⟨.zero, rfl, rfl⟩
      · exact ⟨.st "", by decide +kernel, rfl⟩
      · exact ⟨.st "nosuch", by decide +kernel, rfl⟩
      · exact ⟨.st "A", by decide +kernel, rfl⟩
      · exact ⟨.tu [], by decide +kernel, a1, n1, rfl, s1 _ _ e1⟩
      · exact ⟨.tu [.int 1], by decide +kernel, a2, n2, rfl, s2 _ _ e2⟩
      · exact ⟨.tu [.int 2, .int 1], by decide +kernel, a3, n3, rfl, s3 _ _ e3⟩
      · exact ⟨.tu [.int 1, .int 1], by decide +kernel, a4, n4, rfl, s4 _ _ e4⟩
      · exact ⟨.ls, rfl, a5, n5, rfl, s5 _ _ e5⟩
      · exact ⟨.tu [.int 1, .int 2, .int 3], by decide +kernel, a6, n6, rfl, s6 _ _ e6⟩
      · exact ⟨.tu [.bl true, .int 2], by decide +kernel, a7, n7, rfl, s7 _ _ e7⟩
      · exact ⟨.tu [.int 0, .int 1000001], by decide +kernel, a8, n8, rfl, s8 _ _ e8⟩
      · exact ⟨.di, rfl, a9, n9, rfl, s9 _ _ e9⟩
    have lodd : odds.length = 14 := by rw [← hodds]; rfl
    clear hodds
    walk_at "go"
    refine ⟨p, a10, odds, 6, k + 50, rfl, SqL.of e10, by omega, by omega, (hp.same sH).le (by omega), fun f ys rest H1 nf hf yl pm hp1 sb1 => ?_⟩
    have hys : ∀ y ∈ ys, ∃ od : Od, odOk od = true ∧ OdAt H1 p y od := fun y hy => by
      obtain ⟨od, h1, h2⟩ := oddAll y (pm.mem_iff.mp (List.mem_append_left _ hy))
      exact ⟨od, h1, h2.mono sb1⟩
    have sb01 := (SB.of sH).trans sb1
    have L1 := L.pot hp sb01
    have ask1 := ask.pot hp sb01
    refine e_list (SqL.of hf) ?_
    refine forI_by walk_list (fun j σ' H' => ∃ v7 v8 : Option V, σ' = [some (.ref p), some (.ref o), some (.ref a), some (.int (i : Int)), some (.str n), some (.str (wordOf b)), some (.ref a10), v7, v8] ∧ Same H1 H') ⟨_, _, rfl, Same.refl _⟩ (fun j σ' H' _ ⟨_, _, _, s'⟩ => SqL.of (s' _ _ hf)) ?ts ?td
    case td =>
      rintro σ' H' ⟨v7, v8, rfl, s'⟩
      walk_at "go"
      exact kk _ ((hp1.same s').le (by omega)) (sb01.trans (SB.of s'))
    case ts =>
      rintro j y σ' _ H' hj ⟨v7, v8, rfl, s'⟩ ⟨rfl, ey⟩
      obtain ⟨od, ook, hod⟩ := hys y (List.mem_of_getElem? ey)
      have hod := hod.mono (SB.of s')
      have ov : OvAt K _ y (odOv od) := od_ov ook hod
      walk_at "go"
      rw [wd_line]
      have ask' := ask1.same s'
      have L' := L1.same s'
      cases b with
      | false =>
        refine U.g_T ?_
        walk_at "go"
        refine ⟨by show 2 ≤ sizeLine; decide, fun t nt => ?_⟩
        have sT := U.same_new (o := .tup [.int 1, .int 1]) nt
        have ht : (upd H' t (.tup [.int 1, .int 1])) t = some (.tup [.int 1, .int 1]) := upd_same
        generalize upd H' t (.tup [.int 1, .int 1]) = H2 at sT ht ⊢
        refine od_eq ht ook (hod.mono (SB.of sT)) ?_
        walk_at "go"
        obtain ⟨⟨dx, tc, tk, tp, ds, dn, gs, ce⟩, _, hn⟩ := ask'.same sT
        refine ⟨a, dx, tc, tk, tp, ds, dn, gs, R, n, false, y, odOv od, rfl, ce, hn, od_ov ook (hod.mono (SB.of sT)), ?_⟩
        rw [isMrk_line]
        walk_at "go"
        refine rep_bool ?_
        walk_at "go"
        refine rep_bool ?_
        walk_at "go"
        refine ite_no (ne_refl _) ?_
        walk_at "go"
        exact ⟨_, _, rfl, s'.trans sT⟩
      | true =>
        refine U.g_F ?_
        walk_at "go"
        obtain ⟨⟨lc', lk', lp', I⟩, _⟩ := L'
        refine ⟨o, lc', lk', lp', R, n, rfl, I, by have := ok.k240; omega, fun l H2 nl sT hl => ?_⟩
        refine od_in (ks := ksOf R.kinds n) hl (hod.mono (SB.of sT)) ?_
        walk_at "go"
        obtain ⟨⟨dx, tc, tk, tp, ds, dn, gs, ce⟩, _, hn⟩ := ask'.same sT
        refine ⟨a, dx, tc, tk, tp, ds, dn, gs, R, n, true, y, odOv od, rfl, ce, hn, od_ov ook (hod.mono (SB.of sT)), ?_⟩
        walk_at "go"
        refine rep_bool ?_
        walk_at "go"
        refine rep_bool ?_
        walk_at "go"
        refine ite_no (ne_refl _) ?_
        walk_at "go"
        exact ⟨_, _, rfl, s'.trans sT⟩
end
end Toy

namespace Toy
open PySem L2 U M TL ZV KY SU QD G KW
section
variable {P : Program} {w : World} {K : PySem.W.Frag} {mg : Str → Option Value} {base : Heap}
theorem sc__law_right : FnScope ["pot", "own", "census", "lap", "at"] ["pot"] (defScope s__law_right) := ⟨rfl, rfl, rfl, by decide +kernel, rfl, by decide +kernel, by decide +kernel⟩
def sp_right : Sp := fun vs H Q _ => ∃ (p : Addr) (k : Nat), vs = [.ref p] ∧ PotAt H p (k + 20000) ∧ ∀ H', PotAt H' p k → SB p H H' → Q (.bl true) H'
theorem ok__law_right (T : Tx K mg) : FnG P w K mg base 11 T.a__law_right T.fd__law_right ["pot"] sp_right := by
  refine okG T.F__law_right sc__law_right (fun vs H Q E h => ?_) (fun cdv A outer s H vs Q E hr hgd h => ?_)
  · obtain ⟨p, k, rfl, _⟩ := h
    rfl
  · obtain ⟨p, k, rfl, hp, kk⟩ := h
    have hu := hu_of hr
    have hu64 := hr.units
    refine ⟨_, (pss_cons (ps_set (i := 1) sc__law_right.nd rfl (Or.inl rfl) (pe_call (ok__law_register T) (hr.mono (by decide)) rfl T.m__law_register T.F__law_register.kp (b__law_register T) .nil pass0 (pa_cons (pv 0) (pa_cons (pe_int) (pa_cons (pe_int) (pa_cons (pe_int) pa_nil))))))
        (pss_cons (ps_set (i := 2) sc__law_right.nd rfl (Or.inl rfl) (pe_make T.M_Register (ok_Register___init__ T) (hr.mono (by decide)) rfl T.m_Register (b_Register___init__ T) .nil pass0 (pa_cons (pe_call (ok__law_register_text T) (hr.mono (by decide)) rfl T.m__law_register_text T.F__law_register_text.kp (b__law_register_text T) .nil pass0 (pa_cons (pv 1) pa_nil)) pa_nil)))
        (pss_cons (ps_for PassesOwn.never rfl (pi_range1 (by rfl) T.n_range (pa_cons (pe_int) pa_nil)) (pg_name (i := 3) sc__law_right.nd rfl (Or.inl rfl)) (pss_cons (ps_set (i := 4) sc__law_right.nd rfl (Or.inl rfl) (pe_call (ok__law_take T) (hr.mono (by decide)) rfl T.m__law_take T.F__law_take.kp (b__law_take T) .nil pass0 (pa_cons (pv 0) (pa_cons (pe_callB (call_uLen (K := K) rfl) (by rfl) T.n_len (by decide +kernel) (pa_cons (pe_dget hu (pv 1) (pe_str) (fun _ _ => rfl)) pa_nil)) pa_nil))))
        (pss_cons (ps_if (PW.pt (pw_or (pt_not (pt_val (G.pe_callG (ok__law_is_pair_right T) (hr.mono (by decide)) hgd rfl T.m__law_is_pair_right T.F__law_is_pair_right.kp (b__law_is_pair_right T) .nil (pa_cons (pv 0) (pa_cons (pv 1) (pa_cons (pv 2) (pa_cons (pv 4) pa_nil))))))) (pw_or1 (pt_not (pt_val (G.pe_callG (ok__law_is_least_right T) (hr.mono (by decide)) hgd rfl T.m__law_is_least_right T.F__law_is_least_right.kp (b__law_is_least_right T) .nil (pa_cons (pv 0) (pa_cons (pv 1) (pa_cons (pv 2) (pa_cons (pv 4) pa_nil)))))))))) (pss_one (ps_ret (pe_bl))) pss_nil)
        (pss_one (ps_if (PW.pt (pw_and (pt_cmpR op_uLt (pv 3) (pe_int) (nomark _)) (pw_and1 (pt_not (pt_val (G.pe_callG (ok__law_are_odd_told T) (hr.mono (by decide)) hgd rfl T.m__law_are_odd_told T.F__law_are_odd_told.kp (b__law_are_odd_told T) .nil (pa_cons (pv 0) (pa_cons (pv 1) (pa_cons (pv 2) (pa_cons (pv 4) pa_nil)))))))))) (pss_one (ps_ret (pe_bl))) pss_nil)))))
        (pss_one (ps_ret (pe_bl)))))), ?_⟩
    walk_at "st"
    walk_at "go"
    refine ⟨p, 3, 9, 2, k + 10000, rfl, by decide, by decide, by decide, by decide, by decide, by decide, hp.le (by omega), fun o lc lk lp R H2 no I ok _ _ _ _ _ hp2 s2 => ?_⟩
    walk_at "go"
    unfold tMake
    walk_at "go"
    refine ⟨o, lc, lk, lp, R, rfl, I, ok, fun H4 s4 => ?_⟩
    walk_at "go"
    intro x dx nx ndx hne
    walk_at "go"
    refine ⟨x, dx, R, rfl, upd_same, ok, fun tc tk tp ds dn gs H5 ce off => ⟨rfl, ?_⟩⟩
    have nx' : upd H4 dx (.own x) x = none := by rw [upd_ne (Ne.symm hne)]; exact nx
    have sX : Same H4 (upd (upd H4 dx (.own x)) x (.ins T.C_Register dx [])) := (U.same_new ndx).trans (U.same_new nx')
    have s5 : Same H4 H5 := fun c u e => off c u (ne_of_none e nx) (sX c u e)
    have s25 := s4.trans s5
    have hp5 := hp2.same s25
    have I5 := own_same I s25
    have L5 : LawX H5 o R := ⟨⟨lc, lk, lp, I5⟩, ok⟩
    have b5 := s2.trans (SB.of s25)
    have c4 := ok.cols.four
    have c1 := ok.cols.pos
    walk_at "go"
    refine e_rng (by omega) (by omega) ?_
    refine forI_by walk_range (fun j σ' H' => ∃ v3 v4 : Option V, σ' = [some (.ref p), some (.ref o), some (.ref x), v3, v4] ∧ PotAt H' p (k + 10000 - 500 * j) ∧ SB p H5 H') ⟨none, none, rfl, hp5, SB.refl _ _⟩ (fun _ _ _ _ _ => trivial) ?ts ?td
    case td =>
      rintro σ' H' ⟨v3, v4, rfl, hp', s'⟩
      walk_at "go"
      exact kk _ (hp'.le (by omega)) (b5.trans s')
    case ts =>
      rintro j y σ' _ H6 hj ⟨v3, v4, rfl, hp6, s6⟩ ⟨rfl, rfl⟩
      have hj : j < 12 := by omega
      have L6 := L5.pot hp5 s6
      have L6' := L6
      obtain ⟨⟨lc6, lk6, lp6, I6⟩, _⟩ := L6'
      obtain ⟨cv, h1, h2⟩ := I6.c
      have hcl := prd_len h2
      rw [List.length_map] at hcl
      walk_at "go"
      refine e_dgetS I6.d (own_c lc6 lk6 lp6) ?_
      walk_at "go"
      refine U.g_lenL (Or.inl (SqL.of h1)) ?_
      walk_at "go"
      refine ⟨p, (cv.length : Int), k + 10000 - 500 * j - 1, rfl, by omega, by omega, hp6.le (by omega), fun r H7 r0 r1 hp7 s7 => ?_⟩
      obtain ⟨i, ei⟩ : ∃ i : Nat, r = (i : Int) := ⟨r.toNat, by omega⟩
      subst ei
      obtain ⟨⟨n, b⟩, hc⟩ : ∃ c, R.cols[i]? = some c := ⟨_, List.getElem?_eq_getElem (by omega)⟩
      have s67 := s6.trans s7
      have ask : ∀ {H' : Hp}, SB p H5 H' → AskX T.C_Line T.C_Tree T.C_Register H' x R n b := fun s => ⟨⟨dx, tc, tk, tp, ds, dn, gs, cen_pot hp5 s ce⟩, ok, lookup_nd ok.cols.nd (List.mem_of_getElem? hc)⟩
      walk_at "go"
      refine ⟨p, o, x, R, i, n, b, k + 10000 - 500 * j - 150, rfl, hp7.le (by omega), L5.pot hp5 s67, ask s67, hc, fun H8 hp8 s8 => ?_⟩
      have s58 := s67.trans s8
      refine ⟨_, rfl, ite_no rfl ?_⟩
      walk_at "go"
      refine ⟨p, o, x, R, i, n, b, k + 10000 - 500 * j - 260, rfl, hp8.le (by omega), L5.pot hp5 s58, ask s58, hc, fun H9 hp9 s9 => ?_⟩
      have s59 := s58.trans s9
      refine ⟨_, rfl, ite_no rfl ?_⟩
      walk_at "go"
      refine U.g_2 (fun c3 => ?_) (fun c3 => ?_)
      · walk_at "go"
        refine ⟨p, o, x, R, i, n, b, k + 10000 - 500 * (j + 1), rfl, hp9.le (by omega), L5.pot hp5 s59, ask s59, hc, fun H10 hp10 s10 => ?_⟩
        refine ⟨_, rfl, ite_no rfl ?_⟩
        walk_at "go"
        exact ⟨_, _, rfl, hp10, s59.trans s10⟩
      · walk_at "go"
        exact ⟨_, _, rfl, hp9.le (by omega), s59⟩
theorem sc_law : FnScope ["script", "pots", "place", "pot", "lap"] ["script"] (defScope s_law) := ⟨rfl, rfl, rfl, by decide +kernel, rfl, by decide +kernel, by decide +kernel⟩
def sp_law (K : PySem.W.Frag) : Sp := fun vs H Q _ => ∃ (a : Addr) (ns : List Int), vs = [.ref a] ∧ SqL K H a (ns.map V.int) ∧ ns.length ≤ 63 ∧ ∀ H', Q (.bl true) H'
theorem ok_law (T : Tx K mg) : FnG P w K mg base 12 T.a_law T.fd_law ["script"] (sp_law K) := by
  refine okG T.F_law sc_law (fun vs H Q E h => ?_) (fun cdv A outer s H vs Q E hr hgd h => ?_)
  · obtain ⟨a, ns, rfl, _⟩ := h
    rfl
  · obtain ⟨a, ns, rfl, ha, hl, kk⟩ := h
    have hu := hu_of hr
    have hu64 := hr.units
    refine ⟨_, (pss_cons (ps_setLc (i := 1) rfl sc_law.nd rfl rfl (sw_true rfl rfl rfl (by decide +kernel)) (u_list (K := K) rfl (pe_call (ok__law_cells T) (hr.mono (by decide)) rfl T.m__law_cells T.F__law_cells.kp (b__law_cells T) .nil pass0 (pa_cons (pv 0) (pa_cons (pe_int) pa_nil)))) (blkOk_by (own := [("place", 2)]) (N := ["script", "pots", "place", "pot", "lap"]) (sc := defScope s_law) (by decide +kernel)) (fun _ _ _ _ _ => (pg_name (i := 2) sc_law.nd rfl (Or.inl rfl))) (fun _ _ _ _ _ => pts_nil) (fun _ _ _ _ _ => (pe_call (ok__law_pot T) (hr.mono (by decide)) rfl T.m__law_pot T.F__law_pot.kp (b__law_pot T) .nil pass0 (pa_cons (pv 0) (pa_cons (pv 2) pa_nil)))))
        (pss_one (ps_ret (pe_callB (call_uAll (K := K) rfl rfl) (by rfl) T.n_all (by decide +kernel) (pa_cons (pe_lc rfl sc_law.nd (u_list (K := K) rfl (pv 1)) (blkOk_by (own := [("pot", 3)]) (N := ["script", "pots", "place", "pot", "lap"]) (sc := defScope s_law) (by decide +kernel)) (fun _ _ _ _ _ => (pg_name (i := 3) sc_law.nd rfl (Or.inr rfl))) (fun _ _ _ _ _ => pts_nil) (fun _ _ _ _ _ => (pe_callB (call_uAll (K := K) rfl rfl) (by rfl) T.n_all (by decide +kernel) (pa_cons (pe_lc rfl sc_law.nd (pi_range1 (by rfl) T.n_range (pa_cons (pe_int) pa_nil)) (blkOk_by (own := [("lap", 4)]) (by kernel_rfl)) (fun _ _ _ _ _ => (pg_name (i := 4) sc_law.nd rfl (Or.inl rfl))) (fun _ _ _ _ _ => pts_nil) (fun _ _ _ _ _ => (G.pe_callG (ok__law_right T) (hr.mono (by decide)) hgd rfl T.m__law_right T.F__law_right.kp (b__law_right T) .nil (pa_cons (pv 3) pa_nil)))) pa_nil)))) pa_nil))))), ?_⟩
    walk_at "st"
    walk_at "go"
    refine ⟨a, ns, 2, rfl, ha, hl, by decide, by decide, fun q c nq c1 c2 => ?_⟩
    have sq := U.same_new (o := .lst (rgV 0 c)) nq
    have rl : (rgV 0 c).length = c := by simp [rgV]
    have hq : (upd H q (.lst (rgV 0 c))) q = some (.lst (rgV 0 c)) := upd_same
    generalize upd H q (.lst (rgV 0 c)) = H1 at sq hq ⊢
    refine e_list (SqL.of hq) ?_
    refine lcI_by (walk_list (K := K) (a := q) (xs := rgV 0 c)) (by omega) fun Ea nE => ⟨fun i acc H' => (∃ ps : List Addr, acc = ps.map V.ref ∧ ps.length = i ∧ ps.Nodup ∧ ∀ p ∈ ps, p ≠ Ea ∧ PotAt H' p 1000000) ∧ Same H1 H', ⟨⟨[], rfl, rfl, List.nodup_nil, fun _ h => by cases h⟩, U.same_new nE⟩, fun i acc H' _ ⟨_, s⟩ => SqL.of (s _ _ hq), ?turn, fun acc H2 hE ⟨⟨ps, e, pl, nd, hps⟩, s2⟩ => ?rest⟩
    case turn =>
      rintro i y acc H2 _ A B hi hacc ⟨⟨ps, rfl, pl, nd, hps⟩, s2⟩ ⟨rfl, ey⟩ kA kB
      obtain ⟨z, z0, z1, rfl⟩ : ∃ z : Int, 0 ≤ z ∧ z ≤ 100 ∧ y = .int z := by
        have hx := List.mem_of_getElem? ey
        simp only [rgV, List.mem_map, List.mem_range] at hx
        obtain ⟨j, hj, rfl⟩ := hx
        exact ⟨_, by omega, by omega, rfl⟩
      walk_at "go"
      refine ⟨rfl, ?_⟩
      walk_at "go"
      refine ⟨a, ns, z, rfl, (sq.trans s2).seq ha, z0, z1, fun p H3 np s3 pot => ?_⟩
      have pE : p ≠ Ea := (ne_of_none hacc np).symm
      refine kA _ _ (s3 _ _ hacc) ⟨⟨ps ++ [p], by rw [List.map_append]; rfl, by rw [List.length_append, pl]; rfl, ?_, fun p' hp' => ?_⟩, same_mut (s2.trans s3) nE⟩
      · rw [List.nodup_append]
        refine ⟨nd, List.pairwise_singleton _ _, fun x hx y hy => ?_⟩
        rw [List.mem_singleton.mp hy]
        intro e
        obtain ⟨_, _, _, h, _⟩ := (hps x hx).2
        rw [e, np] at h
        cases h
      · rcases List.mem_append.mp hp' with h | h
        · exact ⟨(hps p' h).1, ((hps p' h).2.same s3).put (hps p' h).1⟩
        · rw [List.mem_singleton.mp h]
          exact ⟨pE, pot.put pE⟩
    subst e
    have hE' : H2 Ea = some (.lst (ps.map V.ref)) := hE
    walk_at "go"
    refine e_list (SqL.of hE') ?_
    rw [rl] at pl
    refine lcI_by (walk_list (K := K) (a := Ea) (xs := ps.map V.ref)) (by rw [List.length_map]; omega) fun Eb nEb => ⟨fun i acc H' => acc = ((List.range i).map fun _ => true).map V.bl ∧ H' Ea = some (.lst (ps.map V.ref)) ∧ (∀ j p, i ≤ j → ps[j]? = some p → PotAt H' p 1000000) ∧ ∀ p ∈ ps, p ≠ Eb, ⟨rfl, get_new nEb hE', fun j p _ e => (hps p (List.mem_of_getElem? e)).2.new nEb, fun p hp => (pot_ne (hps p hp).2 nEb).symm⟩, fun i acc H' _ ⟨_, h, _⟩ => SqL.of h, ?turn2, fun acc H3 hEb ⟨e, _⟩ => ?rest2⟩
    case rest2 =>
      subst e
      walk_at "go"
      refine U.g_allB (SqL.of hEb) ?_
      rw [show (((List.range (ps.map V.ref).length).map fun _ => true).all id) = true by simp]
      exact kk _
    case turn2 =>
      rintro i y acc _ H3 A B hi hacc ⟨rfl, hE3, hps3, nEp⟩ ⟨rfl, ey⟩ kA kB
      rw [List.getElem?_map] at ey
      cases ep : ps[i]? with
      | none => rw [ep] at ey; cases ey
      | some p =>
        rw [ep] at ey
        cases ey
        have pot := hps3 i p (Nat.le_refl _) ep
        have pE := (hps p (List.mem_of_getElem? ep)).1
        have pEb := nEp p (List.mem_of_getElem? ep)
        walk_at "go"
        refine ⟨rfl, ?_⟩
        walk_at "go"
        refine e_rng (by omega) (by omega) ?_
        refine lcI_by walk_range (by decide) fun Ec nEc => ⟨fun l acc' H' => acc' = ((List.range l).map fun _ => true).map V.bl ∧ PotAt H' p (1000000 - 30000 * l) ∧ SB p H3 H', ⟨rfl, (pot.new nEc).le (by omega), SB.of (U.same_new nEc)⟩, fun _ _ _ _ _ => trivial, ?turn3, fun acc' H4 hEc ⟨e, pot4, s4⟩ => ?rest3⟩
        case turn3 =>
          rintro l x acc' H4 _ A' B' hl' hE4 ⟨rfl, pot4, s4⟩ ⟨rfl, rfl⟩ kA' kB'
          have hl' : l < 3 := by omega
          have Ep : Ec ≠ p := pot_ne pot nEc
          walk_at "go"
          refine ⟨rfl, ?_⟩
          walk_at "go"
          refine ⟨p, 1000000 - 30000 * (l + 1), rfl, pot4.le (by omega), fun H5 pot5 s5 => ?_⟩
          refine kA' _ _ (s5 _ _ hE4 Ep) ⟨?_, pot5.put (Ne.symm Ep), (s4.trans s5).mut nEc⟩
          rw [List.range_succ, List.map_append, List.map_append]
          rfl
        case rest3 =>
          subst e
          walk_at "go"
          refine U.g_allB (SqL.of hEc) ?_
          rw [show (((List.range (3 : Int).toNat).map fun _ => true).all id) = true by decide]
          refine kA _ _ (s4 _ _ hacc (Ne.symm pEb)) ⟨?_, (get_ne (fun z => by rw [← z, hE'] at nEb; cases nEb) (s4 _ _ hE3 (Ne.symm pE))), fun j p' hj e => ?_, nEp⟩
          · rw [List.range_succ, List.map_append, List.map_append]
            rfl
          · have npp : p' ≠ p := fun z => by
              subst z
              obtain ⟨l1, h1⟩ := List.getElem?_eq_some_iff.mp e
              obtain ⟨l2, h2⟩ := List.getElem?_eq_some_iff.mp ep
              exact (List.pairwise_iff_getElem.mp nd) i j l2 l1 (by omega) (h2.trans h1.symm)
            obtain ⟨u1, u2, u3, u4, u5⟩ := hps3 j p' (by omega) e
            have : PotAt H4 p' 1000000 := ⟨u1, u2, u3, s4 _ _ u4 npp, u5⟩
            exact this.put (nEp p' (List.mem_of_getElem? e))
end
end Toy

namespace Toy
open PySem PySem.Spec L2 U M QD G
def mkoB (K : PySem.W.Frag) (C : Addr) : Bool := PySem.W.makesIn K C && (He.eqO (PySem.W.findIn K (.ref C) "__init__") (some (some (.builtin "object.__init__"))) && PySem.W.keepIn K (.ref C))
theorem mkoB_ok {K : PySem.W.Frag} {C : Addr} (h : mkoB K C = true) : ZV.MkO K C := ⟨(He.ba h).1, He.eqO_ok (He.ba (He.ba h).2).1, (He.ba (He.ba h).2).2⟩
def d_CrowdError___init__ : He.FnD := ⟨("CrowdError", some "__init__"), "__init__", "CrowdError.__init__", defArgs s_CrowdError___init__, defBody s_CrowdError___init__, defScope s_CrowdError___init__⟩
def d_is_integer : He.FnD := ⟨("is_integer", none), "is_integer", "is_integer", defArgs s_is_integer, defBody s_is_integer, defScope s_is_integer⟩
def d_is_name : He.FnD := ⟨("is_name", none), "is_name", "is_name", defArgs s_is_name, defBody s_is_name, defScope s_is_name⟩
def d_is_tuple_of : He.FnD := ⟨("is_tuple_of", none), "is_tuple_of", "is_tuple_of", defArgs s_is_tuple_of, defBody s_is_tuple_of, defScope s_is_tuple_of⟩
def d_integer_in : He.FnD := ⟨("integer_in", none), "integer_in", "integer_in", defArgs s_integer_in, defBody s_integer_in, defScope s_integer_in⟩
def d_values_stand : He.FnD := ⟨("values_stand", none), "values_stand", "values_stand", defArgs s_values_stand, defBody s_values_stand, defScope s_values_stand⟩
def d_is_line_value : He.FnD := ⟨("is_line_value", none), "is_line_value", "is_line_value", defArgs s_is_line_value, defBody s_is_line_value, defScope s_is_line_value⟩
def d_Line_is_value : He.FnD := ⟨("Line", some "is_value"), "is_value", "Line.is_value", defArgs s_Line_is_value, defBody s_Line_is_value, defScope s_Line_is_value⟩
def d_Line_is_mark : He.FnD := ⟨("Line", some "is_mark"), "is_mark", "Line.is_mark", defArgs s_Line_is_mark, defBody s_Line_is_mark, defScope s_Line_is_mark⟩
def d_Line_value_in : He.FnD := ⟨("Line", some "value_in"), "value_in", "Line.value_in", defArgs s_Line_value_in, defBody s_Line_value_in, defScope s_Line_value_in⟩
def d_Line_covers : He.FnD := ⟨("Line", some "covers"), "covers", "Line.covers", defArgs s_Line_covers, defBody s_Line_covers, defScope s_Line_covers⟩
def d_Line_is_finer : He.FnD := ⟨("Line", some "is_finer"), "is_finer", "Line.is_finer", defArgs s_Line_is_finer, defBody s_Line_is_finer, defScope s_Line_is_finer⟩
def d_Line_joined : He.FnD := ⟨("Line", some "joined"), "joined", "Line.joined", defArgs s_Line_joined, defBody s_Line_joined, defScope s_Line_joined⟩
def d_Line_common : He.FnD := ⟨("Line", some "common"), "common", "Line.common", defArgs s_Line_common, defBody s_Line_common, defScope s_Line_common⟩
def d_Line_least : He.FnD := ⟨("Line", some "least"), "least", "Line.least", defArgs s_Line_least, defBody s_Line_least, defScope s_Line_least⟩
def d_Line_loss : He.FnD := ⟨("Line", some "loss"), "loss", "Line.loss", defArgs s_Line_loss, defBody s_Line_loss, defScope s_Line_loss⟩
def d_Tree___init__ : He.FnD := ⟨("Tree", some "__init__"), "__init__", "Tree.__init__", defArgs s_Tree___init__, defBody s_Tree___init__, defScope s_Tree___init__⟩
def d_Tree_add_kind : He.FnD := ⟨("Tree", some "add_kind"), "add_kind", "Tree.add_kind", defArgs s_Tree_add_kind, defBody s_Tree_add_kind, defScope s_Tree_add_kind⟩
def d_Tree__can_be_up : He.FnD := ⟨("Tree", some "_can_be_up"), "_can_be_up", "Tree._can_be_up", defArgs s_Tree__can_be_up, defBody s_Tree__can_be_up, defScope s_Tree__can_be_up⟩
def d_Tree_is_value : He.FnD := ⟨("Tree", some "is_value"), "is_value", "Tree.is_value", defArgs s_Tree_is_value, defBody s_Tree_is_value, defScope s_Tree_is_value⟩
def d_Tree_is_mark : He.FnD := ⟨("Tree", some "is_mark"), "is_mark", "Tree.is_mark", defArgs s_Tree_is_mark, defBody s_Tree_is_mark, defScope s_Tree_is_mark⟩
def d_Tree_value_in : He.FnD := ⟨("Tree", some "value_in"), "value_in", "Tree.value_in", defArgs s_Tree_value_in, defBody s_Tree_value_in, defScope s_Tree_value_in⟩
def d_Tree_covers : He.FnD := ⟨("Tree", some "covers"), "covers", "Tree.covers", defArgs s_Tree_covers, defBody s_Tree_covers, defScope s_Tree_covers⟩
def d_Tree_is_finer : He.FnD := ⟨("Tree", some "is_finer"), "is_finer", "Tree.is_finer", defArgs s_Tree_is_finer, defBody s_Tree_is_finer, defScope s_Tree_is_finer⟩
def d_Tree_joined : He.FnD := ⟨("Tree", some "joined"), "joined", "Tree.joined", defArgs s_Tree_joined, defBody s_Tree_joined, defScope s_Tree_joined⟩
def d_Tree_common : He.FnD := ⟨("Tree", some "common"), "common", "Tree.common", defArgs s_Tree_common, defBody s_Tree_common, defScope s_Tree_common⟩
def d_Tree_least : He.FnD := ⟨("Tree", some "least"), "least", "Tree.least", defArgs s_Tree_least, defBody s_Tree_least, defScope s_Tree_least⟩
def d_Tree_loss : He.FnD := ⟨("Tree", some "loss"), "loss", "Tree.loss", defArgs s_Tree_loss, defBody s_Tree_loss, defScope s_Tree_loss⟩
def d_Draft___init__ : He.FnD := ⟨("Draft", some "__init__"), "__init__", "Draft.__init__", defArgs s_Draft___init__, defBody s_Draft___init__, defScope s_Draft___init__⟩
def d_Draft_is_ready : He.FnD := ⟨("Draft", some "is_ready"), "is_ready", "Draft.is_ready", defArgs s_Draft_is_ready, defBody s_Draft_is_ready, defScope s_Draft_is_ready⟩
def d_Draft_add_column : He.FnD := ⟨("Draft", some "add_column"), "add_column", "Draft.add_column", defArgs s_Draft_add_column, defBody s_Draft_add_column, defScope s_Draft_add_column⟩
def d_Draft_add_kind : He.FnD := ⟨("Draft", some "add_kind"), "add_kind", "Draft.add_kind", defArgs s_Draft_add_kind, defBody s_Draft_add_kind, defScope s_Draft_add_kind⟩
def d_Draft_add_person : He.FnD := ⟨("Draft", some "add_person"), "add_person", "Draft.add_person", defArgs s_Draft_add_person, defBody s_Draft_add_person, defScope s_Draft_add_person⟩
def d_Register___init__ : He.FnD := ⟨("Register", some "__init__"), "__init__", "Register.__init__", defArgs s_Register___init__, defBody s_Register___init__, defScope s_Register___init__⟩
def d_Register___eq__ : He.FnD := ⟨("Register", some "__eq__"), "__eq__", "Register.__eq__", defArgs s_Register___eq__, defBody s_Register___eq__, defScope s_Register___eq__⟩
def d_Register___len__ : He.FnD := ⟨("Register", some "__len__"), "__len__", "Register.__len__", defArgs s_Register___len__, defBody s_Register___len__, defScope s_Register___len__⟩
def d_draft_in : He.FnD := ⟨("draft_in", none), "draft_in", "draft_in", defArgs s_draft_in, defBody s_draft_in, defScope s_draft_in⟩
def d_add_line : He.FnD := ⟨("add_line", none), "add_line", "add_line", defArgs s_add_line, defBody s_add_line, defScope s_add_line⟩
def d_kind_in : He.FnD := ⟨("kind_in", none), "kind_in", "kind_in", defArgs s_kind_in, defBody s_kind_in, defScope s_kind_in⟩
def d_person_in : He.FnD := ⟨("person_in", none), "person_in", "person_in", defArgs s_person_in, defBody s_person_in, defScope s_person_in⟩
def d_is_kinds_column : He.FnD := ⟨("is_kinds_column", none), "is_kinds_column", "is_kinds_column", defArgs s_is_kinds_column, defBody s_is_kinds_column, defScope s_is_kinds_column⟩
def d_scale_of : He.FnD := ⟨("scale_of", none), "scale_of", "scale_of", defArgs s_scale_of, defBody s_scale_of, defScope s_scale_of⟩
def d_scale_of_marks : He.FnD := ⟨("scale_of_marks", none), "scale_of_marks", "scale_of_marks", defArgs s_scale_of_marks, defBody s_scale_of_marks, defScope s_scale_of_marks⟩
def d_is_mark : He.FnD := ⟨("is_mark", none), "is_mark", "is_mark", defArgs s_is_mark, defBody s_is_mark, defScope s_is_mark⟩
def d_covers : He.FnD := ⟨("covers", none), "covers", "covers", defArgs s_covers, defBody s_covers, defScope s_covers⟩
def d_is_finer : He.FnD := ⟨("is_finer", none), "is_finer", "is_finer", defArgs s_is_finer, defBody s_is_finer, defScope s_is_finer⟩
def d_joined_mark : He.FnD := ⟨("joined_mark", none), "joined_mark", "joined_mark", defArgs s_joined_mark, defBody s_joined_mark, defScope s_joined_mark⟩
def d_common_mark : He.FnD := ⟨("common_mark", none), "common_mark", "common_mark", defArgs s_common_mark, defBody s_common_mark, defScope s_common_mark⟩
def d_least_mark : He.FnD := ⟨("least_mark", none), "least_mark", "least_mark", defArgs s_least_mark, defBody s_least_mark, defScope s_least_mark⟩
def d__law_pot : He.FnD := ⟨("_law_pot", none), "_law_pot", "_law_pot", defArgs s__law_pot, defBody s__law_pot, defScope s__law_pot⟩
def d__law_take : He.FnD := ⟨("_law_take", none), "_law_take", "_law_take", defArgs s__law_take, defBody s__law_take, defScope s__law_take⟩
def d__law_of : He.FnD := ⟨("_law_of", none), "_law_of", "_law_of", defArgs s__law_of, defBody s__law_of, defScope s__law_of⟩
def d__law_some : He.FnD := ⟨("_law_some", none), "_law_some", "_law_some", defArgs s__law_some, defBody s__law_some, defScope s__law_some⟩
def d__law_cells : He.FnD := ⟨("_law_cells", none), "_law_cells", "_law_cells", defArgs s__law_cells, defBody s__law_cells, defScope s__law_cells⟩
def d__law_names : He.FnD := ⟨("_law_names", none), "_law_names", "_law_names", defArgs s__law_names, defBody s__law_names, defScope s__law_names⟩
def d__law_kinds : He.FnD := ⟨("_law_kinds", none), "_law_kinds", "_law_kinds", defArgs s__law_kinds, defBody s__law_kinds, defScope s__law_kinds⟩
def d__law_kind_names : He.FnD := ⟨("_law_kind_names", none), "_law_kind_names", "_law_kind_names", defArgs s__law_kind_names, defBody s__law_kind_names, defScope s__law_kind_names⟩
def d__law_values : He.FnD := ⟨("_law_values", none), "_law_values", "_law_values", defArgs s__law_values, defBody s__law_values, defScope s__law_values⟩
def d__law_register : He.FnD := ⟨("_law_register", none), "_law_register", "_law_register", defArgs s__law_register, defBody s__law_register, defScope s__law_register⟩
def d__law_register_text : He.FnD := ⟨("_law_register_text", none), "_law_register_text", "_law_register_text", defArgs s__law_register_text, defBody s__law_register_text, defScope s__law_register_text⟩
def d__law_chain : He.FnD := ⟨("_law_chain", none), "_law_chain", "_law_chain", defArgs s__law_chain, defBody s__law_chain, defScope s__law_chain⟩
def d__law_does_cover : He.FnD := ⟨("_law_does_cover", none), "_law_does_cover", "_law_does_cover", defArgs s__law_does_cover, defBody s__law_does_cover, defScope s__law_does_cover⟩
def d__law_a_mark : He.FnD := ⟨("_law_a_mark", none), "_law_a_mark", "_law_a_mark", defArgs s__law_a_mark, defBody s__law_a_mark, defScope s__law_a_mark⟩
def d__law_under : He.FnD := ⟨("_law_under", none), "_law_under", "_law_under", defArgs s__law_under, defBody s__law_under, defScope s__law_under⟩
def d__law_joined : He.FnD := ⟨("_law_joined", none), "_law_joined", "_law_joined", defArgs s__law_joined, defBody s__law_joined, defScope s__law_joined⟩
def d__law_common : He.FnD := ⟨("_law_common", none), "_law_common", "_law_common", defArgs s__law_common, defBody s__law_common, defScope s__law_common⟩
def d__law_is_pair_right : He.FnD := ⟨("_law_is_pair_right", none), "_law_is_pair_right", "_law_is_pair_right", defArgs s__law_is_pair_right, defBody s__law_is_pair_right, defScope s__law_is_pair_right⟩
def d__law_is_least_right : He.FnD := ⟨("_law_is_least_right", none), "_law_is_least_right", "_law_is_least_right", defArgs s__law_is_least_right, defBody s__law_is_least_right, defScope s__law_is_least_right⟩
def d__law_are_odd_told : He.FnD := ⟨("_law_are_odd_told", none), "_law_are_odd_told", "_law_are_odd_told", defArgs s__law_are_odd_told, defBody s__law_are_odd_told, defScope s__law_are_odd_told⟩
def d__law_right : He.FnD := ⟨("_law_right", none), "_law_right", "_law_right", defArgs s__law_right, defBody s__law_right, defScope s__law_right⟩
def d_law : He.FnD := ⟨("law", none), "law", "law", defArgs s_law, defBody s_law, defScope s_law⟩
def xB2 (K : PySem.W.Frag) : Bool := mkoB K (He.ga K "Line") && (He.eqO (PySem.W.specialIn K (.builtin "object.__class__") "__get__") (some (some (.builtin "getset_descriptor.__get__"))) && (decide (PySem.W.takesIn K (.builtin "object.__class__") = some true) && (He.eqO (PySem.W.findIn K (.ref (He.ga K "Line")) "__class__") (some (some (.builtin "object.__class__"))) && (decide (PySem.W.mroIn K (He.ga K "Line") (.type "object") = some true) && (He.eqO (PySem.W.findIn K (.ref (He.ga K "Tree")) "__class__") (some (some (.builtin "object.__class__"))) && (decide (PySem.W.mroIn K (He.ga K "Tree") (.type "object") = some true) && (He.eqO (PySem.W.findIn K (.ref (He.ga K "Draft")) "__class__") (some (some (.builtin "object.__class__"))) && (decide (PySem.W.mroIn K (He.ga K "Draft") (.type "object") = some true) && (He.eqO (PySem.W.findIn K (.ref (He.ga K "Register")) "__class__") (some (some (.builtin "object.__class__"))) && (decide (PySem.W.mroIn K (He.ga K "Register") (.type "object") = some true) && (decide (PySem.W.kitOne K (.ref (He.ga K "Line")) (.ref (He.ga K "Register")) = some false) && (decide (PySem.W.kitOne K (.ref (He.ga K "Tree")) (.ref (He.ga K "Register")) = some false) && (decide (PySem.W.kitOne K (.ref (He.ga K "Draft")) (.ref (He.ga K "Register")) = some false) && (decide (PySem.W.kitOne K (.ref (He.ga K "Register")) (.ref (He.ga K "Register")) = some true) && (decide (PySem.W.kitOne K (.type "NoneType") (.ref (He.ga K "Register")) = some false) && (decide (PySem.W.kitOne K (.type "bool") (.ref (He.ga K "Register")) = some false) && (decide (PySem.W.kitOne K (.type "int") (.ref (He.ga K "Register")) = some false) && (decide (PySem.W.kitOne K (.type "str") (.ref (He.ga K "Register")) = some false) && (decide (PySem.W.kitOne K (.type "tuple") (.ref (He.ga K "Register")) = some false) && (decide (PySem.W.kitOne K (.type "list") (.ref (He.ga K "Register")) = some false) && (decide (PySem.W.kitOne K (.type "dict") (.ref (He.ga K "Register")) = some false) && (decide (PySem.W.kitOne K (.ref (He.ga K "Line")) (.ref (He.ga K "Tree")) = some false) && (decide (PySem.W.kitOne K (.ref (He.ga K "Tree")) (.ref (He.ga K "Tree")) = some true) && (decide (PySem.W.kitOne K (.ref (He.ga K "Draft")) (.ref (He.ga K "Tree")) = some false) && (decide (PySem.W.kitOne K (.ref (He.ga K "Register")) (.ref (He.ga K "Tree")) = some false) && (decide (PySem.W.kitOne K (.type "NoneType") (.ref (He.ga K "Tree")) = some false) && (decide (PySem.W.kitOne K (.type "bool") (.ref (He.ga K "Tree")) = some false) && (decide (PySem.W.kitOne K (.type "int") (.ref (He.ga K "Tree")) = some false) && (decide (PySem.W.kitOne K (.type "str") (.ref (He.ga K "Tree")) = some false) && (decide (PySem.W.kitOne K (.type "tuple") (.ref (He.ga K "Tree")) = some false) && (decide (PySem.W.kitOne K (.type "list") (.ref (He.ga K "Tree")) = some false) && (decide (PySem.W.kitOne K (.type "dict") (.ref (He.ga K "Tree")) = some false)))))))))))))))))))))))))))))))))
def fnL : List He.FnD := [d_CrowdError___init__, d_is_integer, d_is_name, d_is_tuple_of, d_integer_in, d_values_stand, d_is_line_value, d_Line_is_value, d_Line_is_mark, d_Line_value_in, d_Line_covers, d_Line_is_finer, d_Line_joined, d_Line_common, d_Line_least, d_Line_loss, d_Tree___init__, d_Tree_add_kind, d_Tree__can_be_up, d_Tree_is_value, d_Tree_is_mark, d_Tree_value_in, d_Tree_covers, d_Tree_is_finer, d_Tree_joined, d_Tree_common, d_Tree_least, d_Tree_loss, d_Draft___init__, d_Draft_is_ready, d_Draft_add_column, d_Draft_add_kind, d_Draft_add_person, d_Register___init__, d_Register___eq__, d_Register___len__, d_draft_in, d_add_line, d_kind_in, d_person_in, d_is_kinds_column, d_scale_of, d_scale_of_marks, d_is_mark, d_covers, d_is_finer, d_joined_mark, d_common_mark, d_least_mark, d__law_pot, d__law_take, d__law_of, d__law_some, d__law_cells, d__law_names, d__law_kinds, d__law_kind_names, d__law_values, d__law_register, d__law_register_text, d__law_chain, d__law_does_cover, d__law_a_mark, d__law_under, d__law_joined, d__law_common, d__law_is_pair_right, d__law_is_least_right, d__law_are_odd_told, d__law_right, d_law]
def faL : List He.Fa := [.glo "is_integer", .glo "is_name", .glo "is_tuple_of", .glo "integer_in", .glo "values_stand", .glo "is_line_value", .glo "draft_in", .glo "add_line", .glo "kind_in", .glo "person_in", .glo "is_kinds_column", .glo "scale_of", .glo "scale_of_marks", .glo "is_mark", .glo "covers", .glo "is_finer", .glo "joined_mark", .glo "common_mark", .glo "least_mark", .glo "_law_pot", .glo "_law_take", .glo "_law_of", .glo "_law_some", .glo "_law_cells", .glo "_law_names", .glo "_law_kinds", .glo "_law_kind_names", .glo "_law_values", .glo "_law_register", .glo "_law_register_text", .glo "_law_chain", .glo "_law_does_cover", .glo "_law_a_mark", .glo "_law_under", .glo "_law_joined", .glo "_law_common", .glo "_law_is_pair_right", .glo "_law_is_least_right", .glo "_law_are_odd_told", .glo "_law_right", .glo "law", .int "FARTHEST" 1000000, .str "FIGURES" "0123456789", .int "MOST_COLUMNS" 4, .int "MOST_FIGURES" 9, .int "MOST_KINDS" 60, .int "MOST_LOSS" 1000000, .int "MOST_PERSONS" 60, .int "MOST_SIGNS" 12, .str "SIGNS" "abcdefghijklmnopqrstuvwxyz0123456789", .free "abs", .free "all", .free "bool", .free "dict", .free "enumerate", .free "int", .free "isinstance", .free "len", .free "list", .free "max", .free "min", .free "range", .free "repr", .free "set", .free "sorted", .free "str", .free "sum", .free "tuple", .free "zip", .glo "Line", .cls "Line", .meth "Line" "is_value", .meth "Line" "is_mark", .meth "Line" "value_in", .meth "Line" "covers", .meth "Line" "is_finer", .meth "Line" "joined", .meth "Line" "common", .meth "Line" "least", .meth "Line" "loss", .glo "Tree", .cls "Tree", .mkr "Tree", .meth "Tree" "add_kind", .meth "Tree" "_can_be_up", .meth "Tree" "is_value", .meth "Tree" "is_mark", .meth "Tree" "value_in", .meth "Tree" "covers", .meth "Tree" "is_finer", .meth "Tree" "joined", .meth "Tree" "common", .meth "Tree" "least", .meth "Tree" "loss", .noat "Tree" "ups", .noat "Tree" "losses", .glo "Draft", .cls "Draft", .mkr "Draft", .meth "Draft" "is_ready", .meth "Draft" "add_column", .meth "Draft" "add_kind", .meth "Draft" "add_person", .noat "Draft" "columns", .noat "Draft" "kinds", .noat "Draft" "persons", .noat "Draft" "scales", .noat "Draft" "numbers", .glo "Register", .cls "Register", .mkr "Register", .meth "Register" "__eq__", .meth "Register" "__len__", .noat "Register" "text", .noat "Register" "columns", .noat "Register" "kinds", .noat "Register" "persons", .noat "Register" "scales", .noat "Register" "numbers"]
def nmL : List Str := (["Line", "Tree", "Draft", "Register", "is_integer", "is_name", "is_tuple_of", "integer_in", "values_stand", "is_line_value", "draft_in", "add_line", "kind_in", "person_in", "is_kinds_column", "scale_of", "scale_of_marks", "is_mark", "covers", "is_finer", "joined_mark", "common_mark", "least_mark", "_law_pot", "_law_take", "_law_of", "_law_some", "_law_cells", "_law_names", "_law_kinds"] : List Str) ++ (["_law_kind_names", "_law_values", "_law_register", "_law_register_text", "_law_chain", "_law_does_cover", "_law_a_mark", "_law_under", "_law_joined", "_law_common", "_law_is_pair_right", "_law_is_least_right", "_law_are_odd_told", "_law_right", "law", "FARTHEST", "FIGURES", "MOST_COLUMNS", "MOST_FIGURES", "MOST_KINDS", "MOST_LOSS", "MOST_PERSONS", "MOST_SIGNS", "SIGNS", "CrowdError"] : List Str)
def xB (K : PySem.W.Frag) : Bool := (fnL.all fun d => PySem.W.keepIn K (.ref (He.fAd K d.at_))) && (xB2 K)
theorem mk_TxX {K : PySem.W.Frag} {mg : Str → Option Value} {h : Heap} (X : K.In h) (G : h.Ns mainGlobals mg) (c : He.SaysE faL fnL K) (x : xB K = true) : Nonempty (Tx K mg) := by
  obtain ⟨x1, x⟩ := He.ba x
  have kk : ∀ (i : Nat) {d : He.FnD}, fnL[i]? = some d → PySem.W.keepIn K (.ref (He.fAd K d.at_)) = true := fun i d h => List.all_eq_true.mp x1 d (List.mem_of_getElem? h)
  obtain ⟨oc0, od0, sl0, kV0, dc0, pm0, an0, cd0, ct0, l0, c0⟩ := c.def_ 0 (d := d_CrowdError___init__) rfl
  obtain ⟨oc1, od1, sl1, kV1, dc1, pm1, an1, cd1, ct1, l1, c1⟩ := c.def_ 1 (d := d_is_integer) rfl
  obtain ⟨oc2, od2, sl2, kV2, dc2, pm2, an2, cd2, ct2, l2, c2⟩ := c.def_ 2 (d := d_is_name) rfl
  obtain ⟨oc3, od3, sl3, kV3, dc3, pm3, an3, cd3, ct3, l3, c3⟩ := c.def_ 3 (d := d_is_tuple_of) rfl
  obtain ⟨oc4, od4, sl4, kV4, dc4, pm4, an4, cd4, ct4, l4, c4⟩ := c.def_ 4 (d := d_integer_in) rfl
  obtain ⟨oc5, od5, sl5, kV5, dc5, pm5, an5, cd5, ct5, l5, c5⟩ := c.def_ 5 (d := d_values_stand) rfl
  obtain ⟨oc6, od6, sl6, kV6, dc6, pm6, an6, cd6, ct6, l6, c6⟩ := c.def_ 6 (d := d_is_line_value) rfl
  obtain ⟨oc7, od7, sl7, kV7, dc7, pm7, an7, cd7, ct7, l7, c7⟩ := c.def_ 7 (d := d_Line_is_value) rfl
  obtain ⟨oc8, od8, sl8, kV8, dc8, pm8, an8, cd8, ct8, l8, c8⟩ := c.def_ 8 (d := d_Line_is_mark) rfl
  obtain ⟨oc9, od9, sl9, kV9, dc9, pm9, an9, cd9, ct9, l9, c9⟩ := c.def_ 9 (d := d_Line_value_in) rfl
  obtain ⟨oc10, od10, sl10, kV10, dc10, pm10, an10, cd10, ct10, l10, c10⟩ := c.def_ 10 (d := d_Line_covers) rfl
  obtain ⟨oc11, od11, sl11, kV11, dc11, pm11, an11, cd11, ct11, l11, c11⟩ := c.def_ 11 (d := d_Line_is_finer) rfl
  obtain ⟨oc12, od12, sl12, kV12, dc12, pm12, an12, cd12, ct12, l12, c12⟩ := c.def_ 12 (d := d_Line_joined) rfl
  obtain ⟨oc13, od13, sl13, kV13, dc13, pm13, an13, cd13, ct13, l13, c13⟩ := c.def_ 13 (d := d_Line_common) rfl
  obtain ⟨oc14, od14, sl14, kV14, dc14, pm14, an14, cd14, ct14, l14, c14⟩ := c.def_ 14 (d := d_Line_least) rfl
  obtain ⟨oc15, od15, sl15, kV15, dc15, pm15, an15, cd15, ct15, l15, c15⟩ := c.def_ 15 (d := d_Line_loss) rfl
  obtain ⟨oc16, od16, sl16, kV16, dc16, pm16, an16, cd16, ct16, l16, c16⟩ := c.def_ 16 (d := d_Tree___init__) rfl
  obtain ⟨oc17, od17, sl17, kV17, dc17, pm17, an17, cd17, ct17, l17, c17⟩ := c.def_ 17 (d := d_Tree_add_kind) rfl
  obtain ⟨oc18, od18, sl18, kV18, dc18, pm18, an18, cd18, ct18, l18, c18⟩ := c.def_ 18 (d := d_Tree__can_be_up) rfl
  obtain ⟨oc19, od19, sl19, kV19, dc19, pm19, an19, cd19, ct19, l19, c19⟩ := c.def_ 19 (d := d_Tree_is_value) rfl
  obtain ⟨oc20, od20, sl20, kV20, dc20, pm20, an20, cd20, ct20, l20, c20⟩ := c.def_ 20 (d := d_Tree_is_mark) rfl
  obtain ⟨oc21, od21, sl21, kV21, dc21, pm21, an21, cd21, ct21, l21, c21⟩ := c.def_ 21 (d := d_Tree_value_in) rfl
  obtain ⟨oc22, od22, sl22, kV22, dc22, pm22, an22, cd22, ct22, l22, c22⟩ := c.def_ 22 (d := d_Tree_covers) rfl
  obtain ⟨oc23, od23, sl23, kV23, dc23, pm23, an23, cd23, ct23, l23, c23⟩ := c.def_ 23 (d := d_Tree_is_finer) rfl
  obtain ⟨oc24, od24, sl24, kV24, dc24, pm24, an24, cd24, ct24, l24, c24⟩ := c.def_ 24 (d := d_Tree_joined) rfl
  obtain ⟨oc25, od25, sl25, kV25, dc25, pm25, an25, cd25, ct25, l25, c25⟩ := c.def_ 25 (d := d_Tree_common) rfl
  obtain ⟨oc26, od26, sl26, kV26, dc26, pm26, an26, cd26, ct26, l26, c26⟩ := c.def_ 26 (d := d_Tree_least) rfl
  obtain ⟨oc27, od27, sl27, kV27, dc27, pm27, an27, cd27, ct27, l27, c27⟩ := c.def_ 27 (d := d_Tree_loss) rfl
  obtain ⟨oc28, od28, sl28, kV28, dc28, pm28, an28, cd28, ct28, l28, c28⟩ := c.def_ 28 (d := d_Draft___init__) rfl
  obtain ⟨oc29, od29, sl29, kV29, dc29, pm29, an29, cd29, ct29, l29, c29⟩ := c.def_ 29 (d := d_Draft_is_ready) rfl
  obtain ⟨oc30, od30, sl30, kV30, dc30, pm30, an30, cd30, ct30, l30, c30⟩ := c.def_ 30 (d := d_Draft_add_column) rfl
  obtain ⟨oc31, od31, sl31, kV31, dc31, pm31, an31, cd31, ct31, l31, c31⟩ := c.def_ 31 (d := d_Draft_add_kind) rfl
  obtain ⟨oc32, od32, sl32, kV32, dc32, pm32, an32, cd32, ct32, l32, c32⟩ := c.def_ 32 (d := d_Draft_add_person) rfl
  obtain ⟨oc33, od33, sl33, kV33, dc33, pm33, an33, cd33, ct33, l33, c33⟩ := c.def_ 33 (d := d_Register___init__) rfl
  obtain ⟨oc34, od34, sl34, kV34, dc34, pm34, an34, cd34, ct34, l34, c34⟩ := c.def_ 34 (d := d_Register___eq__) rfl
  obtain ⟨oc35, od35, sl35, kV35, dc35, pm35, an35, cd35, ct35, l35, c35⟩ := c.def_ 35 (d := d_Register___len__) rfl
  obtain ⟨oc36, od36, sl36, kV36, dc36, pm36, an36, cd36, ct36, l36, c36⟩ := c.def_ 36 (d := d_draft_in) rfl
  obtain ⟨oc37, od37, sl37, kV37, dc37, pm37, an37, cd37, ct37, l37, c37⟩ := c.def_ 37 (d := d_add_line) rfl
  obtain ⟨oc38, od38, sl38, kV38, dc38, pm38, an38, cd38, ct38, l38, c38⟩ := c.def_ 38 (d := d_kind_in) rfl
  obtain ⟨oc39, od39, sl39, kV39, dc39, pm39, an39, cd39, ct39, l39, c39⟩ := c.def_ 39 (d := d_person_in) rfl
  obtain ⟨oc40, od40, sl40, kV40, dc40, pm40, an40, cd40, ct40, l40, c40⟩ := c.def_ 40 (d := d_is_kinds_column) rfl
  obtain ⟨oc41, od41, sl41, kV41, dc41, pm41, an41, cd41, ct41, l41, c41⟩ := c.def_ 41 (d := d_scale_of) rfl
  obtain ⟨oc42, od42, sl42, kV42, dc42, pm42, an42, cd42, ct42, l42, c42⟩ := c.def_ 42 (d := d_scale_of_marks) rfl
  obtain ⟨oc43, od43, sl43, kV43, dc43, pm43, an43, cd43, ct43, l43, c43⟩ := c.def_ 43 (d := d_is_mark) rfl
  obtain ⟨oc44, od44, sl44, kV44, dc44, pm44, an44, cd44, ct44, l44, c44⟩ := c.def_ 44 (d := d_covers) rfl
  obtain ⟨oc45, od45, sl45, kV45, dc45, pm45, an45, cd45, ct45, l45, c45⟩ := c.def_ 45 (d := d_is_finer) rfl
  obtain ⟨oc46, od46, sl46, kV46, dc46, pm46, an46, cd46, ct46, l46, c46⟩ := c.def_ 46 (d := d_joined_mark) rfl
  obtain ⟨oc47, od47, sl47, kV47, dc47, pm47, an47, cd47, ct47, l47, c47⟩ := c.def_ 47 (d := d_common_mark) rfl
  obtain ⟨oc48, od48, sl48, kV48, dc48, pm48, an48, cd48, ct48, l48, c48⟩ := c.def_ 48 (d := d_least_mark) rfl
  obtain ⟨oc49, od49, sl49, kV49, dc49, pm49, an49, cd49, ct49, l49, c49⟩ := c.def_ 49 (d := d__law_pot) rfl
  obtain ⟨oc50, od50, sl50, kV50, dc50, pm50, an50, cd50, ct50, l50, c50⟩ := c.def_ 50 (d := d__law_take) rfl
  obtain ⟨oc51, od51, sl51, kV51, dc51, pm51, an51, cd51, ct51, l51, c51⟩ := c.def_ 51 (d := d__law_of) rfl
  obtain ⟨oc52, od52, sl52, kV52, dc52, pm52, an52, cd52, ct52, l52, c52⟩ := c.def_ 52 (d := d__law_some) rfl
  obtain ⟨oc53, od53, sl53, kV53, dc53, pm53, an53, cd53, ct53, l53, c53⟩ := c.def_ 53 (d := d__law_cells) rfl
  obtain ⟨oc54, od54, sl54, kV54, dc54, pm54, an54, cd54, ct54, l54, c54⟩ := c.def_ 54 (d := d__law_names) rfl
  obtain ⟨oc55, od55, sl55, kV55, dc55, pm55, an55, cd55, ct55, l55, c55⟩ := c.def_ 55 (d := d__law_kinds) rfl
  obtain ⟨oc56, od56, sl56, kV56, dc56, pm56, an56, cd56, ct56, l56, c56⟩ := c.def_ 56 (d := d__law_kind_names) rfl
  obtain ⟨oc57, od57, sl57, kV57, dc57, pm57, an57, cd57, ct57, l57, c57⟩ := c.def_ 57 (d := d__law_values) rfl
  obtain ⟨oc58, od58, sl58, kV58, dc58, pm58, an58, cd58, ct58, l58, c58⟩ := c.def_ 58 (d := d__law_register) rfl
  obtain ⟨oc59, od59, sl59, kV59, dc59, pm59, an59, cd59, ct59, l59, c59⟩ := c.def_ 59 (d := d__law_register_text) rfl
  obtain ⟨oc60, od60, sl60, kV60, dc60, pm60, an60, cd60, ct60, l60, c60⟩ := c.def_ 60 (d := d__law_chain) rfl
  obtain ⟨oc61, od61, sl61, kV61, dc61, pm61, an61, cd61, ct61, l61, c61⟩ := c.def_ 61 (d := d__law_does_cover) rfl
  obtain ⟨oc62, od62, sl62, kV62, dc62, pm62, an62, cd62, ct62, l62, c62⟩ := c.def_ 62 (d := d__law_a_mark) rfl
  obtain ⟨oc63, od63, sl63, kV63, dc63, pm63, an63, cd63, ct63, l63, c63⟩ := c.def_ 63 (d := d__law_under) rfl
  obtain ⟨oc64, od64, sl64, kV64, dc64, pm64, an64, cd64, ct64, l64, c64⟩ := c.def_ 64 (d := d__law_joined) rfl
  obtain ⟨oc65, od65, sl65, kV65, dc65, pm65, an65, cd65, ct65, l65, c65⟩ := c.def_ 65 (d := d__law_common) rfl
  obtain ⟨oc66, od66, sl66, kV66, dc66, pm66, an66, cd66, ct66, l66, c66⟩ := c.def_ 66 (d := d__law_is_pair_right) rfl
  obtain ⟨oc67, od67, sl67, kV67, dc67, pm67, an67, cd67, ct67, l67, c67⟩ := c.def_ 67 (d := d__law_is_least_right) rfl
  obtain ⟨oc68, od68, sl68, kV68, dc68, pm68, an68, cd68, ct68, l68, c68⟩ := c.def_ 68 (d := d__law_are_odd_told) rfl
  obtain ⟨oc69, od69, sl69, kV69, dc69, pm69, an69, cd69, ct69, l69, c69⟩ := c.def_ 69 (d := d__law_right) rfl
  obtain ⟨oc70, od70, sl70, kV70, dc70, pm70, an70, cd70, ct70, l70, c70⟩ := c.def_ 70 (d := d_law) rfl
  obtain ⟨y0, x⟩ := He.ba x
  obtain ⟨y1, x⟩ := He.ba x
  obtain ⟨y2, x⟩ := He.ba x
  obtain ⟨y3, x⟩ := He.ba x
  obtain ⟨y4, x⟩ := He.ba x
  obtain ⟨y5, x⟩ := He.ba x
  obtain ⟨y6, x⟩ := He.ba x
  obtain ⟨y7, x⟩ := He.ba x
  obtain ⟨y8, x⟩ := He.ba x
  obtain ⟨y9, x⟩ := He.ba x
  obtain ⟨y10, x⟩ := He.ba x
  obtain ⟨y11, x⟩ := He.ba x
  obtain ⟨y12, x⟩ := He.ba x
  obtain ⟨y13, x⟩ := He.ba x
  obtain ⟨y14, x⟩ := He.ba x
  obtain ⟨y15, x⟩ := He.ba x
  obtain ⟨y16, x⟩ := He.ba x
  obtain ⟨y17, x⟩ := He.ba x
  obtain ⟨y18, x⟩ := He.ba x
  obtain ⟨y19, x⟩ := He.ba x
  obtain ⟨y20, x⟩ := He.ba x
  obtain ⟨y21, x⟩ := He.ba x
  obtain ⟨y22, x⟩ := He.ba x
  obtain ⟨y23, x⟩ := He.ba x
  obtain ⟨y24, x⟩ := He.ba x
  obtain ⟨y25, x⟩ := He.ba x
  obtain ⟨y26, x⟩ := He.ba x
  obtain ⟨y27, x⟩ := He.ba x
  obtain ⟨y28, x⟩ := He.ba x
  obtain ⟨y29, x⟩ := He.ba x
  obtain ⟨y30, x⟩ := He.ba x
  obtain ⟨y31, x⟩ := He.ba x
  have y32 := x
  exact ⟨{
    a_CrowdError___init__ := He.fAd K ("CrowdError", some "__init__"), fd_CrowdError___init__ := _, F_CrowdError___init__ := fun_mk (st := s_CrowdError___init__) l0 c0 (kk 0 (d := d_CrowdError___init__) rfl),
    a_is_integer := He.fAd K ("is_integer", none), fd_is_integer := _, F_is_integer := fun_mk (st := s_is_integer) l1 c1 (kk 1 (d := d_is_integer) rfl),
    m_is_integer := He.glo_ok X G (c.fact 0 (f := .glo "is_integer") rfl),
    a_is_name := He.fAd K ("is_name", none), fd_is_name := _, F_is_name := fun_mk (st := s_is_name) l2 c2 (kk 2 (d := d_is_name) rfl),
    m_is_name := He.glo_ok X G (c.fact 1 (f := .glo "is_name") rfl),
    a_is_tuple_of := He.fAd K ("is_tuple_of", none), fd_is_tuple_of := _, F_is_tuple_of := fun_mk (st := s_is_tuple_of) l3 c3 (kk 3 (d := d_is_tuple_of) rfl),
    m_is_tuple_of := He.glo_ok X G (c.fact 2 (f := .glo "is_tuple_of") rfl),
    a_integer_in := He.fAd K ("integer_in", none), fd_integer_in := _, F_integer_in := fun_mk (st := s_integer_in) l4 c4 (kk 4 (d := d_integer_in) rfl),
    m_integer_in := He.glo_ok X G (c.fact 3 (f := .glo "integer_in") rfl),
    a_values_stand := He.fAd K ("values_stand", none), fd_values_stand := _, F_values_stand := fun_mk (st := s_values_stand) l5 c5 (kk 5 (d := d_values_stand) rfl),
    m_values_stand := He.glo_ok X G (c.fact 4 (f := .glo "values_stand") rfl),
    a_is_line_value := He.fAd K ("is_line_value", none), fd_is_line_value := _, F_is_line_value := fun_mk (st := s_is_line_value) l6 c6 (kk 6 (d := d_is_line_value) rfl),
    m_is_line_value := He.glo_ok X G (c.fact 5 (f := .glo "is_line_value") rfl),
    a_Line_is_value := He.fAd K ("Line", some "is_value"), fd_Line_is_value := _, F_Line_is_value := fun_mk (st := s_Line_is_value) l7 c7 (kk 7 (d := d_Line_is_value) rfl),
    a_Line_is_mark := He.fAd K ("Line", some "is_mark"), fd_Line_is_mark := _, F_Line_is_mark := fun_mk (st := s_Line_is_mark) l8 c8 (kk 8 (d := d_Line_is_mark) rfl),
    a_Line_value_in := He.fAd K ("Line", some "value_in"), fd_Line_value_in := _, F_Line_value_in := fun_mk (st := s_Line_value_in) l9 c9 (kk 9 (d := d_Line_value_in) rfl),
    a_Line_covers := He.fAd K ("Line", some "covers"), fd_Line_covers := _, F_Line_covers := fun_mk (st := s_Line_covers) l10 c10 (kk 10 (d := d_Line_covers) rfl),
    a_Line_is_finer := He.fAd K ("Line", some "is_finer"), fd_Line_is_finer := _, F_Line_is_finer := fun_mk (st := s_Line_is_finer) l11 c11 (kk 11 (d := d_Line_is_finer) rfl),
    a_Line_joined := He.fAd K ("Line", some "joined"), fd_Line_joined := _, F_Line_joined := fun_mk (st := s_Line_joined) l12 c12 (kk 12 (d := d_Line_joined) rfl),
    a_Line_common := He.fAd K ("Line", some "common"), fd_Line_common := _, F_Line_common := fun_mk (st := s_Line_common) l13 c13 (kk 13 (d := d_Line_common) rfl),
    a_Line_least := He.fAd K ("Line", some "least"), fd_Line_least := _, F_Line_least := fun_mk (st := s_Line_least) l14 c14 (kk 14 (d := d_Line_least) rfl),
    a_Line_loss := He.fAd K ("Line", some "loss"), fd_Line_loss := _, F_Line_loss := fun_mk (st := s_Line_loss) l15 c15 (kk 15 (d := d_Line_loss) rfl),
    a_Tree___init__ := He.fAd K ("Tree", some "__init__"), fd_Tree___init__ := _, F_Tree___init__ := fun_mk (st := s_Tree___init__) l16 c16 (kk 16 (d := d_Tree___init__) rfl),
    a_Tree_add_kind := He.fAd K ("Tree", some "add_kind"), fd_Tree_add_kind := _, F_Tree_add_kind := fun_mk (st := s_Tree_add_kind) l17 c17 (kk 17 (d := d_Tree_add_kind) rfl),
    a_Tree__can_be_up := He.fAd K ("Tree", some "_can_be_up"), fd_Tree__can_be_up := _, F_Tree__can_be_up := fun_mk (st := s_Tree__can_be_up) l18 c18 (kk 18 (d := d_Tree__can_be_up) rfl),
    a_Tree_is_value := He.fAd K ("Tree", some "is_value"), fd_Tree_is_value := _, F_Tree_is_value := fun_mk (st := s_Tree_is_value) l19 c19 (kk 19 (d := d_Tree_is_value) rfl),
    a_Tree_is_mark := He.fAd K ("Tree", some "is_mark"), fd_Tree_is_mark := _, F_Tree_is_mark := fun_mk (st := s_Tree_is_mark) l20 c20 (kk 20 (d := d_Tree_is_mark) rfl),
    a_Tree_value_in := He.fAd K ("Tree", some "value_in"), fd_Tree_value_in := _, F_Tree_value_in := fun_mk (st := s_Tree_value_in) l21 c21 (kk 21 (d := d_Tree_value_in) rfl),
    a_Tree_covers := He.fAd K ("Tree", some "covers"), fd_Tree_covers := _, F_Tree_covers := fun_mk (st := s_Tree_covers) l22 c22 (kk 22 (d := d_Tree_covers) rfl),
    a_Tree_is_finer := He.fAd K ("Tree", some "is_finer"), fd_Tree_is_finer := _, F_Tree_is_finer := fun_mk (st := s_Tree_is_finer) l23 c23 (kk 23 (d := d_Tree_is_finer) rfl),
    a_Tree_joined := He.fAd K ("Tree", some "joined"), fd_Tree_joined := _, F_Tree_joined := fun_mk (st := s_Tree_joined) l24 c24 (kk 24 (d := d_Tree_joined) rfl),
    a_Tree_common := He.fAd K ("Tree", some "common"), fd_Tree_common := _, F_Tree_common := fun_mk (st := s_Tree_common) l25 c25 (kk 25 (d := d_Tree_common) rfl),
    a_Tree_least := He.fAd K ("Tree", some "least"), fd_Tree_least := _, F_Tree_least := fun_mk (st := s_Tree_least) l26 c26 (kk 26 (d := d_Tree_least) rfl),
    a_Tree_loss := He.fAd K ("Tree", some "loss"), fd_Tree_loss := _, F_Tree_loss := fun_mk (st := s_Tree_loss) l27 c27 (kk 27 (d := d_Tree_loss) rfl),
    a_Draft___init__ := He.fAd K ("Draft", some "__init__"), fd_Draft___init__ := _, F_Draft___init__ := fun_mk (st := s_Draft___init__) l28 c28 (kk 28 (d := d_Draft___init__) rfl),
    a_Draft_is_ready := He.fAd K ("Draft", some "is_ready"), fd_Draft_is_ready := _, F_Draft_is_ready := fun_mk (st := s_Draft_is_ready) l29 c29 (kk 29 (d := d_Draft_is_ready) rfl),
    a_Draft_add_column := He.fAd K ("Draft", some "add_column"), fd_Draft_add_column := _, F_Draft_add_column := fun_mk (st := s_Draft_add_column) l30 c30 (kk 30 (d := d_Draft_add_column) rfl),
    a_Draft_add_kind := He.fAd K ("Draft", some "add_kind"), fd_Draft_add_kind := _, F_Draft_add_kind := fun_mk (st := s_Draft_add_kind) l31 c31 (kk 31 (d := d_Draft_add_kind) rfl),
    a_Draft_add_person := He.fAd K ("Draft", some "add_person"), fd_Draft_add_person := _, F_Draft_add_person := fun_mk (st := s_Draft_add_person) l32 c32 (kk 32 (d := d_Draft_add_person) rfl),
    a_Register___init__ := He.fAd K ("Register", some "__init__"), fd_Register___init__ := _, F_Register___init__ := fun_mk (st := s_Register___init__) l33 c33 (kk 33 (d := d_Register___init__) rfl),
    a_Register___eq__ := He.fAd K ("Register", some "__eq__"), fd_Register___eq__ := _, F_Register___eq__ := fun_mk (st := s_Register___eq__) l34 c34 (kk 34 (d := d_Register___eq__) rfl),
    a_Register___len__ := He.fAd K ("Register", some "__len__"), fd_Register___len__ := _, F_Register___len__ := fun_mk (st := s_Register___len__) l35 c35 (kk 35 (d := d_Register___len__) rfl),
    a_draft_in := He.fAd K ("draft_in", none), fd_draft_in := _, F_draft_in := fun_mk (st := s_draft_in) l36 c36 (kk 36 (d := d_draft_in) rfl),
    m_draft_in := He.glo_ok X G (c.fact 6 (f := .glo "draft_in") rfl),
    a_add_line := He.fAd K ("add_line", none), fd_add_line := _, F_add_line := fun_mk (st := s_add_line) l37 c37 (kk 37 (d := d_add_line) rfl),
    m_add_line := He.glo_ok X G (c.fact 7 (f := .glo "add_line") rfl),
    a_kind_in := He.fAd K ("kind_in", none), fd_kind_in := _, F_kind_in := fun_mk (st := s_kind_in) l38 c38 (kk 38 (d := d_kind_in) rfl),
    m_kind_in := He.glo_ok X G (c.fact 8 (f := .glo "kind_in") rfl),
    a_person_in := He.fAd K ("person_in", none), fd_person_in := _, F_person_in := fun_mk (st := s_person_in) l39 c39 (kk 39 (d := d_person_in) rfl),
    m_person_in := He.glo_ok X G (c.fact 9 (f := .glo "person_in") rfl),
    a_is_kinds_column := He.fAd K ("is_kinds_column", none), fd_is_kinds_column := _, F_is_kinds_column := fun_mk (st := s_is_kinds_column) l40 c40 (kk 40 (d := d_is_kinds_column) rfl),
    m_is_kinds_column := He.glo_ok X G (c.fact 10 (f := .glo "is_kinds_column") rfl),
    a_scale_of := He.fAd K ("scale_of", none), fd_scale_of := _, F_scale_of := fun_mk (st := s_scale_of) l41 c41 (kk 41 (d := d_scale_of) rfl),
    m_scale_of := He.glo_ok X G (c.fact 11 (f := .glo "scale_of") rfl),
    a_scale_of_marks := He.fAd K ("scale_of_marks", none), fd_scale_of_marks := _, F_scale_of_marks := fun_mk (st := s_scale_of_marks) l42 c42 (kk 42 (d := d_scale_of_marks) rfl),
    m_scale_of_marks := He.glo_ok X G (c.fact 12 (f := .glo "scale_of_marks") rfl),
    a_is_mark := He.fAd K ("is_mark", none), fd_is_mark := _, F_is_mark := fun_mk (st := s_is_mark) l43 c43 (kk 43 (d := d_is_mark) rfl),
    m_is_mark := He.glo_ok X G (c.fact 13 (f := .glo "is_mark") rfl),
    a_covers := He.fAd K ("covers", none), fd_covers := _, F_covers := fun_mk (st := s_covers) l44 c44 (kk 44 (d := d_covers) rfl),
    m_covers := He.glo_ok X G (c.fact 14 (f := .glo "covers") rfl),
    a_is_finer := He.fAd K ("is_finer", none), fd_is_finer := _, F_is_finer := fun_mk (st := s_is_finer) l45 c45 (kk 45 (d := d_is_finer) rfl),
    m_is_finer := He.glo_ok X G (c.fact 15 (f := .glo "is_finer") rfl),
    a_joined_mark := He.fAd K ("joined_mark", none), fd_joined_mark := _, F_joined_mark := fun_mk (st := s_joined_mark) l46 c46 (kk 46 (d := d_joined_mark) rfl),
    m_joined_mark := He.glo_ok X G (c.fact 16 (f := .glo "joined_mark") rfl),
    a_common_mark := He.fAd K ("common_mark", none), fd_common_mark := _, F_common_mark := fun_mk (st := s_common_mark) l47 c47 (kk 47 (d := d_common_mark) rfl),
    m_common_mark := He.glo_ok X G (c.fact 17 (f := .glo "common_mark") rfl),
    a_least_mark := He.fAd K ("least_mark", none), fd_least_mark := _, F_least_mark := fun_mk (st := s_least_mark) l48 c48 (kk 48 (d := d_least_mark) rfl),
    m_least_mark := He.glo_ok X G (c.fact 18 (f := .glo "least_mark") rfl),
    a__law_pot := He.fAd K ("_law_pot", none), fd__law_pot := _, F__law_pot := fun_mk (st := s__law_pot) l49 c49 (kk 49 (d := d__law_pot) rfl),
    m__law_pot := He.glo_ok X G (c.fact 19 (f := .glo "_law_pot") rfl),
    a__law_take := He.fAd K ("_law_take", none), fd__law_take := _, F__law_take := fun_mk (st := s__law_take) l50 c50 (kk 50 (d := d__law_take) rfl),
    m__law_take := He.glo_ok X G (c.fact 20 (f := .glo "_law_take") rfl),
    a__law_of := He.fAd K ("_law_of", none), fd__law_of := _, F__law_of := fun_mk (st := s__law_of) l51 c51 (kk 51 (d := d__law_of) rfl),
    m__law_of := He.glo_ok X G (c.fact 21 (f := .glo "_law_of") rfl),
    a__law_some := He.fAd K ("_law_some", none), fd__law_some := _, F__law_some := fun_mk (st := s__law_some) l52 c52 (kk 52 (d := d__law_some) rfl),
    m__law_some := He.glo_ok X G (c.fact 22 (f := .glo "_law_some") rfl),
    a__law_cells := He.fAd K ("_law_cells", none), fd__law_cells := _, F__law_cells := fun_mk (st := s__law_cells) l53 c53 (kk 53 (d := d__law_cells) rfl),
    m__law_cells := He.glo_ok X G (c.fact 23 (f := .glo "_law_cells") rfl),
    a__law_names := He.fAd K ("_law_names", none), fd__law_names := _, F__law_names := fun_mk (st := s__law_names) l54 c54 (kk 54 (d := d__law_names) rfl),
    m__law_names := He.glo_ok X G (c.fact 24 (f := .glo "_law_names") rfl),
    a__law_kinds := He.fAd K ("_law_kinds", none), fd__law_kinds := _, F__law_kinds := fun_mk (st := s__law_kinds) l55 c55 (kk 55 (d := d__law_kinds) rfl),
    m__law_kinds := He.glo_ok X G (c.fact 25 (f := .glo "_law_kinds") rfl),
    a__law_kind_names := He.fAd K ("_law_kind_names", none), fd__law_kind_names := _, F__law_kind_names := fun_mk (st := s__law_kind_names) l56 c56 (kk 56 (d := d__law_kind_names) rfl),
    m__law_kind_names := He.glo_ok X G (c.fact 26 (f := .glo "_law_kind_names") rfl),
    a__law_values := He.fAd K ("_law_values", none), fd__law_values := _, F__law_values := fun_mk (st := s__law_values) l57 c57 (kk 57 (d := d__law_values) rfl),
    m__law_values := He.glo_ok X G (c.fact 27 (f := .glo "_law_values") rfl),
    a__law_register := He.fAd K ("_law_register", none), fd__law_register := _, F__law_register := fun_mk (st := s__law_register) l58 c58 (kk 58 (d := d__law_register) rfl),
    m__law_register := He.glo_ok X G (c.fact 28 (f := .glo "_law_register") rfl),
    a__law_register_text := He.fAd K ("_law_register_text", none), fd__law_register_text := _, F__law_register_text := fun_mk (st := s__law_register_text) l59 c59 (kk 59 (d := d__law_register_text) rfl),
    m__law_register_text := He.glo_ok X G (c.fact 29 (f := .glo "_law_register_text") rfl),
    a__law_chain := He.fAd K ("_law_chain", none), fd__law_chain := _, F__law_chain := fun_mk (st := s__law_chain) l60 c60 (kk 60 (d := d__law_chain) rfl),
    m__law_chain := He.glo_ok X G (c.fact 30 (f := .glo "_law_chain") rfl),
    a__law_does_cover := He.fAd K ("_law_does_cover", none), fd__law_does_cover := _, F__law_does_cover := fun_mk (st := s__law_does_cover) l61 c61 (kk 61 (d := d__law_does_cover) rfl),
    m__law_does_cover := He.glo_ok X G (c.fact 31 (f := .glo "_law_does_cover") rfl),
    a__law_a_mark := He.fAd K ("_law_a_mark", none), fd__law_a_mark := _, F__law_a_mark := fun_mk (st := s__law_a_mark) l62 c62 (kk 62 (d := d__law_a_mark) rfl),
    m__law_a_mark := He.glo_ok X G (c.fact 32 (f := .glo "_law_a_mark") rfl),
    a__law_under := He.fAd K ("_law_under", none), fd__law_under := _, F__law_under := fun_mk (st := s__law_under) l63 c63 (kk 63 (d := d__law_under) rfl),
    m__law_under := He.glo_ok X G (c.fact 33 (f := .glo "_law_under") rfl),
    a__law_joined := He.fAd K ("_law_joined", none), fd__law_joined := _, F__law_joined := fun_mk (st := s__law_joined) l64 c64 (kk 64 (d := d__law_joined) rfl),
    m__law_joined := He.glo_ok X G (c.fact 34 (f := .glo "_law_joined") rfl),
    a__law_common := He.fAd K ("_law_common", none), fd__law_common := _, F__law_common := fun_mk (st := s__law_common) l65 c65 (kk 65 (d := d__law_common) rfl),
    m__law_common := He.glo_ok X G (c.fact 35 (f := .glo "_law_common") rfl),
    a__law_is_pair_right := He.fAd K ("_law_is_pair_right", none), fd__law_is_pair_right := _, F__law_is_pair_right := fun_mk (st := s__law_is_pair_right) l66 c66 (kk 66 (d := d__law_is_pair_right) rfl),
    m__law_is_pair_right := He.glo_ok X G (c.fact 36 (f := .glo "_law_is_pair_right") rfl),
    a__law_is_least_right := He.fAd K ("_law_is_least_right", none), fd__law_is_least_right := _, F__law_is_least_right := fun_mk (st := s__law_is_least_right) l67 c67 (kk 67 (d := d__law_is_least_right) rfl),
    m__law_is_least_right := He.glo_ok X G (c.fact 37 (f := .glo "_law_is_least_right") rfl),
    a__law_are_odd_told := He.fAd K ("_law_are_odd_told", none), fd__law_are_odd_told := _, F__law_are_odd_told := fun_mk (st := s__law_are_odd_told) l68 c68 (kk 68 (d := d__law_are_odd_told) rfl),
    m__law_are_odd_told := He.glo_ok X G (c.fact 38 (f := .glo "_law_are_odd_told") rfl),
    a__law_right := He.fAd K ("_law_right", none), fd__law_right := _, F__law_right := fun_mk (st := s__law_right) l69 c69 (kk 69 (d := d__law_right) rfl),
    m__law_right := He.glo_ok X G (c.fact 39 (f := .glo "_law_right") rfl),
    a_law := He.fAd K ("law", none), fd_law := _, F_law := fun_mk (st := s_law) l70 c70 (kk 70 (d := d_law) rfl),
    m_law := He.glo_ok X G (c.fact 40 (f := .glo "law") rfl),
    m_FARTHEST := He.int_ok X G (c.fact 41 (f := .int "FARTHEST" 1000000) rfl),
    m_FIGURES := He.str_ok X G (c.fact 42 (f := .str "FIGURES" "0123456789") rfl),
    m_MOST_COLUMNS := He.int_ok X G (c.fact 43 (f := .int "MOST_COLUMNS" 4) rfl),
    m_MOST_FIGURES := He.int_ok X G (c.fact 44 (f := .int "MOST_FIGURES" 9) rfl),
    m_MOST_KINDS := He.int_ok X G (c.fact 45 (f := .int "MOST_KINDS" 60) rfl),
    m_MOST_LOSS := He.int_ok X G (c.fact 46 (f := .int "MOST_LOSS" 1000000) rfl),
    m_MOST_PERSONS := He.int_ok X G (c.fact 47 (f := .int "MOST_PERSONS" 60) rfl),
    m_MOST_SIGNS := He.int_ok X G (c.fact 48 (f := .int "MOST_SIGNS" 12) rfl),
    m_SIGNS := He.str_ok X G (c.fact 49 (f := .str "SIGNS" "abcdefghijklmnopqrstuvwxyz0123456789") rfl),
    n_abs := He.free_ok X G (c.fact 50 (f := .free "abs") rfl),
    n_all := He.free_ok X G (c.fact 51 (f := .free "all") rfl),
    n_bool := He.free_ok X G (c.fact 52 (f := .free "bool") rfl),
    n_dict := He.free_ok X G (c.fact 53 (f := .free "dict") rfl),
    n_enumerate := He.free_ok X G (c.fact 54 (f := .free "enumerate") rfl),
    n_int := He.free_ok X G (c.fact 55 (f := .free "int") rfl),
    n_isinstance := He.free_ok X G (c.fact 56 (f := .free "isinstance") rfl),
    n_len := He.free_ok X G (c.fact 57 (f := .free "len") rfl),
    n_list := He.free_ok X G (c.fact 58 (f := .free "list") rfl),
    n_max := He.free_ok X G (c.fact 59 (f := .free "max") rfl),
    n_min := He.free_ok X G (c.fact 60 (f := .free "min") rfl),
    n_range := He.free_ok X G (c.fact 61 (f := .free "range") rfl),
    n_repr := He.free_ok X G (c.fact 62 (f := .free "repr") rfl),
    n_set := He.free_ok X G (c.fact 63 (f := .free "set") rfl),
    n_sorted := He.free_ok X G (c.fact 64 (f := .free "sorted") rfl),
    n_str := He.free_ok X G (c.fact 65 (f := .free "str") rfl),
    n_sum := He.free_ok X G (c.fact 66 (f := .free "sum") rfl),
    n_tuple := He.free_ok X G (c.fact 67 (f := .free "tuple") rfl),
    n_zip := He.free_ok X G (c.fact 68 (f := .free "zip") rfl),
    C_Line := He.ga K "Line", m_Line := He.glo_ok X G (c.fact 69 (f := .glo "Line") rfl),
    cl_Line := He.cls_ok (c.fact 70 (f := .cls "Line") rfl),
    me_Line_is_value := He.meth_ok (c.fact 71 (f := .meth "Line" "is_value") rfl),
    me_Line_is_mark := He.meth_ok (c.fact 72 (f := .meth "Line" "is_mark") rfl),
    me_Line_value_in := He.meth_ok (c.fact 73 (f := .meth "Line" "value_in") rfl),
    me_Line_covers := He.meth_ok (c.fact 74 (f := .meth "Line" "covers") rfl),
    me_Line_is_finer := He.meth_ok (c.fact 75 (f := .meth "Line" "is_finer") rfl),
    me_Line_joined := He.meth_ok (c.fact 76 (f := .meth "Line" "joined") rfl),
    me_Line_common := He.meth_ok (c.fact 77 (f := .meth "Line" "common") rfl),
    me_Line_least := He.meth_ok (c.fact 78 (f := .meth "Line" "least") rfl),
    me_Line_loss := He.meth_ok (c.fact 79 (f := .meth "Line" "loss") rfl),
    C_Tree := He.ga K "Tree", m_Tree := He.glo_ok X G (c.fact 80 (f := .glo "Tree") rfl),
    cl_Tree := He.cls_ok (c.fact 81 (f := .cls "Tree") rfl),
    M_Tree := He.mkr_ok (c.fact 82 (f := .mkr "Tree") rfl),
    me_Tree_add_kind := He.meth_ok (c.fact 83 (f := .meth "Tree" "add_kind") rfl),
    me_Tree__can_be_up := He.meth_ok (c.fact 84 (f := .meth "Tree" "_can_be_up") rfl),
    me_Tree_is_value := He.meth_ok (c.fact 85 (f := .meth "Tree" "is_value") rfl),
    me_Tree_is_mark := He.meth_ok (c.fact 86 (f := .meth "Tree" "is_mark") rfl),
    me_Tree_value_in := He.meth_ok (c.fact 87 (f := .meth "Tree" "value_in") rfl),
    me_Tree_covers := He.meth_ok (c.fact 88 (f := .meth "Tree" "covers") rfl),
    me_Tree_is_finer := He.meth_ok (c.fact 89 (f := .meth "Tree" "is_finer") rfl),
    me_Tree_joined := He.meth_ok (c.fact 90 (f := .meth "Tree" "joined") rfl),
    me_Tree_common := He.meth_ok (c.fact 91 (f := .meth "Tree" "common") rfl),
    me_Tree_least := He.meth_ok (c.fact 92 (f := .meth "Tree" "least") rfl),
    me_Tree_loss := He.meth_ok (c.fact 93 (f := .meth "Tree" "loss") rfl),
    na_Tree_ups := He.noat_ok (c.fact 94 (f := .noat "Tree" "ups") rfl),
    na_Tree_losses := He.noat_ok (c.fact 95 (f := .noat "Tree" "losses") rfl),
    C_Draft := He.ga K "Draft", m_Draft := He.glo_ok X G (c.fact 96 (f := .glo "Draft") rfl),
    cl_Draft := He.cls_ok (c.fact 97 (f := .cls "Draft") rfl),
    M_Draft := He.mkr_ok (c.fact 98 (f := .mkr "Draft") rfl),
    me_Draft_is_ready := He.meth_ok (c.fact 99 (f := .meth "Draft" "is_ready") rfl),
    me_Draft_add_column := He.meth_ok (c.fact 100 (f := .meth "Draft" "add_column") rfl),
    me_Draft_add_kind := He.meth_ok (c.fact 101 (f := .meth "Draft" "add_kind") rfl),
    me_Draft_add_person := He.meth_ok (c.fact 102 (f := .meth "Draft" "add_person") rfl),
    na_Draft_columns := He.noat_ok (c.fact 103 (f := .noat "Draft" "columns") rfl),
    na_Draft_kinds := He.noat_ok (c.fact 104 (f := .noat "Draft" "kinds") rfl),
    na_Draft_persons := He.noat_ok (c.fact 105 (f := .noat "Draft" "persons") rfl),
    na_Draft_scales := He.noat_ok (c.fact 106 (f := .noat "Draft" "scales") rfl),
    na_Draft_numbers := He.noat_ok (c.fact 107 (f := .noat "Draft" "numbers") rfl),
    C_Register := He.ga K "Register", m_Register := He.glo_ok X G (c.fact 108 (f := .glo "Register") rfl),
    cl_Register := He.cls_ok (c.fact 109 (f := .cls "Register") rfl),
    M_Register := He.mkr_ok (c.fact 110 (f := .mkr "Register") rfl),
    me_Register___eq__ := He.meth_ok (c.fact 111 (f := .meth "Register" "__eq__") rfl),
    me_Register___len__ := He.meth_ok (c.fact 112 (f := .meth "Register" "__len__") rfl),
    na_Register_text := He.noat_ok (c.fact 113 (f := .noat "Register" "text") rfl),
    na_Register_columns := He.noat_ok (c.fact 114 (f := .noat "Register" "columns") rfl),
    na_Register_kinds := He.noat_ok (c.fact 115 (f := .noat "Register" "kinds") rfl),
    na_Register_persons := He.noat_ok (c.fact 116 (f := .noat "Register" "persons") rfl),
    na_Register_scales := He.noat_ok (c.fact 117 (f := .noat "Register" "scales") rfl),
    na_Register_numbers := He.noat_ok (c.fact 118 (f := .noat "Register" "numbers") rfl),
    MO_Line := mkoB_ok y0,
    tn_get := He.eqO_ok y1,
    tn_takes := of_decide_eq_true y2,
    tc_Line := He.eqO_ok y3,
    tm_Line := of_decide_eq_true y4,
    tc_Tree := He.eqO_ok y5,
    tm_Tree := of_decide_eq_true y6,
    tc_Draft := He.eqO_ok y7,
    tm_Draft := of_decide_eq_true y8,
    tc_Register := He.eqO_ok y9,
    tm_Register := of_decide_eq_true y10,
    ki_Line_Register := of_decide_eq_true y11,
    ki_Tree_Register := of_decide_eq_true y12,
    ki_Draft_Register := of_decide_eq_true y13,
    ki_Register_Register := of_decide_eq_true y14,
    ki_NoneType_Register := of_decide_eq_true y15,
    ki_bool_Register := of_decide_eq_true y16,
    ki_int_Register := of_decide_eq_true y17,
    ki_str_Register := of_decide_eq_true y18,
    ki_tuple_Register := of_decide_eq_true y19,
    ki_list_Register := of_decide_eq_true y20,
    ki_dict_Register := of_decide_eq_true y21,
    ki_Line_Tree := of_decide_eq_true y22,
    ki_Tree_Tree := of_decide_eq_true y23,
    ki_Draft_Tree := of_decide_eq_true y24,
    ki_Register_Tree := of_decide_eq_true y25,
    ki_NoneType_Tree := of_decide_eq_true y26,
    ki_bool_Tree := of_decide_eq_true y27,
    ki_int_Tree := of_decide_eq_true y28,
    ki_str_Tree := of_decide_eq_true y29,
    ki_tuple_Tree := of_decide_eq_true y30,
    ki_list_Tree := of_decide_eq_true y31,
    ki_dict_Tree := of_decide_eq_true y32 }⟩
abbrev R : PySem.W.OpenRow := PySem.W.OpenLaw.row PySem.Challenge.rw_alikecrowds_k06_marks_finer_joined_least
abbrev hk : PySem.W.Hook := HX.hookX nmL faL fnL xB
def ob (s : PySem.W.SharedT) : He.Al × Bool := HX.obsX nmL faL fnL xB (HandSHeadRun.getT s)
theorem ob_eq (s : PySem.W.SharedT) : ob s = hk.obs s.abs := HX.obsX_eq (HandSHeadRun.getT_eq s)
def looseL : List PySem.Str := (["_wall", "CrowdError", "BadRegister", "NoColumn", "BadMark", "BadValue", "BadValues", "SIGNS", "FIGURES", "MOST_SIGNS", "MOST_FIGURES", "FARTHEST", "MOST_LOSS", "MOST_KINDS", "is_integer", "is_name", "is_tuple_of", "integer_in", "values_stand", "is_line_value", "Line", "Tree", "MOST_COLUMNS", "MOST_PERSONS", "Draft", "Register", "draft_in", "add_line", "kind_in", "person_in"] : List PySem.Str) ++ (["is_kinds_column", "scale_of", "scale_of_marks", "is_mark", "covers", "is_finer", "joined_mark", "common_mark", "least_mark", "_law_pot", "_law_take", "_law_of", "_law_some", "_law_cells", "_law_names", "_law_kinds", "_law_kind_names", "_law_values", "_law_register", "_law_register_text", "_law_chain", "_law_does_cover", "_law_a_mark", "_law_under", "_law_joined", "_law_common", "_law_is_pair_right", "_law_is_least_right", "_law_are_odd_told", "_law_right"] : List PySem.Str)
abbrev vw : Program := PySem.W.view R.prog [65]
theorem finX {l : PySem.W.OpenLaw} {w : World} {K : PySem.W.Frag} {mg : Str → Option Value} {fa : Addr} (hfa : mg "law" = some (.ref fa)) (t : Nonempty (Tx K mg)) :
    ∃ fd : FuncData, (∀ (s : Shared) (u : Value), BindsTo s fd ⟨[u], []⟩ [("script", u)]) ∧ ∀ base : Heap, K.In base → base.Ns mainGlobals mg → FnG l.prog w K mg base 12 fa fd ["script"] (sp_law K) := by
  obtain ⟨T⟩ := t
  have e := hfa.symm.trans T.m_law
  cases e
  refine ⟨T.fd_law, ?_, fun base _ _ => ok_law T⟩
  obtain ⟨oc, od, kV, doc, pm, an, cdv, ct, osl, e, _, _⟩ := T.F_law.ex
  rw [e]
  exact fun s v => .of_eq rfl
end Toy


namespace Toy
open PySem PySem.Spec
theorem run (w : World) : HandSHeadRun.RunEq R vw hk ob 12000 looseL w := by
  intro os
  kernel_rfl
end Toy


open PySem PySem.W PySem.Calls PyProof.Rows
theorem PySem.Challenge.cw_alikecrowds_k06_marks_finer_joined_least_holds : PySem.Challenge.rw_alikecrowds_k06_marks_finer_joined_least.Holds := by
  w_on; o_law
  refine HandSHeadRun.head_any (r := OpenLaw.row PySem.Challenge.rw_alikecrowds_k06_marks_finer_joined_least) (q := Toy.vw) (H := Toy.hk) (ob := Toy.ob) (M := 12000) (loose := Toy.looseL) (d := HandSHeadRun.topDef (OpenLaw.row PySem.Challenge.rw_alikecrowds_k06_marks_finer_joined_least).prog 65) (kwd := []) Toy.ob_eq
    (by kernel_rfl) (fun s => by kernel_rfl) Toy.run (by kernel_rfl) (by kernel_rfl) (by kernel_rfl) (by rfl) (by first | assumption | decide +kernel) (by decide +kernel) ⟨rfl, rfl, rfl, rfl, rfl, by decide +kernel⟩ ?hw ?hc
  case hw => w_witness2
  case hc =>
    refine HX.walkGE (l := PySem.Challenge.rw_alikecrowds_k06_marks_finer_joined_least) (n := 63) (k := 12) (x := "script") (sp := Toy.sp_law) rfl (by decide) (by kernel_rfl) ⟨rfl, by decide, by decide⟩ ?F ?S
    case S => exact fun K H a ns hl hS => ⟨a, ns, rfl, hS, hl, fun _ => rfl⟩
    case F =>
      intro w mg fa h Y G hmg0
      obtain ⟨K, KX, c, x⟩ := Y
      have hmg : mg ("law" : PySem.Str) = some (.ref fa) := by
        have e : (HandSHeadRun.topDef (OpenLaw.row PySem.Challenge.rw_alikecrowds_k06_marks_finer_joined_least).prog 65).name = ("law" : PySem.Str) := by kernel_rfl
        rw [← e]
        exact hmg0
      obtain ⟨fd, hb, hF⟩ := Toy.finX (l := PySem.Challenge.rw_alikecrowds_k06_marks_finer_joined_least) (w := w) hmg (Toy.mk_TxX KX G c x)
      exact ⟨K, fd, KX, hb, hF⟩

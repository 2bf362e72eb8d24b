import PyProof.Rows.All
import Wide.All
import OpenK.AllK
import Wide.FinOn
import KE.GoesEnum
import HandS.ForMost
import HandS.ForExc
import HandS.Wide
import HandS.IsInst
import HandS.ExcIs
import HandS.Defaults
import HandS.DeepEq
import HandS.DictComp
import KE.KEqDict
import PySem.Challenge.RW_scopestore_k05_worths_at_points
set_option Elab.async false
set_option linter.all false
set_option maxRecDepth 100000
set_option exponentiation.threshold 10000
namespace SS
open PySem PySem.Spec PyProof.Rows L2
section
/-! ### enumerate over a tuple: one new pair a turn -/
def ItE (K : PySem.W.Frag) (a : Addr) : It where
  go := fun i H => ∃ (ys : List V) (y : V), SqT K H a ys ∧ ys[i]? = some y
  yld := fun i H v H' => ∃ T y, v = .ref T ∧ H T = none ∧ H' = upd H T (.tup [.int (i : Nat), y]) ∧ ∀ ys, SqT K H a ys → ys[i]? = some y
  stop := fun i H => ∃ ys : List V, SqT K H a ys ∧ ys.length = i
theorem turnE {P : Program} {w : World} {K : PySem.W.Frag} {es : List Expr} {kk : Nat} {tp : Pos} (a e q : Addr) :
    Turn P w K (.Tuple es kk tp) (ItE K a) [e, q] e (fun i h => (∃ old, IsEnum h e q ((i : Nat) : Int) old) ∧ h.IsTupleIter q a i ∧ e ≠ q ∧ a ≠ q ∧ e ≠ a) where
  mem := by simp
  obj := fun i h st b hb => by
    obtain ⟨⟨old, h1⟩, ⟨o, h2, _, h3⟩, _⟩ := st
    rcases (show b = e ∨ b = q by simpa using hb) with z | z
    · subst z
      exact ⟨_, h1, fun v w => nomatch w⟩
    · subst z
      exact ⟨o, h2, fun v w => by rw [h3] at w; cases w⟩
  keep := fun i h h' st k => by
    obtain ⟨⟨old, h1⟩, h2, h3⟩ := st
    exact ⟨⟨old, k e (by simp) _ h1⟩, h2.at (fun o z => k q (by simp) o z), h3⟩
  item := by
    intro X e1 e2 e3 calm i pins s σ H E I free st go
    subst e1 e2 e3
    obtain ⟨⟨old, h1⟩, h2, n1, n2, n3⟩ := st
    obtain ⟨ys, y, sq, gy⟩ := go
    obtain ⟨us, rl, at_, _⟩ := I.tuple sq
    obtain ⟨u, gu, ru⟩ := rl.get gy
    have lt : i < us.toArray.size := by
      have z := (List.getElem?_eq_some_iff.mp gu).1
      simpa using z
    have le : e < s.heap.objs.size := Heap.lt_size h1
    have lq : q < s.heap.objs.size := by
      obtain ⟨_, z, _⟩ := h2
      exact Heap.lt_size z
    refine wpAny_pyNext_enum_itemD (Draws.tuple (A := X.A.in1) (I.ok.hd calm) q a n2 us.toArray) h1
      ⟨h2, at_⟩ lt n1 (by simp [n1, n3]) fun u' h' tk pu ho st' hT hsz hk => ?_
    have eu : u' = u := by
      have z : us[i]? = some u' := by simpa using pu
      rw [gu] at z
      exact (Option.some.inj z).symm
    subst eu
    refine ⟨_, rfl, wpAny_letOwnedTupleGo_enum
      (s := { s with heap := h', toks := tk + 1 }) ho fun h2' he' sb => ?_⟩
    have T2 : h2'.get? s.heap.objs.size = some { cls := .type "tuple", data := .seq #[.int i tk, u'] } :=
      (sb.2 _ (Nat.ne_of_gt le)).trans hT
    have nw : ObjOk X.prog X.w (upd H s.heap.objs.size (.tup [.int (i : Nat), y])) h2' s.heap.objs.size (.tup [.int (i : Nat), y]) :=
      ⟨(by show 2 ≤ sizeLine; decide), [.int i tk, u'], .cons ⟨_, rfl⟩ (.cons ru .nil), ⟨_, T2, rfl, _, rfl⟩⟩
    have J : Inv X pins σ (upd H s.heap.objs.size (.tup [.int (i : Nat), y])) { s with heap := h2', toks := tk + 1 } :=
      I.turnedNew (ch := [e, q]) (fun b ob nb z => (sb.2 b (fun c => nb (by simp [c]))).trans (hk b ob (fun c => nb (by simp [c])) (fun c => nb (by simp [c])) z)) free (Nat.le_refl _) nw
    refine ⟨.ref s.heap.objs.size, _, J, rfl, ⟨_, y, rfl, I.hok.fresh (Nat.le_refl _), rfl, fun zs hz => by rw [I.tuple_inj hz sq]; exact gy⟩,
      ⟨⟨u', ?_⟩, st'.1.at (fun o z => (sb.2 q (Ne.symm n1)).trans z), n1, n2, n3⟩, fun b hb => ?_⟩
    · rw [show ((i + 1 : Nat) : Int) = (i : Int) + 1 by omega]
      exact he'
    · have lb : b < s.heap.objs.size := by
        rcases (show b = e ∨ b = q by simpa using hb) with z | z
        · rw [z]; exact le
        · rw [z]; exact lq
      rw [upd_ne (Nat.ne_of_lt lb)]
      exact (free b hb).1
  done := by
    intro X e1 e2 e3 calm i pins s σ H E I free st stp
    subst e1 e2 e3
    obtain ⟨⟨old, h1⟩, h2, n1, n2, n3⟩ := st
    obtain ⟨ys, sq, ly⟩ := stp
    obtain ⟨us, rl, at_, _⟩ := I.tuple sq
    obtain ⟨f0, f1, f2, f3, f4, f5⟩ := free q (by simp)
    have ll := rl.length
    have ei : us.toArray.size = i := by
      rw [List.size_toArray, ← ll]
      exact ly
    refine wpAny_pyNext_enum_endD (Draws.tuple (A := X.A.in1) (I.ok.hd calm) q a n2 us.toArray) h1 ⟨by rw [ei]; exact h2, at_⟩ fun h' ext => ?_
    exact ⟨rfl, I.turned (t' := s.toks) (fun b o hb z => ext b o hb z) f0 f1 f3 f4 f5⟩
  self := fun A i s Q E st h => by
    obtain ⟨⟨_, h1⟩, _⟩ := st
    exact wpAny_pyIter_enum h1 h

set_option maxHeartbeats 1000000 in
theorem meets_enumT (t : Addr) (items : Array Value) (n : Nat) (dct : Option Addr) (sl : Array (Option Value)) :
    Meets (Builtin.«enumerate.__new__» ⟨[.type "enumerate", .ref t], []⟩) (fun _ R s => s.heap.get? t = some { cls := .type "tuple", dict := dct, data := .seq items n, slots := sl } ∧
      R (.ok (.ret (.ref (s.heap.push { cls := .type "tuple_iterator", data := .fields #[.ref t, .int 0 0] }).objs.size)))
        { s with heap := (s.heap.push { cls := .type "tuple_iterator", data := .fields #[.ref t, .int 0 0] }).push { cls := .type "enumerate", data := .fields #[.none, .bool false, .ref s.heap.objs.size, rawInt 0, .none, .none] } }) :=
  .of_wp fun prog w A R s h => by
    obtain ⟨hp, g, d, tk, os⟩ := s
    obtain ⟨hl, h⟩ := h
    have hsub := sub_enumerate
    have hT : Heap.IsTuple (Shared.heap ⟨hp, g, d, tk, os⟩) t items := ⟨_, hl, rfl, n, rfl⟩
    wp_walk using AutoSeq1.wpAny_loadPart' hl
    refine wpAny_stack_any fun st => wpAny_pure ?_
    split
    · rename_i c _ _ _ _ _
      cases (c == Value.type "enumerate")
      · wp_walk using AutoSeq1.wpAny_loadPart' hl, wpAny_pyIter_tuple hT
        exact ⟨_, rfl, h⟩
      · wp_walk using AutoSeq1.wpAny_loadPart' hl, wpAny_pyIter_tuple hT
        exact ⟨_, rfl, h⟩
    · wp_walk using AutoSeq1.wpAny_loadPart' hl, wpAny_pyIter_tuple hT
      exact ⟨_, rfl, h⟩
theorem call_enumT {prog : Program} {w : World} {A : Around} {E : Value → Shared → Prop} {s : Shared} {t : Addr} {items : Array Value} {Q : Value → Shared → Prop} (hL : s.heap.IsTuple t items)
    (h : ∀ h', IsEnum h' (s.heap.objs.size + 1) s.heap.objs.size 0 .none → h'.IsTupleIter s.heap.objs.size t 0 →
      (∀ b o, s.heap.get? b = some o → h'.get? b = some o) → Q (.ref (s.heap.objs.size + 1)) { s with heap := h' }) :
    wpAny (model prog w) A (call (.type "enumerate") [.ref t]) Q E s := by
  obtain ⟨⟨c, dct, dt, sl⟩, hl, hc, n, hd⟩ := hL
  have hc' : c = .type "tuple" := hc
  have hd' : dt = .seq items n := hd
  subst hc' hd'
  refine callType_new F.called_enumerate (by decide) (F.typeCall_enumerate_1 _) (F.newCall_enumerate_1 _)
    (fun obj => F.args_object_init_2 obj _) F.entry_enumerate_new (meets_enumT t items n dct sl) ⟨hl, ?_⟩
  have z1 : (s.heap.push { cls := .type "tuple_iterator", data := .fields #[.ref t, .int 0 0] }).objs.size = s.heap.objs.size + 1 := Heap.size_push ..
  show _ ∧ _
  rw [z1]
  have en : IsEnum ((s.heap.push { cls := .type "tuple_iterator", data := .fields #[.ref t, .int 0 0] }).push
      { cls := .type "enumerate", data := .fields #[.none, .bool false, .ref s.heap.objs.size, rawInt 0, .none, .none] }) (s.heap.objs.size + 1) s.heap.objs.size 0 .none := by
    have z := Heap.get?_push_size (s.heap.push { cls := .type "tuple_iterator", data := .fields #[.ref t, .int 0 0] })
      (o := { cls := .type "enumerate", data := .fields #[.none, .bool false, .ref s.heap.objs.size, rawInt 0, .none, .none] }) rfl
    rw [z1] at z
    exact z
  exact ⟨⟨_, en, rfl⟩, h _ en ⟨_, Heap.get?_push_of_some _ (Heap.get?_push_size _ rfl), rfl, rfl⟩
    fun b o z => Heap.get?_push_of_some _ (Heap.get?_push_of_some _ z)⟩
def iEnT (K : PySem.W.Frag) (ta : TA) : TI := fun σ H R => ta σ H fun vs H1 => ∃ a ys, vs = [.ref a] ∧ SqT K H1 a ys ∧ R (ItE K a) H1
theorem pi_enT {X : Cx} {e : Expr} {ta : TA} {p pos tpos : Pos} {es : List Expr} {kk : Nat} (hg : Gl X "enumerate") (hm : X.mg "enumerate" = none) (ha : PA X [e] ta) (hs : starEach [e] X.env = [(false, eval e X.env)] := by rfl) :
    PI X (.Tuple es kk tpos) (.Call (.Name "enumerate" p) [e] [] pos) (iEnT X.K ta) := by
  refine ⟨fun pins s σ H R I h => ?_⟩
  refine Call_ (ld_blt I hg hm boot_enumerate (PyProof.Rows.callWith_type1
    (thn (ha.run pos pins s σ H _ I h) fun us s1 ⟨vs, H1, I1, r1, q1⟩ => ?_) hs rfl))
  obtain ⟨a, ys, ex, sq, q⟩ := q1
  subst ex
  cases r1 with
  | cons r rr =>
    cases rr
    cases r
    obtain ⟨us, rl, at_, _⟩ := I1.tuple sq
    have la : a < s1.heap.objs.size := by
      obtain ⟨_, z, _⟩ := at_
      exact Heap.lt_size z
    refine call_enumT (items := us.toArray) at_ fun h' he hit hk => wpAny_pyIter_enum he ?_
    have I2 : Inv X pins σ H1 { s1 with heap := h' } := I1.kept (t' := s1.toks) hk
    refine ⟨s1.heap.objs.size + 1, [s1.heap.objs.size + 1, s1.heap.objs.size], _, _, H1, rfl, I2,
      turnE a (s1.heap.objs.size + 1) s1.heap.objs.size, ⟨⟨.none, he⟩, hit, Nat.succ_ne_self _, Nat.ne_of_lt la, Nat.ne_of_gt (Nat.lt_succ_of_lt la)⟩, fun b hb => ?_, q⟩
    have lb : s1.heap.objs.size ≤ b := by
      rcases (show b = s1.heap.objs.size + 1 ∨ b = s1.heap.objs.size by simpa using hb) with z | z
      · rw [z]; exact Nat.le_add_right _ _
      · rw [z]; exact Nat.le_refl _
    exact I1.fpOk lb (I1.hok.fresh lb)
/-! ### // by a great divisor of either sign -/
def CDivG (_ j : Int) : Prop := j ≠ 0 ∧ j.natAbs.log2 < 9000
theorem op_fdivG {X : Cx} : OpR X (binaryOp .FloorDiv) (rI CDivG fun i j => .int (i.fdiv j)) :=
  opI fun i j _ _ _ _ _ hc q => floordiv_int hc.1 q (.inl (PyProof.noPylong_of_log2 hc.2))
end
end SS
namespace SS
def sgd (t b : Int) : Int := if b < 0 then -((Int.gcd t b : Nat) : Int) else ((Int.gcd t b : Nat) : Int)
def fr1 (t b : Int) : Int := t.fdiv (sgd t b)
def fr2 (t b : Int) : Int := b.fdiv (sgd t b)
theorem gcdP {t b : Int} (h : b ≠ 0) : 0 < Int.gcd t b := Nat.pos_of_ne_zero fun e => h (Int.gcd_eq_zero_iff.mp e).2
theorem sgd_abs (t b : Int) : (sgd t b).natAbs = Int.gcd t b := by
  unfold sgd
  split <;> omega
theorem sgd_ne {t b : Int} (h : b ≠ 0) : sgd t b ≠ 0 := fun e => by
  have := gcdP (t := t) h
  rw [← sgd_abs, e] at this
  exact absurd this (by decide)
theorem sgd_dvd1 (t b : Int) : sgd t b ∣ t := by
  rw [← Int.natAbs_dvd_natAbs, sgd_abs, ← Int.natCast_dvd_natCast, Int.dvd_natAbs]
  exact Int.gcd_dvd_left ..
theorem sgd_dvd2 (t b : Int) : sgd t b ∣ b := by
  rw [← Int.natAbs_dvd_natAbs, sgd_abs, ← Int.natCast_dvd_natCast, Int.dvd_natAbs]
  exact Int.gcd_dvd_right ..
theorem fr1_eq {t b : Int} (h : b ≠ 0) : fr1 t b * sgd t b = t := by
  obtain ⟨k, e⟩ := sgd_dvd1 t b
  have z : fr1 t b = k := by
    unfold fr1
    have q : t.fdiv (sgd t b) = (sgd t b * k).fdiv (sgd t b) := congrArg (·.fdiv (sgd t b)) e
    rw [q]
    exact Int.mul_fdiv_cancel_left _ (sgd_ne h)
  rw [z, Int.mul_comm]
  exact e.symm
theorem fr2_eq {t b : Int} (h : b ≠ 0) : fr2 t b * sgd t b = b := by
  obtain ⟨k, e⟩ := sgd_dvd2 t b
  have z : fr2 t b = k := by
    unfold fr2
    have q : b.fdiv (sgd t b) = (sgd t b * k).fdiv (sgd t b) := congrArg (·.fdiv (sgd t b)) e
    rw [q]
    exact Int.mul_fdiv_cancel_left _ (sgd_ne h)
  rw [z, Int.mul_comm]
  exact e.symm
theorem fr2_pos {t b : Int} (h : b ≠ 0) : 0 < fr2 t b := by
  have e := fr2_eq (t := t) h
  have g := gcdP (t := t) h
  unfold sgd at e
  by_cases c : b < 0
  · rw [if_pos c] at e
    refine Int.lt_of_not_ge fun z => ?_
    have : 0 ≤ fr2 t b * -((Int.gcd t b : Nat) : Int) := Int.mul_nonneg_of_nonpos_of_nonpos z (by omega)
    omega
  · rw [if_neg c] at e
    refine Int.lt_of_not_ge fun z => ?_
    have : fr2 t b * ((Int.gcd t b : Nat) : Int) ≤ 0 := Int.mul_nonpos_of_nonpos_of_nonneg z (by omega)
    omega
theorem fr_gcd {t b : Int} (h : b ≠ 0) : Int.gcd (fr1 t b) (fr2 t b) = 1 := by
  have g := gcdP (t := t) h
  have e : Int.gcd (fr1 t b * sgd t b) (fr2 t b * sgd t b) = Int.gcd t b := by rw [fr1_eq h, fr2_eq h]
  rw [Int.gcd_mul_right, sgd_abs] at e
  exact Nat.eq_of_mul_eq_mul_right g (by rw [e, Nat.one_mul])
theorem fr_cross {t b : Int} (h : b ≠ 0) : fr1 t b * b = t * fr2 t b := by
  have e1 := fr1_eq (t := t) h
  have e2 := fr2_eq (t := t) h
  calc fr1 t b * b = fr1 t b * (fr2 t b * sgd t b) := by rw [e2]
    _ = (fr1 t b * sgd t b) * fr2 t b := by rw [Int.mul_comm (fr2 t b), Int.mul_assoc]
    _ = t * fr2 t b := by rw [e1]
theorem fr1_le {t b : Int} (h : b ≠ 0) : (fr1 t b).natAbs ≤ t.natAbs := by
  have e := congrArg Int.natAbs (fr1_eq (t := t) h)
  rw [Int.natAbs_mul, sgd_abs] at e
  rw [← e]
  exact Nat.le_mul_of_pos_right _ (gcdP h)
theorem fr2_le {t b : Int} (h : b ≠ 0) : (fr2 t b).natAbs ≤ b.natAbs := by
  have e := congrArg Int.natAbs (fr2_eq (t := t) h)
  rw [Int.natAbs_mul, sgd_abs] at e
  rw [← e]
  exact Nat.le_mul_of_pos_right _ (gcdP h)
/-- one turn of the walk down -/
theorem gcd_turn {a b : Int} (ha : 0 ≤ a) (hb : 0 < b) : Int.gcd b (a % b) = Int.gcd a b := by
  obtain ⟨m, rfl⟩ := Int.eq_ofNat_of_zero_le ha
  obtain ⟨n, rfl⟩ := Int.eq_ofNat_of_zero_le (Int.le_of_lt hb)
  rw [← Int.natCast_emod]
  show Nat.gcd n (m % n) = Nat.gcd m n
  rw [Nat.gcd_comm n, ← Nat.gcd_rec, Nat.gcd_comm]
theorem gcd_end (a : Int) (h : 0 ≤ a) : ((Int.gcd a 0 : Nat) : Int) = a := by
  rw [Int.gcd_zero_right]
  omega
theorem gcd_abs (a b : Int) : Int.gcd (if a < 0 then -a else a) (if b < 0 then -b else b) = Int.gcd a b := by
  have n : ∀ x : Int, (if x < 0 then -x else x).natAbs = x.natAbs := fun x => by split <;> omega
  unfold Int.gcd
  rw [n, n]
end SS
namespace SS
theorem dvdCop {a b c : Int} (z : a ∣ b * c) (h : Int.gcd a b = 1) : a ∣ c := by
  rw [← Int.natAbs_dvd_natAbs] at z ⊢
  rw [Int.natAbs_mul] at z
  exact Nat.Coprime.dvd_of_dvd_mul_left h z
/-- in lowest terms there is one pair -/
theorem lowUniq {x y x' y' : Int} (hy : 0 < y) (hy' : 0 < y') (g : Int.gcd x y = 1) (g' : Int.gcd x' y' = 1) (e : x * y' = x' * y) : x = x' ∧ y = y' := by
  have d1 : y ∣ y' := dvdCop (b := x) ⟨x', by rw [e, Int.mul_comm]⟩ (by rw [Int.gcd_comm]; exact g)
  have d2 : y' ∣ y := dvdCop (b := x') ⟨x, by rw [← e, Int.mul_comm]⟩ (by rw [Int.gcd_comm]; exact g')
  have e2 : y = y' := Int.dvd_antisymm (Int.le_of_lt hy) (Int.le_of_lt hy') d1 d2
  refine ⟨?_, e2⟩
  rw [← e2] at e
  exact Int.eq_of_mul_eq_mul_right (Int.ne_of_gt hy) e
theorem frIs {x y t b : Int} (hb : b ≠ 0) (hy : 0 < y) (g : Int.gcd x y = 1) (e : x * b = t * y) : x = fr1 t b ∧ y = fr2 t b := by
  refine lowUniq hy (fr2_pos hb) g (fr_gcd hb) ?_
  have c := fr_cross (t := t) hb
  refine Int.eq_of_mul_eq_mul_right hb ?_
  calc x * fr2 t b * b = x * b * fr2 t b := by rw [Int.mul_assoc, Int.mul_comm (fr2 t b), ← Int.mul_assoc]
    _ = t * y * fr2 t b := by rw [e]
    _ = t * fr2 t b * y := by rw [Int.mul_assoc, Int.mul_comm y, ← Int.mul_assoc]
    _ = fr1 t b * b * y := by rw [c]
    _ = fr1 t b * y * b := by rw [Int.mul_assoc, Int.mul_comm b, ← Int.mul_assoc]
theorem gcdDvdMul {g k : Int} (h : g ≠ 0) : (g * k).fdiv g = k := Int.mul_fdiv_cancel_left _ h
theorem copDvd {a b c : Int} (h : Int.gcd a b = 1) (z : c ∣ b) : Int.gcd a c = 1 := by
  obtain ⟨k, rfl⟩ := z
  have q : Int.gcd a c ∣ Int.gcd a (c * k) := Int.gcd_dvd_gcd_mul_right_right a c k
  rw [h] at q
  exact Nat.dvd_one.mp q
theorem copDvdL {a b c : Int} (h : Int.gcd a b = 1) (z : c ∣ a) : Int.gcd c b = 1 := by
  rw [Int.gcd_comm] at h ⊢
  exact copDvd h z
theorem copMul {a b c : Int} (h1 : Int.gcd a b = 1) (h2 : Int.gcd a c = 1) : Int.gcd a (b * c) = 1 := by
  rw [Int.gcd_mul_right_right_of_gcd_eq_one h1]
  exact h2
theorem copMulL {a b c : Int} (h1 : Int.gcd a c = 1) (h2 : Int.gcd b c = 1) : Int.gcd (a * b) c = 1 := by
  rw [Int.gcd_mul_right_left_of_gcd_eq_one h1]
  exact h2
/-- both divided by their greatest divisor -/
theorem gcdParts {a b : Int} (h : b ≠ 0) : ∃ u v : Int, a = ((Int.gcd a b : Nat) : Int) * u ∧ b = ((Int.gcd a b : Nat) : Int) * v ∧ Int.gcd u v = 1 := by
  obtain ⟨u, hu⟩ := Int.gcd_dvd_left a b
  obtain ⟨v, hv⟩ := Int.gcd_dvd_right a b
  refine ⟨u, v, hu, hv, ?_⟩
  have g := gcdP (t := a) h
  have e : Int.gcd (((Int.gcd a b : Nat) : Int) * u) (((Int.gcd a b : Nat) : Int) * v) = Int.gcd a b := by rw [← hu, ← hv]
  rw [Int.gcd_mul_left] at e
  have e2 : Int.gcd a b * Int.gcd u v = Int.gcd a b * 1 := by
    rw [Nat.mul_one]
    exact e
  exact Nat.eq_of_mul_eq_mul_left g e2
theorem pos_ne' {a b : Int} (h1 : 0 < a) (h2 : 0 < b) : a * b ≠ 0 := Int.ne_of_gt (Int.mul_pos h1 h2)
theorem posMul {a b : Int} (ha : 0 < a) (h : 0 < a * b) : 0 < b := by
  refine Int.lt_of_not_ge fun z => ?_
  have : a * b ≤ 0 := Int.mul_nonpos_of_nonneg_of_nonpos (Int.le_of_lt ha) z
  omega
/-- the sum of two fractions by the divisor of their bottoms -/
def plD (d1 d2 : Int) : Int := ((Int.gcd d1 d2 : Nat) : Int)
def plT (n1 d1 n2 d2 : Int) : Int := n1 * d2.fdiv (plD d1 d2) + n2 * d1.fdiv (plD d1 d2)
def plG (n1 d1 n2 d2 : Int) : Int := ((Int.gcd (plT n1 d1 n2 d2) (plD d1 d2) : Nat) : Int)
theorem plus_long {n1 d1 n2 d2 : Int} (h1 : 0 < d1) (h2 : 0 < d2) (g1 : Int.gcd n1 d1 = 1) (g2 : Int.gcd n2 d2 = 1) :
    (plT n1 d1 n2 d2).fdiv (plG n1 d1 n2 d2) = fr1 (n1 * d2 + n2 * d1) (d1 * d2) ∧ d1.fdiv (plD d1 d2) * d2.fdiv (plG n1 d1 n2 d2) = fr2 (n1 * d2 + n2 * d1) (d1 * d2) := by
  obtain ⟨u, v, hu, hv, uv⟩ := gcdParts (a := d1) (b := d2) (Int.ne_of_gt h2)
  have s0 : 0 < plD d1 d2 := by
    have := gcdP (t := d1) (Int.ne_of_gt h2)
    unfold plD
    omega
  have hu : d1 = plD d1 d2 * u := hu
  have hv : d2 = plD d1 d2 * v := hv
  have e1 : d1.fdiv (plD d1 d2) = u := by
    have q : d1.fdiv (plD d1 d2) = (plD d1 d2 * u).fdiv (plD d1 d2) := congrArg (·.fdiv (plD d1 d2)) hu
    rw [q]
    exact gcdDvdMul (Int.ne_of_gt s0)
  have e2 : d2.fdiv (plD d1 d2) = v := by
    have q : d2.fdiv (plD d1 d2) = (plD d1 d2 * v).fdiv (plD d1 d2) := congrArg (·.fdiv (plD d1 d2)) hv
    rw [q]
    exact gcdDvdMul (Int.ne_of_gt s0)
  have eT : plT n1 d1 n2 d2 = n1 * v + n2 * u := by
    unfold plT
    rw [e1, e2]
  have eG : plG n1 d1 n2 d2 = ((Int.gcd (plT n1 d1 n2 d2) (plD d1 d2) : Nat) : Int) := rfl
  rw [e1]
  generalize plG n1 d1 n2 d2 = G at *
  generalize plT n1 d1 n2 d2 = T at *
  generalize plD d1 d2 = s at *
  have up : 0 < u := posMul s0 (by rw [← hu]; exact h1)
  have vp : 0 < v := posMul s0 (by rw [← hv]; exact h2)
  obtain ⟨t, s', ht, hs, ts⟩ := gcdParts (a := T) (b := s) (Int.ne_of_gt s0)
  rw [← eG] at ht hs
  have G0 : 0 < G := by
    have := gcdP (t := T) (Int.ne_of_gt s0)
    rw [eG]
    omega
  have sp : 0 < s' := posMul G0 (by rw [← hs]; exact s0)
  have f1 : T.fdiv G = t := by
    rw [ht]
    exact gcdDvdMul (Int.ne_of_gt G0)
  have f2 : d2.fdiv G = s' * v := by
    rw [hv, hs, Int.mul_assoc]
    exact gcdDvdMul (Int.ne_of_gt G0)
  rw [f1, f2]
  have tT : t ∣ T := ⟨G, by rw [ht, Int.mul_comm]⟩
  have c1 : Int.gcd t u = 1 := by
    refine copDvdL (a := T) ?_ tT
    rw [eT, Int.add_comm, Int.gcd_mul_right_add_left]
    refine copMulL ?_ (by rw [Int.gcd_comm]; exact uv)
    exact copDvd g1 ⟨s, by rw [hu, Int.mul_comm]⟩
  have c2 : Int.gcd t v = 1 := by
    refine copDvdL (a := T) ?_ tT
    rw [eT, Int.gcd_mul_right_add_left]
    refine copMulL ?_ uv
    exact copDvd g2 ⟨s, by rw [hv, Int.mul_comm]⟩
  refine frIs (pos_ne' h1 h2) (Int.mul_pos up (Int.mul_pos sp vp)) (copMul c1 (copMul ts c2)) ?_
  have E : n1 * d2 + n2 * d1 = s * (G * t) := by
    rw [← ht, eT, hu, hv, Int.mul_add]
    congr 1 <;> rw [Int.mul_left_comm]
  rw [E, hu, hv]
  have hs2 := hs
  generalize G = G at *
  grind
/-- the product of two fractions, one's top and the other's bottom made less -/
theorem times_long {n1 d1 n2 d2 : Int} (h1 : 0 < d1) (h2 : 0 < d2) (g1 : Int.gcd n1 d1 = 1) (g2 : Int.gcd n2 d2 = 1) :
    n1.fdiv ((Int.gcd n1 d2 : Nat) : Int) * n2.fdiv ((Int.gcd n2 d1 : Nat) : Int) = fr1 (n1 * n2) (d1 * d2) ∧ d1.fdiv ((Int.gcd n2 d1 : Nat) : Int) * d2.fdiv ((Int.gcd n1 d2 : Nat) : Int) = fr2 (n1 * n2) (d1 * d2) := by
  obtain ⟨u, v, hu, hv, uv⟩ := gcdParts (a := n1) (b := d2) (Int.ne_of_gt h2)
  obtain ⟨x, y, hx, hy, xy⟩ := gcdParts (a := n2) (b := d1) (Int.ne_of_gt h1)
  have a0 : 0 < ((Int.gcd n1 d2 : Nat) : Int) := by
    have := gcdP (t := n1) (Int.ne_of_gt h2)
    omega
  have b0 : 0 < ((Int.gcd n2 d1 : Nat) : Int) := by
    have := gcdP (t := n2) (Int.ne_of_gt h1)
    omega
  generalize ((Int.gcd n1 d2 : Nat) : Int) = a at *
  generalize ((Int.gcd n2 d1 : Nat) : Int) = b at *
  subst hu hv hx hy
  rw [gcdDvdMul (Int.ne_of_gt a0), gcdDvdMul (Int.ne_of_gt a0), gcdDvdMul (Int.ne_of_gt b0), gcdDvdMul (Int.ne_of_gt b0)]
  have vp : 0 < v := posMul a0 h2
  have yp : 0 < y := posMul b0 h1
  have uy : Int.gcd u y = 1 := copDvdL (copDvd g1 ⟨b, by rw [Int.mul_comm]⟩) ⟨a, by rw [Int.mul_comm]⟩
  have xv : Int.gcd x v = 1 := copDvdL (copDvd g2 ⟨a, by rw [Int.mul_comm]⟩) ⟨b, by rw [Int.mul_comm]⟩
  refine frIs (pos_ne' h1 h2) (Int.mul_pos yp vp) (copMul (copMulL uy xy) (copMulL uv xv)) ?_
  grind
end SS
namespace SS
open PySem PySem.Spec PyProof.Rows L2
/-! ### heaps -/
/-- all but st is as it was -/
def But (st : Addr) (H H' : Hp) : Prop := ∀ b o, b ≠ st → H b = some o → H' b = some o
theorem But.refl (st : Addr) (H : Hp) : But st H H := fun _ _ _ h => h
theorem But.trans {st : Addr} {H H1 H2 : Hp} (x : But st H H1) (y : But st H1 H2) : But st H H2 := fun b o n h => y b o n (x b o n h)
theorem Same.but {st : Addr} {H H' : Hp} (x : Same H H') : But st H H' := fun b o _ h => x b o h
theorem same_new {H : Hp} {p : Addr} {o : HO} (h : H p = none) : Same H (upd H p o) := fun b x e => by
  rw [upd_ne (ne_of_none e h)]
  exact e
theorem But.upd {st : Addr} {H : Hp} {o : HO} : But st H (upd H st o) := fun b x n e => by
  rw [upd_ne n]
  exact e
/-- the law's own state: its cells, where it stands, what is left, whether that is mixed -/
def StA (st c : Addr) (H : Hp) : Prop := ∃ (i n : Int) (f : Bool) (xs : List Int),
  H st = some (.lst [.ref c, .int i, .int n, .bl f]) ∧ H c = some (.lst (xs.map V.int)) ∧ xs.length ≤ 63 ∧ c ≠ st
theorem StA.same {st c : Addr} {H H' : Hp} (s : StA st c H) (x : Same H H') : StA st c H' := by
  obtain ⟨i, n, f, xs, h1, h2, h3, h4⟩ := s
  exact ⟨i, n, f, xs, x _ _ h1, x _ _ h2, h3, h4⟩
theorem StA.tup {st c p : Addr} {H : Hp} {xs : List V} (s : StA st c H) (h : H p = some (.tup xs)) : p ≠ st := fun e => by
  obtain ⟨i, n, f, ys, h1, _⟩ := s
  rw [e, h1] at h
  cases h
theorem StA.fresh {st c p : Addr} {H : Hp} (s : StA st c H) (h : H p = none) : p ≠ st := fun e => by
  obtain ⟨i, n, f, ys, h1, _⟩ := s
  rw [e, h1] at h
  cases h
theorem But.tup {st c p : Addr} {H H' : Hp} {xs : List V} (b : But st H H') (s : StA st c H) (h : H p = some (.tup xs)) : H' p = some (.tup xs) := b _ _ (s.tup h) h
/-- another object, made since, changes: the state stands -/
theorem StA.other {st c l : Addr} {H : Hp} {o : HO} (s : StA st c H) (h1 : l ≠ st) (h2 : l ≠ c) : StA st c (upd H l o) := by
  obtain ⟨i, n, f, xs, a1, a2, a3, a4⟩ := s
  exact ⟨i, n, f, xs, by rw [upd_ne h1.symm]; exact a1, by rw [upd_ne h2.symm]; exact a2, a3, a4⟩
theorem StA.fresh2 {st c p : Addr} {H : Hp} (s : StA st c H) (h : H p = none) : p ≠ c := fun e => by
  obtain ⟨i, n, f, ys, _, h1, _⟩ := s
  rw [e, h1] at h
  cases h
/-- a tuple (n, d) with d above 0 and few bits -/
def Fra (k : Nat) (H : Hp) (p : Addr) : Prop := ∃ n d : Int, H p = some (.tup [.int n, .int d]) ∧ 0 < d ∧ n.natAbs < 2 ^ k ∧ d.natAbs < 2 ^ k
theorem Fra.same {k : Nat} {p : Addr} {H H' : Hp} (s : Fra k H p) (x : Same H H') : Fra k H' p := by
  obtain ⟨n, d, h1, h2⟩ := s
  exact ⟨n, d, x _ _ h1, h2⟩
theorem Fra.but {k : Nat} {st c p : Addr} {H H' : Hp} (s : Fra k H p) (x : But st H H') (y : StA st c H) : Fra k H' p := by
  obtain ⟨n, d, h1, h2⟩ := s
  exact ⟨n, d, x.tup y h1, h2⟩
theorem Fra.mono {k j : Nat} {p : Addr} {H : Hp} (s : Fra k H p) (h : k ≤ j) : Fra j H p := by
  obtain ⟨n, d, h1, h2, h3, h4⟩ := s
  have z : 2 ^ k ≤ 2 ^ j := Nat.pow_le_pow_right (by decide) h
  exact ⟨n, d, h1, h2, Nat.lt_of_lt_of_le h3 z, Nat.lt_of_lt_of_le h4 z⟩
/-! ### a def of the module, as its callers know it -/
structure Cl (P : Program) (w : World) (K : PySem.W.Frag) (mg : Str → Option Value) (base : Heap) (CX : CXT) (k : Nat) (x : Str) (sp : Sp) (dvs : List V) : Prop where
  ex : ∃ (f : Addr) (fd : FuncData) (ps : List Str) (ds : List Value), FnOk P w K mg base CX k f fd ps sp ∧ mg x = some (.ref f) ∧ PySem.W.keepIn K (.ref f) = true ∧ Binds K fd ps ds ∧ Vals dvs ds
section
variable {X : Cx} {k j : Nat} {x : Str} {sp : Sp} {dvs : List V} {e : Expr} {es : List Expr} {t : TA} {p pos : Pos}
theorem pc0 (c : Cl X.prog X.w X.K X.mg X.base CX0 k x sp dvs) (hr : Room j X.A) (hk : k ≤ j) (ha : PA X (e :: es) t) (hg : Gl X x := by rfl)
    (hdb : (x == ("__debug__" : Str)) = false := by decide) (he : starEach (e :: es) X.env = (false, eval e X.env) :: starEach es X.env := by rfl) (hpl : (backTo pos (starEach es X.env)).any (·.1) = false := by rfl) :
    PE X (.Call (.Name x p) (e :: es) [] pos) (tCall sp dvs E0 t) := by
  obtain ⟨f, fd, ps, ds, F, gm, kp, b, d⟩ := c.ex
  exact pe_call F (hr.mono hk) hg gm kp b d pass0 ha hdb he hpl
theorem pcX (c : Cl X.prog X.w X.K X.mg X.base (L2.CX X.prog X.w) k x sp dvs) (hr : Room j X.A) (hk : k ≤ j) (ha : PA X (e :: es) t) (hg : Gl X x := by rfl)
    (hdb : (x == ("__debug__" : Str)) = false := by decide) (he : starEach (e :: es) X.env = (false, eval e X.env) :: starEach es X.env := by rfl) (hpl : (backTo pos (starEach es X.env)).any (·.1) = false := by rfl) :
    PE X (.Call (.Name x p) (e :: es) [] pos) (tCall sp dvs E0 t) := by
  obtain ⟨f, fd, ps, ds, F, gm, kp, b, d⟩ := c.ex
  exact pe_call F (hr.mono hk) hg gm kp b d passL ha hdb he hpl
/-- where what it raises is wished for: in a try, or let out of the def -/
theorem pcS {E : L2.St → XK} (c : Cl X.prog X.w X.K X.mg X.base (L2.CX X.prog X.w) k x sp []) (hr : Room j X.A) (hk : k ≤ j) (hx : ∀ σ, PassesAt (L2.CX X.prog X.w) X σ (E σ)) (ha : PA X (e :: es) t) (hg : Gl X x := by rfl)
    (hdb : (x == ("__debug__" : Str)) = false := by decide) (he : starEach (e :: es) X.env = (false, eval e X.env) :: starEach es X.env := by rfl) (hpl : (backTo pos (starEach es X.env)).any (·.1) = false := by rfl) :
    PE X (.Call (.Name x p) (e :: es) [] pos) (tCallS sp E t) := by
  obtain ⟨f, fd, ps, ds, F, gm, kp, b, d⟩ := c.ex
  cases d
  exact pe_callS F (hr.mono hk) hg gm kp b hx ha hdb he hpl
end
section
variable {P : Program} {w : World} {K : PySem.W.Frag} {mg : Str → Option Value} {base : Heap}
theorem Cl.mk0 {CX : CXT} {k : Nat} {x : Str} {sp : Sp} {f : Addr} {fd : FuncData} {ps : List Str} (F : FnOk P w K mg base CX k f fd ps sp) (g : mg x = some (.ref f)) (kp : PySem.W.keepIn K (.ref f) = true) (b : Binds K fd ps []) : Cl P w K mg base CX k x sp [] :=
  ⟨⟨f, fd, ps, [], F, g, kp, b, .nil⟩⟩
end
theorem small2 : 2 ≤ sizeLine := by decide
end SS
namespace SS
open PySem PySem.Spec PyProof.Rows L2
/-! ### dicts of fractions compared; tuples of such -/
/-- two tuples of the same two numbers -/
def VEq (H : Hp) (x y : V) : Prop := ∃ (a b : Addr) (n d : Int), x = .ref a ∧ y = .ref b ∧ H a = some (.tup [.int n, .int d]) ∧ H b = some (.tup [.int n, .int d])
def DEq (H : Hp) (x y : V) : Prop := ∃ (a b : Addr) (ks ls : List (Key × V)), x = .ref a ∧ y = .ref b ∧ H a = some (.dK ks) ∧ H b = some (.dK ls) ∧ ks.length = ls.length ∧ ∀ p ∈ ks, ∃ u, valV ls p.1 = some u ∧ VEq H p.2 u
section
variable {X : Cx} {pins : List (Addr × Obj)} {σ : L2.St} {H : Hp} {s : Shared}
theorem veq_run (I : Inv X pins σ H s) {A : Around} (hu : A.in1.units + 10 < cLine) {x y : V} {v u : Value} (h : VEq H x y) (rx : RelV x v) (ry : RelV y u) : SeqAt.EqAt A.in1 s v u true := by
  obtain ⟨a, b, n, d, rfl, rfl, h1, h2⟩ := h
  have D1 : Dp X.K H (.ref a) (.tuple [.int n, .int d]) := .tup (SqT.of h1) (.cons (.int _) (.cons (.int _) .nil))
  have D2 : Dp X.K H (.ref b) (.tuple [.int n, .int d]) := .tup (SqT.of h2) (.cons (.int _) (.cons (.int _) .nil))
  obtain ⟨as, r1⟩ := Dp.reads I _ _ v D1 rx
  obtain ⟨bs, r2⟩ := Dp.reads I _ _ u D2 ry
  have z := SeqAt.eqAt_reads _ _ A.in1 s v u as bs r1 r2 rfl rfl (Nat.lt_of_le_of_lt (Nat.add_le_add_left (Nat.le_trans (Nat.min_le_left _ _) (by show PyData.depth (.tuple [.int n, .int d]) ≤ 10; simp [PyData.depth, PyData.depthAll])) _) hu)
  rw [SeqAt.eqv_refl _ rfl] at z
  exact z
theorem hits_x (I : Inv X pins σ H s) {A : Around} (hu : A.in1.units + 10 < cLine) {ls : List (Key × V)} {vb : List (Key × Value)} (rb : KV ls vb) {ks : List (Key × V)} {va : List (Key × Value)}
    (ra : KV ks va) : (∀ p ∈ ks, ∃ u, valV ls p.1 = some u ∧ VEq H p.2 u) → PySem.W.KeqHits A.in1 s vb va true := by
  unfold KV at ra
  induction ra with
  | nil =>
    intro _
    exact .nil
  | @cons p q ps qs hd tl ih =>
    intro hp
    obtain ⟨e1, e2⟩ := hd
    obtain ⟨u, eu, fu⟩ := hp p List.mem_cons_self
    have ro : RelO (some u) (valueAt vb p.1) := by
      rw [← eu]
      exact rb.val p.1
    obtain ⟨y, hy, ry⟩ := ro.some_of
    obtain ⟨key, v⟩ := q
    have ek : p.1 = key := e1
    rw [ek] at hy
    exact PySem.W.KeqHits.hit (e := true) (b := true) hy (veq_run I hu fu e2 ry) (ih fun p' hm => hp p' (List.mem_cons_of_mem _ hm))
theorem KeqHits.toP {P : Program} {w : World} {A : Around} {kb : List (Key × Value)} : ∀ {ka : List (Key × Value)} {r : Bool}, PySem.W.KeqHits A s kb ka r → PySem.W.KeqHitsP P w A s kb ka r
  | _, _, .nil => .nil
  | _, _, .miss h => .miss h
  | _, _, .hit h1 h2 h3 => .hit h1 h2.eqP (KeqHits.toP h3)
/-- d != e of dicts that are alike -/
def rNeX : R2 := fun x y H Q => DEq H x y ∧ Q (.bl false) H
theorem op_neX (hu : X.A.units + 64 < cLine) : OpR X (compareOp .NotEq) rNeX := by
  intro pins s σ H x y v u Q I rx ry h
  obtain ⟨⟨a, b, ks, ls, rfl, rfl, h1, h2, hl, hp⟩, q⟩ := h
  obtain rfl : v = Value.ref a := rx
  obtain rfl : u = Value.ref b := ry
  obtain ⟨_, ya, va, ra, da⟩ := (show ObjOk X.prog X.w H s.heap a (.dK ks) from I.hok a _ h1)
  obtain ⟨_, yb, vb, rb, db⟩ := (show ObjOk X.prog X.w H s.heap b (.dK ls) from I.hok b _ h2)
  have el : va.length = vb.length := by
    rw [← ra.length, ← rb.length]
    exact hl
  refine PySem.W.keq_ne (knd := mixKind X.prog X.w) (r := true) ya yb da db (by omega) (fun _ => hits_x I (by show X.A.units + 1 + 10 < cLine; omega) rb ra hp) ?_
  exact ⟨.bl false, H, I, (by rw [el]; simp; rfl), q⟩
/-- d == {} -/
def rEq0 : R2 := fun x y H Q => ∃ (a b : Addr) (ks : List (Key × V)), x = .ref a ∧ y = .ref b ∧ H a = some (.dK ks) ∧ H b = some (.dK []) ∧ Q (.bl (ks.length == 0)) H
theorem op_eq0 (hu : X.A.units + 64 < cLine) : OpR X (compareOp .Eq) rEq0 := by
  intro pins s σ H x y v u Q I rx ry h
  obtain ⟨a, b, ks, rfl, rfl, h1, h2, q⟩ := h
  obtain rfl : v = Value.ref a := rx
  obtain rfl : u = Value.ref b := ry
  obtain ⟨_, ya, va, ra, da⟩ := (show ObjOk X.prog X.w H s.heap a (.dK ks) from I.hok a _ h1)
  obtain ⟨_, yb, vb, rb, db⟩ := (show ObjOk X.prog X.w H s.heap b (.dK []) from I.hok b _ h2)
  have e1 : va.length = ks.length := ra.length.symm
  have e2 : vb.length = 0 := rb.length.symm
  refine PySem.W.keq_eq (knd := mixKind X.prog X.w) (r := true) ya yb da db (by omega) (fun z => ?_) ?_
  · rw [e2] at z
    have ez : va = [] := List.eq_nil_of_length_eq_zero z
    rw [ez]
    exact .nil
  · exact ⟨.bl (ks.length == 0), H, I, (by rw [e1, e2, Bool.and_true]; rfl), q⟩
/-- the same of two addresses, within another thing -/
theorem deq_run (I : Inv X pins σ H s) {A : Around} (hu : A.units + 20 < cLine) {x y : V} {v u : Value} (h : DEq H x y) (rx : RelV x v) (ry : RelV y u) : SeqAt.EqP X.prog X.w A s v u true := by
  obtain ⟨a, b, ks, ls, rfl, rfl, h1, h2, hl, hp⟩ := h
  obtain rfl : v = Value.ref a := rx
  obtain rfl : u = Value.ref b := ry
  by_cases e : a = b
  · subst e
    exact (SeqAt.EqAt.same _).eqP
  · obtain ⟨_, ya, va, ra, da⟩ := (show ObjOk X.prog X.w H s.heap a (.dK ks) from I.hok a _ h1)
    obtain ⟨_, yb, vb, rb, db⟩ := (show ObjOk X.prog X.w H s.heap b (.dK ls) from I.hok b _ h2)
    have el : va.length = vb.length := by
      rw [← ra.length, ← rb.length]
      exact hl
    refine SeqAt.eqP_refs e fun E Q q => PySem.W.rcP_dicts (knd := mixKind X.prog X.w) (r := true) ya yb da db (by omega) (fun _ => SS.KeqHits.toP (hits_x I (by show A.units + 1 + 10 < cLine; omega) rb ra hp)) E Q ?_
    rw [el]
    simpa using q
open MeetsSeq MeetsSeq2 MeetsSeq3 SeqRoads2 in
theorem tupNe_in {P : Program} {w : World} (l b : Addr) (it it2 : Array Value) (n n2 : Nat) (dd dd2 : Option Addr) (sl sl2 : Array (Option Value)) (hz : it.size = it2.size) :
    MeetsIn P w (Builtin.«tuple.__ne__» ⟨[.ref l, .ref b], []⟩)
      (fun A R s => s.heap.get? l = some { cls := .type "tuple", dict := dd, data := .seq it n, slots := sl } ∧ s.heap.get? b = some { cls := .type "tuple", dict := dd2, data := .seq it2 n2, slots := sl2 } ∧
        (∀ j (h1 : j < it.size) (h2 : j < it2.size), SeqAt.EqP P w A.in1 s it[j] it2[j] true) ∧ R (.ok (.ret (.bool false))) s) := by
  intro A R s h
  refine wpAny_mono (Q := fun fin s' => ∃ f, fin = .done f ∧ R (.ok f) s') ?_ (fun fin s' z => by obtain ⟨f, rfl, z⟩ := z; exact z) (fun _ _ z => z)
  obtain ⟨hp, g, d, tk, os⟩ := s
  obtain ⟨hl, hb, he, h⟩ := h
  have f2 := AutoSeq1.sub_tuple_tuple
  have zl : (it.toList.zip it2.toList).length = it.size := by
    rw [List.length_zip, Array.length_toList, Array.length_toList, hz, Nat.min_self]
  wp_walk using AutoSeq1.wpAny_loadPart' hl, AutoSeq1.wpAny_loadPart' hb, wpAny_forIn_list _ (fun rest c s' => c.1 = none ∧ s' = ⟨hp, g, d, tk, os⟩ ∧ ∃ i, rest = (it.toList.zip it2.toList).drop i) _
  case turn =>
    rintro ⟨y, x⟩ rest c s' ⟨hc, rfl, i, zi⟩
    have hlt : i < (it.toList.zip it2.toList).length := Nat.lt_of_not_le fun hh => by
      rw [List.drop_of_length_le hh] at zi
      cases zi
    have h1 : i < it.size := by omega
    have h2 : i < it2.size := by omega
    rw [List.drop_eq_getElem_cons hlt] at zi
    injection zi with za zb
    have ey : y = it[i] := by
      have q := congrArg Prod.fst za
      simpa using q
    have ex : x = it2[i] := by
      have q := congrArg Prod.snd za
      simpa using q
    subst ey ex
    refine wpAny_bind (he i h1 h2 _ _ ?_)
    wp_walk
    exact ⟨rfl, rfl, i + 1, zb⟩
  case fin =>
    rintro ⟨c1, c2⟩ s' ⟨hc, rfl, i, zi⟩
    simp only at hc
    subst hc
    wp_walk
    exact ⟨_, rfl, by simpa [Builtin.Tuple.tupleCompareSizes, bne, hz] using h⟩
  case h =>
    exact ⟨rfl, rfl, 0, rfl⟩
/-- (d, e) != (f, g), dicts alike in their places -/
def rNeT (K : PySem.W.Frag) : R2 := fun x y H Q => ∃ (p q : Addr) (xs ys : List V), x = .ref p ∧ y = .ref q ∧ SqT K H p xs ∧ SqT K H q ys ∧ Paired (DEq H) xs ys ∧ Q (.bl false) H
theorem op_neT (hu : X.A.units + 64 < cLine) : OpR X (compareOp .NotEq) (rNeT X.K) := by
  intro pins s σ H x y v u Q I rx ry h
  obtain ⟨p, r, xs, ys, rfl, rfl, h1, h2, hp, q⟩ := h
  obtain rfl : v = Value.ref p := rx
  obtain rfl : u = Value.ref r := ry
  obtain ⟨us, r1, ⟨⟨c1, d1, e1, g1⟩, o1, o2, n1, o3⟩, _⟩ := I.tuple h1
  obtain ⟨ws, r2, ⟨⟨c2, d2, e2, g2⟩, t1, t2, n2, t3⟩, _⟩ := I.tuple h2
  have o2' : c1 = .type "tuple" := o2
  have o3' : e1 = .seq us.toArray n1 := o3
  have t2' : c2 = .type "tuple" := t2
  have t3' : e2 = .seq ws.toArray n2 := t3
  subst o2' o3' t2' t3'
  have hz : us.toArray.size = ws.toArray.size := by
    rw [List.size_toArray, List.size_toArray, ← r1.length, ← r2.length]
    exact Paired.length hp
  have ta : s.TypeIs (.ref p) "tuple" := ⟨_, o1, rfl⟩
  have tb : s.TypeIs (.ref r) "tuple" := ⟨_, t1, rfl⟩
  refine wpAny_richCompare_same_room (op := .NotEq) ta tb F.slot_tuple_ne (call_meetsIn F.slot_tuple_ne ta F.entry_tuple_ne (F.args_tuple_ne_2 _ _) (tupNe_in p r us.toArray ws.toArray n1 n2 d1 d2 g1 g2 hz)
    ⟨o1, t1, fun j j1 j2 => ?_, ⟨(fun z => nomatch z), ⟨.bl false, H, I, rfl, q⟩⟩⟩) (by omega)
  have k := items_run (P := X.prog) (w := X.w) (A := X.A.in1) (s := s) (F := DEq H) (fun x y v u hd rv ru => deq_run I (by show X.A.units + 1 + 20 < cLine; omega) hd rv ru) hp r1 r2 j (by simpa using j1) (by simpa using j2)
  simpa using k
end
end SS
namespace SS
open PySem PySem.Spec PyProof.Rows L2
def topS (i : Nat) : Stmt := PySem.Challenge.pw_scopestore_k05_worths_at_points.main.body.getD i (.Pass ⟨0, 0, 0, 0⟩)
abbrev sCd : Stmt := topS 6
abbrev sFo : Stmt := topS 7
abbrev sAre : Stmt := topS 8
abbrev sPlus : Stmt := topS 9
abbrev sTimes : Stmt := topS 10
abbrev sWorth : Stmt := topS 12
abbrev sFresh : Stmt := topS 14
abbrev sMixed : Stmt := topS 15
abbrev sFill : Stmt := topS 16
abbrev sTake : Stmt := topS 17
abbrev sWhole : Stmt := topS 18
abbrev sSh : Stmt := topS 19
abbrev sFrac : Stmt := topS 20
abbrev sLPlus : Stmt := topS 21
abbrev sLTimes : Stmt := topS 22
abbrev sIsf : Stmt := topS 23
abbrev sLWorth : Stmt := topS 24
abbrev sSname : Stmt := topS 25
abbrev sNames : Stmt := topS 26
abbrev sNumber : Stmt := topS 27
abbrev sSsum : Stmt := topS 28
abbrev sLaw : Stmt := topS 29
end SS
namespace SS
open PySem PySem.Spec PyProof.Rows L2
section
variable {P : Program} {w : World} {K : PySem.W.Frag} {mg : Str → Option Value} {base : Heap}
/-! ### the greatest common divisor -/
def spGcd : Sp := fun vs H Q _ => ∃ a b : Int, vs = [.int a, .int b] ∧ Q (.int ((Int.gcd a b : Nat) : Int)) H
theorem scCd : FnScope ["a", "b"] ["a", "b"] (defScope sCd) := ⟨rfl, rfl, rfl, by decide +kernel, rfl, by decide +kernel, by decide +kernel⟩
theorem ok_cd {f : Addr} {fd : FuncData} {k : Nat} (F : Fun K "common_divisor" "common_divisor" sCd f fd) (ma : mg "abs" = none) : FnOk P w K mg base CX0 (k + 1) f fd ["a", "b"] spGcd := by
  refine F.ok scCd (fun vs H Q E h => ?_) (fun cdv A outer s H vs Q E hr h => ?_)
  · obtain ⟨a, b, rfl, _⟩ := h
    rfl
  · obtain ⟨a, b, rfl, q⟩ := h
    refine ⟨_, pss_cons (ps_par (i := 0) (j := 1) rfl scCd.nd rfl rfl (by decide) rfl rfl
        (pa_cons (pe_callB call_abs (by rfl) ma boot_abs (pa_cons (pv 0) pa_nil)) (pa_cons (pe_callB call_abs (by rfl) ma boot_abs (pa_cons (pv 1) pa_nil)) pa_nil)) rfl)
      (pss_cons (ps_while PassesOwn.never (pt_cmpR op_gt (pv 1) pe_int (nomark _))
        (pss_one (ps_par (i := 0) (j := 1) rfl scCd.nd rfl rfl (by decide) rfl rfl (pa_cons (pv 1) (pa_cons (pe_op op_mod (pv 0) (pv 1)) pa_nil)) rfl)))
      (pss_one (ps_ret (pv 0)))), ?_⟩
    refine ⟨_, rfl, a, rfl, _, rfl, b, rfl, _, _, rfl, ?_⟩
    refine ⟨fun m σ H' => ∃ x y : Int, σ = [some (.int x), some (.int y)] ∧ H' = H ∧ 0 ≤ x ∧ 0 ≤ y ∧ Int.gcd x y = Int.gcd a b ∧ m = y.toNat,
      ⟨_, _, _, rfl, rfl, by split <;> omega, by split <;> omega, gcd_abs a b, rfl⟩, fun m σ H' hW => ?_⟩
    obtain ⟨x, y, rfl, rfl, hx, hy, hg, rfl⟩ := hW
    refine ⟨_, rfl, _, _, rfl, rfl, _, rfl, ite2 (fun e => ?_) (fun e => ?_)⟩
    · have e' : 0 < y := of_decide_eq_true e
      refine ⟨fun σ' H1 => ∃ x' y' : Int, σ' = [some (.int x'), some (.int y')] ∧ H1 = H' ∧ 0 ≤ x' ∧ 0 ≤ y' ∧ Int.gcd x' y' = Int.gcd a b ∧ y' < y, fun σ' H1 hN => ?_, ?_⟩
      · obtain ⟨x', y', r1, r2, r3, r4, r5, r6⟩ := hN
        exact ⟨y'.toNat, by omega, x', y', r1, r2, r3, r4, r5, rfl⟩
      · refine ⟨_, rfl, _, rfl, _, rfl, x, y, rfl, rfl, e', _, _, rfl, y, x % y, rfl, rfl, hy, Int.emod_nonneg _ (by omega), ?_, Int.emod_lt_of_pos _ e'⟩
        rw [gcd_turn hx e', hg]
    · have e' : ¬ 0 < y := fun z => e (decide_eq_true z)
      have y0 : y = 0 := by omega
      subst y0
      refine ⟨_, rfl, ?_⟩
      rw [← hg, gcd_end x hx] at q
      exact q
theorem scSh : FnScope ["_law_one", "_law_other"] ["_law_one", "_law_other"] (defScope sSh) := ⟨rfl, rfl, rfl, by decide +kernel, rfl, by decide +kernel, by decide +kernel⟩
theorem ok_sh {f : Addr} {fd : FuncData} {k : Nat} (F : Fun K "_law_shared" "_law_shared" sSh f fd) (ma : mg "abs" = none) : FnOk P w K mg base CX0 (k + 1) f fd ["_law_one", "_law_other"] spGcd := by
  refine F.ok scSh (fun vs H Q E h => ?_) (fun cdv A outer s H vs Q E hr h => ?_)
  · obtain ⟨a, b, rfl, _⟩ := h
    rfl
  · obtain ⟨a, b, rfl, q⟩ := h
    refine ⟨_, pss_cons (ps_par (i := 0) (j := 1) rfl scSh.nd rfl rfl (by decide) rfl rfl
        (pa_cons (pe_callB call_abs (by rfl) ma boot_abs (pa_cons (pv 0) pa_nil)) (pa_cons (pe_callB call_abs (by rfl) ma boot_abs (pa_cons (pv 1) pa_nil)) pa_nil)) rfl)
      (pss_cons (ps_while PassesOwn.never (pt_cmpR op_gt (pv 1) pe_int (nomark _))
        (pss_one (ps_par (i := 0) (j := 1) rfl scSh.nd rfl rfl (by decide) rfl rfl (pa_cons (pv 1) (pa_cons (pe_op op_mod (pv 0) (pv 1)) pa_nil)) rfl)))
      (pss_one (ps_ret (pv 0)))), ?_⟩
    refine ⟨_, rfl, a, rfl, _, rfl, b, rfl, _, _, rfl, ?_⟩
    refine ⟨fun m σ H' => ∃ x y : Int, σ = [some (.int x), some (.int y)] ∧ H' = H ∧ 0 ≤ x ∧ 0 ≤ y ∧ Int.gcd x y = Int.gcd a b ∧ m = y.toNat,
      ⟨_, _, _, rfl, rfl, by split <;> omega, by split <;> omega, gcd_abs a b, rfl⟩, fun m σ H' hW => ?_⟩
    obtain ⟨x, y, rfl, rfl, hx, hy, hg, rfl⟩ := hW
    refine ⟨_, rfl, _, _, rfl, rfl, _, rfl, ite2 (fun e => ?_) (fun e => ?_)⟩
    · have e' : 0 < y := of_decide_eq_true e
      refine ⟨fun σ' H1 => ∃ x' y' : Int, σ' = [some (.int x'), some (.int y')] ∧ H1 = H' ∧ 0 ≤ x' ∧ 0 ≤ y' ∧ Int.gcd x' y' = Int.gcd a b ∧ y' < y, fun σ' H1 hN => ?_, ?_⟩
      · obtain ⟨x', y', r1, r2, r3, r4, r5, r6⟩ := hN
        exact ⟨y'.toNat, by omega, x', y', r1, r2, r3, r4, r5, rfl⟩
      · refine ⟨_, rfl, _, rfl, _, rfl, x, y, rfl, rfl, e', _, _, rfl, y, x % y, rfl, rfl, hy, Int.emod_nonneg _ (by omega), ?_, Int.emod_lt_of_pos _ e'⟩
        rw [gcd_turn hx e', hg]
    · have e' : ¬ 0 < y := fun z => e (decide_eq_true z)
      have y0 : y = 0 := by omega
      subst y0
      refine ⟨_, rfl, ?_⟩
      rw [← hg, gcd_end x hx] at q
      exact q
end
end SS

namespace SS
open PySem PySem.Spec PyProof.Rows L2
/-- what the top says of an own class of errors, straight or not under ValueError, at C -/
structure ExT (K : PySem.W.Frag) (mg : Str → Option Value) (x : Str) (C : Addr) : Prop where
  gC : mg x = some (.ref C)
  xC : PySem.W.excIn K C [.type "ValueError", .type "Exception", .type "BaseException", .type "object"] "ValueError.__new__" = true
  kC : PySem.W.keepIn K (.ref C) = true
  bC : PySem.W.subIn K (.ref C) (.type "BaseException") = some true
  tC : PySem.W.typeIn K (.ref C) = some (.type "type")
theorem logOf {b : Int} {n : Nat} (h0 : 0 < n) (h : b.natAbs < 2 ^ n) (hn : n ≤ 9000) : b.natAbs.log2 < 9000 := Nat.lt_of_lt_of_le (PySem.Flt.log2_lt_of h0 h) hn
theorem sgd_ok {t b : Int} (h : b ≠ 0) (hb : b.natAbs < 2 ^ 8000) (i : Int) : CDivG i (sgd t b) := by
  refine ⟨sgd_ne h, logOf (n := 8000) (by decide) ?_ (by decide)⟩
  rw [sgd_abs]
  refine Nat.lt_of_le_of_lt (Nat.le_of_dvd (Int.natAbs_pos.mpr h) ?_) hb
  exact Nat.gcd_dvd_right ..
section
variable {P : Program} {w : World} {K : PySem.W.Frag} {mg : Str → Option Value} {base : Heap}
/-! ### fraction_of; the law's own _law_frac -/
def spFo (C : Addr) : Sp := fun vs H Q E => ∃ t b : Int, vs = [.int t, .int b] ∧ (b = 0 → E (.ref C) none H) ∧
  (b ≠ 0 → b.natAbs < 2 ^ 8000 ∧ ∀ p, H p = none → Q (.ref p) (upd H p (.tup [.int (fr1 t b), .int (fr2 t b)])))
theorem scFo : FnScope ["top", "bottom", "divisor"] ["top", "bottom"] (defScope sFo) := ⟨rfl, rfl, rfl, by decide +kernel, rfl, by decide +kernel, by decide +kernel⟩
theorem ok_fo {f C : Addr} {fd : FuncData} (F : FunD K "fraction_of" "fraction_of" (defArgs sFo) (defBody sFo) (defScope sFo) [.int 1] [] f fd) (T : ExT K mg "NoFraction" C)
    (cd : Cl P w K mg base CX0 1 "common_divisor" spGcd []) : FnOk P w K mg base (L2.CX P w) 2 f fd ["top", "bottom"] (spFo C) := by
  refine F.ok scFo (fun vs H Q E h => ?_) (fun cdv A outer s H vs Q E hr h => ?_)
  · obtain ⟨a, b, rfl, _⟩ := h
    rfl
  · obtain ⟨t, b, rfl, q0, q1⟩ := h
    refine ⟨_, pss_cons (ps_if (pt_cmpR op_eq (pv 1) pe_int (nomark _))
        (pss_one (ps_raise rfl (takes_of rfl rfl rfl rfl) (pmk_own PySem.F.excBase_ValueError T.xC T.gC T.kC (raises_own T.bC T.tC) (by exact rfl)))) pss_nil)
      (pss_cons (ps_set (i := 2) scFo.nd rfl (.inl rfl) (pc0 cd hr (by decide) (pa_cons (pv 0) (pa_cons (pv 1) pa_nil))))
      (pss_cons (ps_if (pt_cmpR op_lt (pv 1) pe_int (nomark _)) (pss_one (ps_set (i := 2) scFo.nd rfl (.inl rfl) (pe_un un_neg (pv 2)))) pss_nil)
      (pss_one (ps_ret (pe_tup (pa_cons (pe_op op_fdivG (pv 0) (pv 2)) (pa_cons (pe_op op_fdivG (pv 1) (pv 2)) pa_nil))))))), ?_⟩
    refine ⟨_, rfl, rfl, _, rfl, ite2 (fun e => ?_) (fun e => ?_)⟩
    · exact q0 (V.int.inj (of_decide_eq_true e))
    · have h0 : b ≠ 0 := fun z => e (by rw [z]; exact decide_eq_true rfl)
      obtain ⟨hb, q⟩ := q1 h0
      refine ⟨_, rfl, _, rfl, t, b, rfl, ?_⟩
      refine ⟨_, rfl, _, _, rfl, rfl, _, rfl, ite2 (fun e2 => ?_) (fun e2 => ?_)⟩
      · have e3 : sgd t b = -((Int.gcd t b : Nat) : Int) := if_pos (of_decide_eq_true e2)
        refine ⟨_, rfl, _, rfl, ?_⟩
        refine ⟨_, rfl, _, rfl, t, sgd t b, rfl, by rw [e3], sgd_ok h0 hb t, _, rfl, _, rfl, b, sgd t b, rfl, by rw [e3], sgd_ok h0 hb b, small2, q⟩
      · have e3 : sgd t b = ((Int.gcd t b : Nat) : Int) := if_neg fun z => e2 (decide_eq_true z)
        refine ⟨_, rfl, _, rfl, t, sgd t b, rfl, by rw [e3], sgd_ok h0 hb t, _, rfl, _, rfl, b, sgd t b, rfl, by rw [e3], sgd_ok h0 hb b, small2, q⟩
end
end SS

namespace SS
open PySem PySem.Spec PyProof.Rows L2
section
variable {P : Program} {w : World} {K : PySem.W.Frag} {mg : Str → Option Value} {base : Heap}
def spFrac : Sp := fun vs H Q _ => ∃ t b : Int, vs = [.int t, .int b] ∧ b ≠ 0 ∧ b.natAbs < 2 ^ 8000 ∧ ∀ p, H p = none → Q (.ref p) (upd H p (.tup [.int (fr1 t b), .int (fr2 t b)]))
theorem scFrac : FnScope ["_law_top", "_law_bottom", "_law_by"] ["_law_top", "_law_bottom"] (defScope sFrac) := ⟨rfl, rfl, rfl, by decide +kernel, rfl, by decide +kernel, by decide +kernel⟩
theorem ok_frac {f : Addr} {fd : FuncData} (F : Fun K "_law_frac" "_law_frac" sFrac f fd) (sh : Cl P w K mg base CX0 1 "_law_shared" spGcd []) : FnOk P w K mg base CX0 2 f fd ["_law_top", "_law_bottom"] spFrac := by
  refine F.ok scFrac (fun vs H Q E h => ?_) (fun cdv A outer s H vs Q E hr h => ?_)
  · obtain ⟨a, b, rfl, _⟩ := h
    rfl
  · obtain ⟨t, b, rfl, h0, hb, q⟩ := h
    refine ⟨_, pss_cons (ps_set (i := 2) scFrac.nd rfl (.inl rfl) (pc0 sh hr (by decide) (pa_cons (pv 0) (pa_cons (pv 1) pa_nil))))
      (pss_cons (ps_if (pt_cmpR op_lt (pv 1) pe_int (nomark _)) (pss_one (ps_set (i := 2) scFrac.nd rfl (.inl rfl) (pe_op op_sub pe_int (pv 2)))) pss_nil)
      (pss_one (ps_ret (pe_tup (pa_cons (pe_op op_fdivG (pv 0) (pv 2)) (pa_cons (pe_op op_fdivG (pv 1) (pv 2)) pa_nil)))))), ?_⟩
    refine ⟨_, rfl, _, rfl, t, b, rfl, ?_⟩
    refine ⟨_, rfl, _, _, rfl, rfl, _, rfl, ite2 (fun e2 => ?_) (fun e2 => ?_)⟩
    · have e3 : sgd t b = -((Int.gcd t b : Nat) : Int) := if_pos (of_decide_eq_true e2)
      refine ⟨_, rfl, _, _, rfl, rfl, ?_⟩
      refine ⟨_, rfl, _, rfl, t, sgd t b, rfl, by rw [e3]; exact congrArg V.int (Int.zero_sub _), sgd_ok h0 hb t, _, rfl, _, rfl, b, sgd t b, rfl, by rw [e3]; exact congrArg V.int (Int.zero_sub _), sgd_ok h0 hb b, small2, q⟩
    · have e3 : sgd t b = ((Int.gcd t b : Nat) : Int) := if_neg fun z => e2 (decide_eq_true z)
      refine ⟨_, rfl, _, rfl, t, sgd t b, rfl, by rw [e3], sgd_ok h0 hb t, _, rfl, _, rfl, b, sgd t b, rfl, by rw [e3], sgd_ok h0 hb b, small2, q⟩
end
end SS

namespace SS
open PySem PySem.Spec PyProof.Rows L2
section
variable {P : Program} {w : World} {K : PySem.W.Frag} {mg : Str → Option Value} {base : Heap}
/-! ### the law's draws: fresh, mixed, fill, take -/
def spFresh (K : PySem.W.Frag) : Sp := fun vs H Q _ => ∃ (a : Addr) (ns : List Int), vs = [.ref a] ∧ SqL K H a (ns.map V.int) ∧
  ∀ H' st c, Same H H' → H st = none → H c = none → StA st c H' → Q (.ref st) H'
theorem scFresh : FnScope ["_law_script"] ["_law_script"] (defScope sFresh) := ⟨rfl, rfl, rfl, by decide +kernel, rfl, by decide +kernel, by decide +kernel⟩
theorem cut63 (xs : List V) : (cutV xs none (some 63)) = xs.take 63 := by
  unfold cutV
  rw [HT.sIx_none, show HT.sIx xs.length xs.length (some 63) = min 63 xs.length from HT.sIx_nat xs.length xs.length 63]
  show List.take (min 63 xs.length - 0) (xs.drop 0) = xs.take 63
  rw [List.drop_zero, Nat.sub_zero]
  by_cases h : xs.length ≤ 63
  · rw [Nat.min_eq_right h, List.take_length, List.take_of_length_le h]
  · rw [Nat.min_eq_left (by omega)]
theorem ok_fresh {f : Addr} {fd : FuncData} {k : Nat} (F : Fun K "_law_fresh" "_law_fresh" sFresh f fd) : FnOk P w K mg base CX0 (k + 1) f fd ["_law_script"] (spFresh K) := by
  refine F.ok scFresh (fun vs H Q E h => ?_) (fun cdv A outer s H vs Q E hr h => ?_)
  · obtain ⟨a, ns, rfl, _⟩ := h
    rfl
  · obtain ⟨a, ns, rfl, hS, q⟩ := h
    refine ⟨_, pss_one (ps_ret (pe_lst (pa_cons (pe_slice sl_list (pv 0) po_none (po_some pe_int)) (pa_cons pe_int (pa_cons pe_int (pa_cons pe_bl pa_nil)))))), ?_⟩
    refine ⟨_, rfl, 63, rfl, a, _, rfl, hS, fun c nc => ?_⟩
    refine ⟨by show 4 ≤ sizeLine; decide, fun st nst => ?_⟩
    have ncs : c ≠ st := fun e => by
      rw [e, upd_same] at nst
      cases nst
    have s1 := same_new (o := .lst (cutV (ns.map V.int) none (some 63))) nc
    refine q _ st c (s1.trans (same_new nst)) (s1.free nst) nc ⟨0, 0, false, ns.take 63, upd_same, ?_, ?_, ncs⟩
    · rw [upd_ne ncs, upd_same, cut63, List.map_take]
    · rw [List.length_take]
      exact Nat.min_le_left _ _
def spMixed : Sp := fun vs H Q _ => ∃ z : Int, vs = [.int z] ∧ ∀ H' (m : Int), Same H H' → Q (.int m) H'
theorem scMixed : FnScope ["_law_seed", "_law_primes", "_law_number_here", "_law_k", "_law_prime", "_law_far", "_law_square", "_law_power"] ["_law_seed"] (defScope sMixed) := ⟨rfl, rfl, rfl, by decide +kernel, rfl, by decide +kernel, by decide +kernel⟩
def primes : List Int := [2147483647, 2147483629, 2147483587, 2147483579, 2147483563]
def adds : List Int := [11, 101, 1009, 10007, 100003]
theorem at_some {xs : List Int} {i : Nat} (h : i < xs.length) : atI (xs.map V.int) (i : Int) = some (.int xs[i]) :=
  atI_nat (by rw [List.getElem?_map, List.getElem?_eq_getElem h]; rfl)
theorem primes_ok : ∀ x ∈ primes, 0 < x ∧ x < 2 ^ 31 := by decide
theorem ok_mixed {f : Addr} {fd : FuncData} {k : Nat} (F : Fun K "_law_mixed" "_law_mixed" sMixed f fd) (me : mg "enumerate" = none) : FnOk P w K mg base CX0 (k + 1) f fd ["_law_seed"] spMixed := by
  refine F.ok scMixed (fun vs H Q E h => ?_) (fun cdv A outer s H vs Q E hr h => ?_)
  · obtain ⟨a, rfl, _⟩ := h
    rfl
  · obtain ⟨z, rfl, q⟩ := h
    refine ⟨_, pss_cons (ps_set (i := 1) scMixed.nd rfl (.inl rfl) (pe_tup (pa_cons pe_int (pa_cons pe_int (pa_cons pe_int (pa_cons pe_int (pa_cons pe_int pa_nil)))))))
      (pss_cons (ps_set (i := 2) scMixed.nd rfl (.inl rfl) pe_int)
      (pss_cons (ps_for PassesOwn.never rfl (pi_enT (by rfl) me (pa_cons (pv 1) pa_nil)) (pg_tup rfl (pgs_cons (pg_name (i := 3) scMixed.nd rfl (.inl rfl)) (pgs_cons (pg_name (i := 4) scMixed.nd rfl (.inl rfl)) pgs_nil)))
        (pss_cons (ps_set (i := 5) scMixed.nd rfl (.inl rfl) (pe_op op_add (pv 0) (pe_ix ix_tup (pe_tup (pa_cons pe_int (pa_cons pe_int (pa_cons pe_int (pa_cons pe_int (pa_cons pe_int pa_nil)))))) (pv 3) (fun _ _ => rfl))))
        (pss_cons (ps_set (i := 5) scMixed.nd rfl (.inl rfl) (pe_op op_mod (pe_op op_mul (pv 5) (pe_op op_add pe_int (pe_op op_mul pe_int (pv 3)))) (pv 4)))
        (pss_cons (ps_set (i := 6) scMixed.nd rfl (.inl rfl) (pe_op op_mod (pe_op op_mul (pv 5) (pv 5)) (pv 4)))
        (pss_cons (ps_set (i := 7) scMixed.nd rfl (.inl rfl) (pe_op op_mod (pe_op op_mul (pe_op op_mod (pe_op op_mul (pv 6) (pv 6)) (pv 4)) (pv 5)) (pv 4)))
        (pss_one (ps_set (i := 2) scMixed.nd rfl (.inl rfl) (pe_op op_add (pe_op op_mul (pv 2) (pv 4)) (pv 7)))))))))
      (pss_one (ps_ret (pv 2))))), ?_⟩
    refine ⟨by show 5 ≤ sizeLine; decide, fun t nt => ?_⟩
    have s1 := same_new (o := .tup (primes.map V.int)) nt
    have e1 : (upd H t (.tup (primes.map V.int))) t = some (.tup (primes.map V.int)) := upd_same
    refine ⟨_, rfl, t, primes.map V.int, rfl, .inl (.inl e1), ?_⟩
    refine ⟨fun i m σ H3 => ∃ (nn : Int) (y3 y4 y5 y6 y7 : Option V), σ = [some (.int z), some (.ref t), some (.int nn), y3, y4, y5, y6, y7] ∧ i + m = 5 ∧ Same (upd H t (.tup (primes.map V.int))) H3,
      ⟨5, 0, none, none, none, none, none, rfl, rfl, Same.refl _⟩, fun i m σ H3 hW => ?_⟩
    obtain ⟨nn, y3, y4, y5, y6, y7, rfl, em, sm⟩ := hW
    have e3 : SqT K H3 t (primes.map V.int) := .inl (.inl (sm _ _ e1))
    by_cases hi : i < 5
    · have hp : i < primes.length := hi
      refine .inr ⟨⟨_, _, e3, by rw [List.getElem?_map, List.getElem?_eq_getElem hp]; rfl⟩,
        fun σ' H' => ∃ (nn : Int) (y3 y4 y5 y6 y7 : Option V), σ' = [some (.int z), some (.ref t), some (.int nn), y3, y4, y5, y6, y7] ∧ Same (upd H t (.tup (primes.map V.int))) H', fun σ' H' hN => ?_, fun x H' hy => ?_⟩
      · obtain ⟨a1, a2, a3, a4, a5, a6, r1, r2⟩ := hN
        exact ⟨m - 1, by omega, a1, a2, a3, a4, a5, a6, r1, by omega, r2⟩
      · obtain ⟨T, v, rfl, nT, rfl, fv⟩ := hy
        have ev : v = .int primes[i] := by
          have zz := fv _ e3
          rw [List.getElem?_map, List.getElem?_eq_getElem hp] at zz
          exact (Option.some.inj zz).symm
        subst ev
        have pr : 0 < primes[i] ∧ primes[i] < 2 ^ 31 := primes_ok _ (List.getElem_mem hp)
        generalize primes[i] = pp at pr
        have sT := same_new (o := .tup [.int (i : Nat), .int pp]) nT
        refine ⟨T, [.int (i : Nat), .int pp], rfl, .inl (.inl upd_same), rfl, _, _, rfl, _, _, rfl, rfl, ?_⟩
        -- far = seed + (..)[k]
        refine ⟨_, rfl, by show 5 ≤ sizeLine; decide, fun U nU => ?_⟩
        have sU := same_new (o := .tup (adds.map V.int)) nU
        have hA : i < adds.length := hi
        refine ⟨_, rfl, U, adds.map V.int, (i : Int), .int adds[i], rfl, rfl, .inl (.inl upd_same), at_some hA, z, adds[i], rfl, rfl, ?_⟩
        obtain ⟨far, hfar⟩ : ∃ far, z + adds[i] = far := ⟨_, rfl⟩
        -- far = far * (48271 + 2 * k) % prime
        refine ⟨_, rfl, _, rfl, 2, (i : Int), rfl, rfl, .inl ⟨by decide, by decide⟩, 48271, 2 * (i : Int), rfl, rfl, far, _, congrArg V.int hfar, rfl, .inr ⟨by omega, by omega⟩, _, rfl, _, pp, rfl, rfl, pr.1, ?_⟩
        obtain ⟨fa, hfa⟩ : ∃ fa, far * (48271 + 2 * (i : Int)) % pp = fa := ⟨_, rfl⟩
        have f1 := Int.emod_nonneg (far * (48271 + 2 * (i : Int))) (b := pp) (by omega)
        have f2 := Int.emod_lt_of_pos (far * (48271 + 2 * (i : Int))) pr.1
        rw [hfa] at f1 f2
        -- square
        refine ⟨_, rfl, _, rfl, fa, fa, congrArg V.int hfa, congrArg V.int hfa, .inl ⟨by omega, by omega⟩, _, rfl, _, pp, rfl, rfl, pr.1, ?_⟩
        obtain ⟨sq, hsq⟩ : ∃ sq, fa * fa % pp = sq := ⟨_, rfl⟩
        have g1 := Int.emod_nonneg (fa * fa) (b := pp) (by omega)
        have g2 := Int.emod_lt_of_pos (fa * fa) pr.1
        rw [hsq] at g1 g2
        -- power
        refine ⟨_, rfl, _, rfl, sq, sq, congrArg V.int hsq, congrArg V.int hsq, .inl ⟨by omega, by omega⟩, _, rfl, _, pp, rfl, rfl, pr.1, _, rfl, _, fa, rfl, congrArg V.int hfa, .inr ⟨by omega, by omega⟩, _, rfl, _, pp, rfl, rfl, pr.1, ?_⟩
        -- number
        refine ⟨_, rfl, _, rfl, nn, pp, rfl, rfl, .inr ⟨by omega, by omega⟩, _, rfl, _, _, rfl, rfl, ?_⟩
        exact ⟨_, _, _, _, _, _, rfl, sm.trans (sT.trans sU)⟩
    · refine .inl ⟨⟨_, e3, by show 5 = i; omega⟩, _, rfl, q _ nn (s1.trans sm)⟩
end
end SS

namespace SS
open PySem PySem.Spec PyProof.Rows L2
section
variable {P : Program} {w : World} {K : PySem.W.Frag} {mg : Str → Option Value} {base : Heap}
def spFill : Sp := fun vs H Q _ => ∃ st c : Addr, vs = [.ref st] ∧ StA st c H ∧ ∀ H', But st H H' → StA st c H' → Q .non H'
theorem scFill : FnScope ["_law_state", "_law_cells", "_law_at", "_law_seed"] ["_law_state"] (defScope sFill) := ⟨rfl, rfl, rfl, by decide +kernel, rfl, by decide +kernel, by decide +kernel⟩
theorem ok_fill {f : Addr} {fd : FuncData} (F : Fun K "_law_fill" "_law_fill" sFill f fd) (ml : mg "len" = none) (mx : Cl P w K mg base CX0 1 "_law_mixed" spMixed []) : FnOk P w K mg base CX0 2 f fd ["_law_state"] spFill := by
  refine F.ok scFill (fun vs H Q E h => ?_) (fun cdv A outer s H vs Q E hr h => ?_)
  · obtain ⟨a, _, rfl, _⟩ := h
    rfl
  · obtain ⟨st, c, rfl, hst, q⟩ := h
    refine ⟨_, pss_cons (ps_par (i := 1) (j := 2) rfl scFill.nd rfl rfl (by decide) rfl rfl (pa_cons (pe_ix ix_list (pv 0) pe_int (fun _ _ => rfl)) (pa_cons (pe_ix ix_list (pv 0) pe_int (fun _ _ => rfl)) pa_nil)) rfl)
      (pss_cons (ps_set (i := 3) scFill.nd rfl (.inl rfl) (pe_op op_add (pe_op op_mul pe_int (pv 2)) pe_int))
      (pss_cons (ps_if (pt_cmpR op_gt (pe_callB call_len_seq (by rfl) ml PySem.boot_len (pa_cons (pv 1) pa_nil)) pe_int (nomark _))
        (pss_cons (ps_set (i := 3) scFill.nd rfl (.inl rfl) (pe_op op_mul pe_int (pe_op op_fdiv (pv 2) (pe_callB call_len_seq (by rfl) ml PySem.boot_len (pa_cons (pv 1) pa_nil)))))
        (pss_one (ps_set (i := 3) scFill.nd rfl (.inl rfl) (pe_op op_add (pv 3) (pe_ix ix_list (pv 1) (pe_op op_mod (pv 2) (pe_callB call_len_seq (by rfl) ml PySem.boot_len (pa_cons (pv 1) pa_nil))) (fun _ _ => rfl))))))
        pss_nil)
      (pss_cons (ps_asg (pe_op op_add (pv 2) pe_int) (pg_sub (pv 0) pe_int set_list))
      (pss_cons (ps_asg (pe_or (pe_cmpR op_ge (pv 2) (pe_callB call_len_seq (by rfl) ml PySem.boot_len (pa_cons (pv 1) pa_nil)) (nomark _)) (pe_one (pe_cmpR op_lt (pv 3) (pe_op op_pow pe_int pe_int) (nomark _)))) (pg_sub (pv 0) pe_int set_list))
      (pss_one (ps_if (pt_val (pe_ix ix_list (pv 0) pe_int (fun _ _ => rfl)))
        (pss_one (ps_asg (pc0 mx hr (by decide) (pa_cons (pv 3) pa_nil)) (pg_sub (pv 0) pe_int set_list)))
        (pss_one (ps_asg (pe_op op_sub (pv 3) (pe_op op_pow pe_int pe_int)) (pg_sub (pv 0) pe_int set_list))))))))), ?_⟩
    obtain ⟨i, n, b, xs, h1, h2, h3, h4⟩ := hst
    refine ⟨_, rfl, st, _, 0, _, rfl, rfl, SqL.of h1, atI_nat (j := 0) rfl, _, rfl, st, _, 1, _, rfl, rfl, SqL.of h1, atI_nat (j := 1) rfl, _, _, rfl, ?_⟩
    refine ⟨_, rfl, 31, i, rfl, rfl, .inl ⟨by decide, by decide⟩, _, 7, rfl, rfl, ?_⟩
    refine ⟨_, rfl, c, _, rfl, .inl (SqL.of h2), _, _, rfl, rfl, _, rfl, ite2 (fun e => ?_) (fun e => ?_)⟩
    have e0 : (0 : Int) < ((xs.map V.int).length : Int) := of_decide_eq_true e
    have e1 : 0 < xs.length := by
      rw [List.length_map] at e0
      omega
    have el : ((xs.map V.int).length : Int) = (xs.length : Int) := by rw [List.length_map]
    refine ⟨_, rfl, _, rfl, c, _, rfl, .inl (SqL.of h2), i, (xs.length : Int), rfl, congrArg V.int el, ⟨by omega, by omega⟩, 104729, _, rfl, rfl, .inl ⟨by decide, by decide⟩, ?_⟩
    have m1 := Int.emod_nonneg i (b := (xs.length : Int)) (by omega)
    have m2 := Int.emod_lt_of_pos i (b := (xs.length : Int)) (by omega)
    have m3 : (i % (xs.length : Int)).toNat < xs.length := by omega
    have m4 : atI (xs.map V.int) (i % (xs.length : Int)) = some (.int xs[(i % (xs.length : Int)).toNat]) := by
      have e5 : i % (xs.length : Int) = (((i % (xs.length : Int)).toNat : Nat) : Int) := by omega
      exact at_of e5 (by rw [List.getElem?_map, List.getElem?_eq_getElem m3]; rfl)
    refine ⟨_, rfl, _, rfl, _, rfl, _, rfl, c, _, rfl, .inl (SqL.of h2), i, (xs.length : Int), rfl, congrArg V.int el, by omega, c, _, _, _, rfl, rfl, SqL.of h2, m4, _, _, rfl, rfl, ?_⟩
    all_goals
      refine ⟨_, rfl, i, 1, rfl, rfl, _, rfl, st, _, 1, 1, rfl, rfl, h1, rfl, ?_⟩
      have k2 : ∀ o : HO, (upd H st o) c = some (.lst (xs.map V.int)) := fun o => by
        rw [upd_ne h4]
        exact h2
      refine ⟨_, rfl, _, rfl, c, _, rfl, .inl (SqL.of (k2 _)), _, _, rfl, rfl, _, rfl, ite2 (fun e2 => ?_) (fun e2 => ?_)⟩
      rotate_left
      refine ⟨_, rfl, 10, 18, rfl, rfl, ⟨by decide, by decide, by decide⟩, _, _, rfl, rfl, ?_⟩
      all_goals
        refine ⟨_, rfl, st, _, 3, 3, rfl, rfl, upd_same, rfl, ?_⟩
        refine ⟨_, rfl, st, _, 3, _, rfl, rfl, SqL.of upd_same, atI_nat (j := 3) rfl, _, rfl, ite2 (fun e3 => ?_) (fun e3 => ?_)⟩
        · refine ⟨_, rfl, _, rfl, fun H3 m sm => ?_⟩
          refine ⟨_, rfl, st, _, 2, 2, rfl, rfl, sm _ _ upd_same, rfl, ?_⟩
          refine q _ (((But.upd.trans But.upd).trans (Same.but sm)).trans But.upd) ⟨_, _, _, xs, upd_same, ?_, h3, h4⟩
          rw [upd_ne h4]
          refine sm _ _ ?_
          rw [upd_ne h4]
          exact k2 _
        · refine ⟨_, rfl, 10, 18, rfl, rfl, ⟨by decide, by decide, by decide⟩, _, _, rfl, rfl, _, rfl, st, _, 2, 2, rfl, rfl, upd_same, rfl, ?_⟩
          refine q _ ((But.upd.trans But.upd).trans But.upd) ⟨_, _, _, xs, upd_same, ?_, h3, h4⟩
          rw [upd_ne h4, upd_ne h4]
          exact k2 _
end
end SS

namespace SS
open PySem PySem.Spec PyProof.Rows L2
section
variable {P : Program} {w : World} {K : PySem.W.Frag} {mg : Str → Option Value} {base : Heap}
def spTake : Sp := fun vs H Q _ => ∃ (st c : Addr) (many : Int), vs = [.ref st, .int many] ∧ 0 < many ∧ many.natAbs < 2 ^ 8000 ∧ StA st c H ∧
  ∀ H' (d : Int), But st H H' → StA st c H' → 0 ≤ d → d < many → Q (.int d) H'
theorem scTake : FnScope ["_law_state", "_law_many", "_law_turns", "_law_digit"] ["_law_state", "_law_many"] (defScope sTake) := ⟨rfl, rfl, rfl, by decide +kernel, rfl, by decide +kernel, by decide +kernel⟩
theorem StA.put {st : Addr} {H : Hp} {c : Addr} {i n : Int} {f : Bool} {xs : List Int} (h2 : H c = some (.lst (xs.map V.int))) (h3 : xs.length ≤ 63) (h4 : c ≠ st) : StA st c (upd H st (.lst [.ref c, .int i, .int n, .bl f])) :=
  ⟨i, n, f, xs, upd_same, by rw [upd_ne h4]; exact h2, h3, h4⟩
theorem ok_take {f : Addr} {fd : FuncData} (F : Fun K "_law_take" "_law_take" sTake f fd) (fl : Cl P w K mg base CX0 2 "_law_fill" spFill []) : FnOk P w K mg base CX0 3 f fd ["_law_state", "_law_many"] spTake := by
  refine F.ok scTake (fun vs H Q E h => ?_) (fun cdv A outer s H vs Q E hr h => ?_)
  · obtain ⟨a, _, b, rfl, _⟩ := h
    rfl
  · obtain ⟨st, c, many, rfl, m0, m1, hst, q⟩ := h
    refine ⟨_, pss_cons (ps_set (i := 2) scTake.nd rfl (.inl rfl) pe_int)
      (pss_cons (ps_while PassesOwn.never
        (PW.pt (pw_and (pt_cmpR op_lt (pv 2) pe_int (nomark _)) (pw_and1 (PW.pt (pw_or (pt_cmpR op_eq (pe_ix ix_list (pv 0) pe_int (fun _ _ => rfl)) pe_int (nomark _))
          (pw_or1 (PW.pt (pw_and (pt_val (pe_ix ix_list (pv 0) pe_int (fun _ _ => rfl))) (pw_and1 (pt_cmpR op_lt (pe_ix ix_list (pv 0) pe_int (fun _ _ => rfl)) (pe_op op_mul (pv 1) pe_int) (nomark _)))))))))))
        (pss_cons (ps_expr (pc0 fl hr (by decide) (pa_cons (pv 0) pa_nil)))
        (pss_cons (ps_aug (i := 2) scTake.nd rfl (.inl rfl) pe_int ip_add)
        (pss_one (ps_if (PW.pt (pw_and (pt_val (pe_ix ix_list (pv 0) pe_int (fun _ _ => rfl))) (pw_and1 (pt_cmpR op_lt (pe_ix ix_list (pv 0) pe_int (fun _ _ => rfl)) (pe_op op_mul (pv 1) pe_int) (nomark _)))))
          (pss_one (ps_asg (pe_op op_add (pe_ix ix_list (pv 0) pe_int (fun _ _ => rfl)) (pe_op op_mul (pe_op op_mul (pv 1) pe_int) (pe_op op_add pe_int (pe_op op_mod (pe_ix ix_list (pv 0) pe_int (fun _ _ => rfl)) pe_int)))) (pg_sub (pv 0) pe_int set_list))) pss_nil)))))
      (pss_cons (ps_set (i := 3) scTake.nd rfl (.inl rfl) (pe_op op_mod (pe_ix ix_list (pv 0) pe_int (fun _ _ => rfl)) (pv 1)))
      (pss_cons (ps_asg (pe_op op_fdivW (pe_ix ix_list (pv 0) pe_int (fun _ _ => rfl)) (pv 1)) (pg_sub (pv 0) pe_int set_list))
      (pss_one (ps_ret (pv 3)))))), ?_⟩
    refine ⟨fun m σ H' => ∃ (tn : Int) (y3 : Option V), σ = [some (.ref st), some (.int many), some (.int tn), y3] ∧ But st H H' ∧ StA st c H' ∧ m = (64 - tn).toNat,
      ⟨64, 0, none, rfl, But.refl _ _, hst, rfl⟩, fun m σ H1 hW => ?_⟩
    obtain ⟨tn, y3, rfl, bt, sa, rfl⟩ := hW
    obtain ⟨i, n, b, xs, h1, h2, h3, h4⟩ := id sa
    refine ⟨_, rfl, tn, 64, rfl, rfl, _, rfl, ite2 (fun e => ?n2) (fun e => iteF ?ex1)⟩
    case' n2 => refine ⟨_, rfl, st, _, 2, _, rfl, rfl, SqL.of h1, atI_nat (j := 2) rfl, rfl, _, rfl, ite2 (fun e1 => iteT ?bd1) (fun e1 => ?n3)⟩
    case' n3 => refine ⟨_, rfl, st, _, 3, _, rfl, rfl, SqL.of h1, atI_nat (j := 3) rfl, _, rfl, ite2 (fun e2 => ?n4) (fun e2 => iteF ?ex2)⟩
    case' n4 => refine ⟨_, rfl, st, _, 2, _, rfl, rfl, SqL.of h1, atI_nat (j := 2) rfl, _, rfl, many, 4096, rfl, rfl, .inr ⟨by decide, by decide⟩, n, _, rfl, rfl, _, rfl, ite2 (fun e3 => ?bd2) (fun e3 => ?ex3)⟩
    case ex1 | ex2 | ex3 =>
      refine ⟨_, rfl, st, _, 2, _, rfl, rfl, SqL.of h1, atI_nat (j := 2) rfl, _, rfl, n, many, rfl, rfl, m0, ?_⟩
      refine ⟨_, rfl, st, _, 2, _, rfl, rfl, SqL.of h1, atI_nat (j := 2) rfl, _, rfl, n, many, rfl, rfl, wide_div m0 m1 (by decide) (by decide), _, rfl, st, _, 2, 2, rfl, rfl, h1, rfl, ?_⟩
      exact ⟨_, rfl, q _ _ (bt.trans But.upd) (StA.put h2 h3 h4) (Int.emod_nonneg _ (by omega)) (Int.emod_lt_of_pos _ m0)⟩
    case bd1 | bd2 =>
      have e' : tn < 64 := of_decide_eq_true e
      refine ⟨fun σ' H' => ∃ (tn' : Int) (y3 : Option V), σ' = [some (.ref st), some (.int many), some (.int tn'), y3] ∧ But st H H' ∧ StA st c H' ∧ tn' = tn + 1, fun σ' H' hN => ?_, ?_⟩
      · obtain ⟨t', y', r1, r2, r3, r4⟩ := hN
        exact ⟨_, by omega, t', y', r1, r2, r3, rfl⟩
      · refine ⟨_, rfl, st, c, rfl, sa, fun H2 b2 s2 => ?_⟩
        obtain ⟨i, n, b, xs, h1, h2, h3, h4⟩ := id s2
        refine ⟨_, rfl, _, _, rfl, rfl, ?_⟩
        refine ⟨_, rfl, st, _, 3, _, rfl, rfl, SqL.of h1, atI_nat (j := 3) rfl, _, rfl, ite2 (fun e2 => ?_) (fun e2 => iteF ?_)⟩
        · refine ⟨_, rfl, st, _, 2, _, rfl, rfl, SqL.of h1, atI_nat (j := 2) rfl, _, rfl, many, 4096, rfl, rfl, .inr ⟨by decide, by decide⟩, n, _, rfl, rfl, _, rfl, ite2 (fun e3 => ?_) (fun e3 => ?_)⟩
          · refine ⟨_, rfl, st, _, 2, _, rfl, rfl, SqL.of h1, atI_nat (j := 2) rfl, _, rfl, many, 4096, rfl, rfl, .inr ⟨by decide, by decide⟩, _, rfl, st, _, 2, _, rfl, rfl, SqL.of h1, atI_nat (j := 2) rfl, n, 4093, rfl, rfl, (by show (0 : Int) < 4093; decide), 1, n % 4093, rfl, rfl, _, 1 + n % 4093, rfl, rfl, .inr ⟨by omega, by omega⟩, n, _, rfl, rfl, ?_⟩
            refine ⟨_, rfl, st, _, 2, 2, rfl, rfl, h1, rfl, ?_⟩
            exact ⟨_, _, rfl, (bt.trans b2).trans But.upd, StA.put h2 h3 h4, rfl⟩
          · exact ⟨_, _, rfl, bt.trans b2, s2, rfl⟩
        · exact ⟨_, _, rfl, bt.trans b2, s2, rfl⟩
end
end SS

namespace SS
open PySem PySem.Spec PyProof.Rows L2
theorem sm_mul {i j : Int} {a b : Nat} (ha : i.natAbs < 2 ^ a) (hb : j.natAbs < 2 ^ b) : (i * j).natAbs < 2 ^ (a + b) := wide_lt ha hb
theorem sm_add {i j : Int} {a : Nat} (ha : i.natAbs < 2 ^ a) (hb : j.natAbs < 2 ^ a) : (i + j).natAbs < 2 ^ (a + 1) := by
  rw [Nat.pow_succ]
  omega
theorem sm_sub {i j : Int} {a : Nat} (ha : i.natAbs < 2 ^ a) (hb : j.natAbs < 2 ^ a) : (i - j).natAbs < 2 ^ (a + 1) := by
  rw [Nat.pow_succ]
  omega
theorem sm_mono {i : Int} {a b : Nat} (ha : i.natAbs < 2 ^ a) (h : a ≤ b) : i.natAbs < 2 ^ b := Nat.lt_of_lt_of_le ha (Nat.pow_le_pow_right (by decide) h)
theorem pos_ne {a b : Int} (h1 : 0 < a) (h2 : 0 < b) : a * b ≠ 0 := Int.ne_of_gt (Int.mul_pos h1 h2)
end SS

namespace SS
open PySem PySem.Spec PyProof.Rows L2
/-! ### how many bits a number has -/
theorem mt_bits {X : Cx} : MtR X "int.bit_length" (fun x xs H Q => ∃ a : Int, x = .int a ∧ xs = [] ∧ Q (.int ((Builtin.Int.intBits a : Nat) : Int)) H) := by
  intro pins s σ H x xs v us Q I rx rs h
  obtain ⟨a, rfl, rfl, h⟩ := h
  obtain ⟨t, rfl⟩ := rx
  cases rs
  exact call_int_bit_length ⟨.int ((Builtin.Int.intBits a : Nat) : Int), H, I.tok _, ⟨_, rfl⟩, h⟩
theorem bits_le {d : Int} {k : Nat} (h : d.natAbs < 2 ^ k) : Builtin.Int.intBits d ≤ k := by
  unfold Builtin.Int.intBits
  by_cases c : d = 0
  · rw [if_pos (beq_iff_eq.mpr c)]
    exact Nat.zero_le _
  · rw [if_neg fun z => c (beq_iff_eq.mp z)]
    exact (Nat.log2_lt (Int.natAbs_ne_zero.mpr c)).mpr h
theorem dv_lt {d g : Int} {k : Nat} (hg : g ∣ d) (h0 : g ≠ 0) (h : d.natAbs < 2 ^ k) : (d.fdiv g).natAbs < 2 ^ k := by
  obtain ⟨c, rfl⟩ := hg
  rw [gcdDvdMul h0]
  rw [Int.natAbs_mul] at h
  exact Nat.lt_of_le_of_lt (Nat.le_mul_of_pos_left _ (Int.natAbs_pos.mpr h0)) h
theorem cdiv_ok {g : Int} (h0 : g ≠ 0) (h : g.natAbs < 2 ^ 3000) (i : Int) : CDivG i g := ⟨h0, logOf (n := 3000) (by decide) h (by decide)⟩
theorem gcd_ne {a b : Int} (h : b ≠ 0) : ((Int.gcd a b : Nat) : Int) ≠ 0 := by
  have := gcdP (t := a) h
  omega
theorem gcd_ltK {a b : Int} {k : Nat} (h : b ≠ 0) (hb : b.natAbs < 2 ^ k) : ((Int.gcd a b : Nat) : Int).natAbs < 2 ^ k := by
  rw [Int.natAbs_natCast]
  exact Nat.lt_of_le_of_lt (Nat.le_of_dvd (Int.natAbs_pos.mpr h) (Nat.gcd_dvd_right ..)) hb
section
variable {P : Program} {w : World} {K : PySem.W.Frag} {mg : Str → Option Value} {base : Heap}
def shortB (d1 d2 : Int) : Bool := decide (((Builtin.Int.intBits d1 : Nat) : Int) + ((Builtin.Int.intBits d2 : Nat) : Int) ≤ 256)
theorem short_of {d1 d2 : Int} (h1 : d1.natAbs < 2 ^ 128) (h2 : d2.natAbs < 2 ^ 128) : shortB d1 d2 = true := decide_eq_true (by
  have := bits_le h1
  have := bits_le h2
  omega)
def spAre (K : PySem.W.Frag) : Sp := fun vs H Q _ => ∃ (p q : Addr) (n1 d1 n2 d2 : Int), vs = [.ref p, .ref q] ∧ SqT K H p [.int n1, .int d1] ∧ SqT K H q [.int n2, .int d2] ∧ Q (.bl (shortB d1 d2)) H
theorem scAre : FnScope ["a", "b"] ["a", "b"] (defScope sAre) := ⟨rfl, rfl, rfl, by decide +kernel, rfl, by decide +kernel, by decide +kernel⟩
theorem ok_are {f : Addr} {fd : FuncData} {k : Nat} {tSb : Tok} (F : Fun K "are_short" "are_short" sAre f fd) (gSb : mg "SHORT_BITS" = some (.int 256 tSb)) : FnOk P w K mg base CX0 (k + 1) f fd ["a", "b"] (spAre K) := by
  refine F.ok scAre (fun vs H Q E h => ?_) (fun cdv A outer s H vs Q E hr h => ?_)
  · obtain ⟨_, _, _, _, _, _, rfl, _⟩ := h
    rfl
  · obtain ⟨p, q, n1, d1, n2, d2, rfl, h1, h2, k⟩ := h
    refine ⟨_, pss_one (ps_ret (pe_cmpR op_le (pe_op op_add
        (pe_bm0 PySem.F.plainAttrs_int PySem.F.slot_int_bit_length PySem.F.type_int_bit_length mt_bits (pe_ix ix_tup (pv 0) pe_int (fun _ _ => rfl)))
        (pe_bm0 PySem.F.plainAttrs_int PySem.F.slot_int_bit_length PySem.F.type_int_bit_length mt_bits (pe_ix ix_tup (pv 1) pe_int (fun _ _ => rfl))))
      (pe_glob (v := .int 256) (by rfl) gSb ⟨_, rfl⟩) (nomark _))), ?_⟩
    refine ⟨_, rfl, p, _, 1, _, rfl, rfl, h1, atI_nat (j := 1) rfl, rfl, d1, rfl, rfl, _, rfl, q, _, 1, _, rfl, rfl, h2, atI_nat (j := 1) rfl, rfl, d2, rfl, rfl, _, _, rfl, rfl, _, _, rfl, rfl, k⟩
end
end SS

namespace SS
open PySem PySem.Spec PyProof.Rows L2
/-- a tuple of two numbers, wherever it stands -/
def FrT (K : PySem.W.Frag) (H : Hp) (p : Addr) (n d : Int) : Prop := SqT K H p [.int n, .int d] ∧ TyX K H (.ref p) (.type "tuple")
theorem FrT.of {K : PySem.W.Frag} {H : Hp} {p : Addr} {n d : Int} (h : H p = some (.tup [.int n, .int d])) : FrT K H p n d := ⟨SqT.of h, .base (.tup h)⟩
theorem FrT.new {K : PySem.W.Frag} {H H' : Hp} {p : Addr} {n d : Int} (h : FrT K H p n d) (s : Same H H') : FrT K H' p n d := by
  obtain ⟨h1, h2⟩ := h
  rcases h1 with (h1 | ⟨o, h1⟩) | ⟨o, its, m, k1, k2, k3⟩
  · exact ⟨.inl (.inl (s _ _ h1)), .base (.tup (s _ _ h1))⟩
  · exact ⟨.inl (.inr ⟨o, s _ _ h1⟩), .fTuple (s _ _ h1)⟩
  · exact ⟨.inr ⟨o, its, m, k1, k2, k3⟩, .kTuple k1 k2⟩
theorem FrT.inj {K : PySem.W.Frag} {H : Hp} {p : Addr} {n d : Int} {xs : List V} (h : FrT K H p n d) (e : H p = some (.tup xs)) : True := trivial
end SS
namespace SS
open PySem PySem.Spec PyProof.Rows L2
section
variable {P : Program} {w : World} {K : PySem.W.Frag} {mg : Str → Option Value} {base : Heap}
/-! ### a whole number, a fraction by the law's own look -/
def spWhole : Sp := fun vs H Q _ => ∃ i : Int, vs = [.int i] ∧ Q (.bl true) H
theorem scWhole : FnScope ["_law_thing"] ["_law_thing"] (defScope sWhole) := ⟨rfl, rfl, rfl, by decide +kernel, rfl, by decide +kernel, by decide +kernel⟩
theorem ok_whole {f : Addr} {fd : FuncData} {k : Nat} (F : Fun K "_law_whole" "_law_whole" sWhole f fd) (mi : mg "isinstance" = none) (mn : mg "int" = none) (mb : mg "bool" = none) : FnOk P w K mg base CX0 (k + 1) f fd ["_law_thing"] spWhole := by
  refine F.ok scWhole (fun vs H Q E h => ?_) (fun cdv A outer s H vs Q E hr h => ?_)
  · obtain ⟨a, rfl, _⟩ := h
    rfl
  · obtain ⟨i, rfl, q⟩ := h
    refine ⟨_, pss_one (ps_ret (pe_and (pe_callB call_isi (by rfl) mi boot_isinstance (pa_cons (pv 0) (pa_cons (pe_bltn (v := .ty "int") (u := .type "int") (by rfl) mn (by decide +kernel) rfl) pa_nil)))
      (pe_one (pe_not (pe_callB call_isi (by rfl) mi boot_isinstance (pa_cons (pv 0) (pa_cons (pe_bltn (v := .ty "bool") (u := .type "bool") (by rfl) mb (by decide +kernel) rfl) pa_nil))))))), ?_⟩
    refine ⟨_, rfl, .int i, .ty "int", .type "int", .type "int", true, rfl, .ty _, .base (.int i), kit_ty (by decide +kernel), _, rfl, iteT ?_⟩
    exact ⟨_, rfl, .int i, .ty "bool", .type "int", .type "bool", false, rfl, .ty _, .base (.int i), kit_ty (by decide +kernel), _, rfl, q⟩
def spIsf (K : PySem.W.Frag) : Sp := fun vs H Q _ => ∃ (p : Addr) (n d : Int), vs = [.ref p] ∧ FrT K H p n d ∧ 0 < d ∧ Int.gcd n d = 1 ∧ ∀ H', Same H H' → Q (.bl true) H'
theorem scIsf : FnScope ["_law_thing", "_law_part"] ["_law_thing"] (defScope sIsf) := ⟨rfl, rfl, rfl, by decide +kernel, rfl, by decide +kernel, by decide +kernel⟩
theorem ok_isf {f : Addr} {fd : FuncData} (F : Fun K "_law_is_fraction" "_law_is_fraction" sIsf f fd) (mi : mg "isinstance" = none) (mt : mg "tuple" = none) (ml : mg "len" = none) (ma : mg "all" = none)
    (wh : Cl P w K mg base CX0 1 "_law_whole" spWhole []) (sh : Cl P w K mg base CX0 1 "_law_shared" spGcd []) : FnOk P w K mg base CX0 2 f fd ["_law_thing"] (spIsf K) := by
  refine F.ok scIsf (fun vs H Q E h => ?_) (fun cdv A outer s H vs Q E hr h => ?_)
  · obtain ⟨a, _, _, rfl, _⟩ := h
    rfl
  · obtain ⟨p, n, d, rfl, hp, hd, hg, q⟩ := h
    refine ⟨_, pss_cons (ps_if (PW.pt (pw_or (pt_not (pt_val (pe_callB call_isi (by rfl) mi boot_isinstance (pa_cons (pv 0) (pa_cons (pe_bltn (v := .ty "tuple") (u := .type "tuple") (by rfl) mt (by decide +kernel) rfl) pa_nil)))))
        (pw_or (pt_cmpR op_ne (pe_callB call_len_seq (by rfl) ml PySem.boot_len (pa_cons (pv 0) pa_nil)) pe_int (nomark _))
        (pw_or1 (pt_not (pt_val (pe_callB (cr_all rfl) (by rfl) ma boot_all (pa_cons
          (pe_lc (own := [("_law_part", 1)]) (g := gName 1) (tt := tYes) rfl scIsf.nd (pi_tup (pv 0)) (blkOk_by (N := ["_law_thing", "_law_part"]) (sc := defScope sIsf) (by decide +kernel))
            (fun _ _ _ _ _ => pg_name (i := 1) scIsf.nd rfl (Or.inl rfl)) (fun _ _ _ _ _ => pts_nil) (fun _ _ _ _ _ => pc0 wh hr (by decide) (pa_cons (pv 1) pa_nil))) pa_nil))))))))
        (pss_one (ps_ret pe_bl)) pss_nil)
      (pss_one (ps_ret (pe_and (pe_cmpR op_gt (pe_ix ix_tup (pv 0) pe_int (fun _ _ => rfl)) pe_int (nomark _))
        (pe_one (pe_cmpR op_eq (pc0 sh hr (by decide) (pa_cons (pe_ix ix_tup (pv 0) pe_int (fun _ _ => rfl)) (pa_cons (pe_ix ix_tup (pv 0) pe_int (fun _ _ => rfl)) pa_nil))) pe_int (nomark _)))))), ?_⟩
    refine ⟨_, rfl, .ref p, .ty "tuple", .type "tuple", .type "tuple", true, rfl, .ty _, hp.2, kit_ty (by decide +kernel), _, rfl, iteF ?_⟩
    refine ⟨_, rfl, p, _, rfl, .inr (hp.1), rfl, _, rfl, iteNS rfl ?_⟩
    refine ⟨_, rfl, p, rfl, ⟨_, hp.1⟩, fun D nD => lc_tup (K := K) (a := p) (xs := [.int n, .int d]) (fun i H' => H' D = some (.lst (List.replicate i (.bl true))) ∧ ∀ b o, b ≠ D → H b = some o → H' b = some o)
      ⟨upd_same, fun b o nb e => by rw [upd_ne nb]; exact e⟩ (fun i H' _ hW => (hp.new (fun b o e => hW.2 b o (ne_of_none e nD) e)).1) ?_ ?_⟩
    · rintro i x H' hx ⟨w1, w2⟩
      obtain ⟨z, rfl⟩ : ∃ z : Int, x = .int z := by
        match i, hx with
        | 0, hx => exact ⟨n, (Option.some.inj hx).symm⟩
        | 1, hx => exact ⟨d, (Option.some.inj hx).symm⟩
      have hi : i < 2 := by
        have zz := (List.getElem?_eq_some_iff.mp hx).1
        exact zz
      refine ⟨rfl, _, rfl, z, rfl, _, w1, ?_, ?_, ?_⟩
      · rw [List.length_replicate]
        exact small1000 (by omega)
      · rw [upd_same, List.replicate_succ']
      · intro b o nb e
        rw [upd_ne nb]
        exact w2 b o nb e
    · rintro H' ⟨w1, w2⟩
      refine ⟨D, [true, true], rfl, SqL.of w1, _, rfl, iteF ?_⟩
      have sm : Same H H' := fun b o e => w2 b o (ne_of_none e nD) e
      have hp' := hp.new sm
      refine ⟨_, rfl, p, _, 1, _, rfl, rfl, hp'.1, atI_nat (j := 1) rfl, d, 0, rfl, rfl, true, congrArg V.bl (decide_eq_true hd), iteT ?_⟩
      refine ⟨_, rfl, p, _, 0, _, rfl, rfl, hp'.1, atI_nat (j := 0) rfl, _, rfl, p, _, 1, _, rfl, rfl, hp'.1, atI_nat (j := 1) rfl, n, d, rfl, rfl, ?_⟩
      rw [hg]
      exact q _ sm
end
end SS
namespace SS
open PySem PySem.Spec PyProof.Rows L2
section
variable {P : Program} {w : World} {K : PySem.W.Frag} {mg : Str → Option Value} {base : Heap}
/-! ### plus, minus, times, over, is_less -/
/-- two fractions of few bits come in -/
def Two (K : PySem.W.Frag) (H : Hp) (vs : List V) (n1 d1 n2 d2 : Int) : Prop := ∃ p q : Addr, vs = [.ref p, .ref q] ∧ FrT K H p n1 d1 ∧ FrT K H q n2 d2 ∧
  0 < d1 ∧ 0 < d2 ∧ n1.natAbs < 2 ^ 3000 ∧ d1.natAbs < 2 ^ 3000 ∧ n2.natAbs < 2 ^ 3000 ∧ d2.natAbs < 2 ^ 3000 ∧ Int.gcd n1 d1 = 1 ∧ Int.gcd n2 d2 = 1
def spPlus (K : PySem.W.Frag) : Sp := fun vs H Q _ => ∃ n1 d1 n2 d2 : Int, Two K H vs n1 d1 n2 d2 ∧ ∀ r, H r = none → Q (.ref r) (upd H r (.tup [.int (fr1 (n1 * d2 + n2 * d1) (d1 * d2)), .int (fr2 (n1 * d2 + n2 * d1) (d1 * d2))]))
theorem scPlus : FnScope ["a", "b", "shared", "top", "divisor"] ["a", "b"] (defScope sPlus) := ⟨rfl, rfl, rfl, by decide +kernel, rfl, by decide +kernel, by decide +kernel⟩
theorem ok_plus {f C : Addr} {fd : FuncData} (F : Fun K "plus" "plus" sPlus f fd) (fo : Cl P w K mg base (L2.CX P w) 2 "fraction_of" (spFo C) []) (cd : Cl P w K mg base CX0 1 "common_divisor" spGcd []) (ar : Cl P w K mg base CX0 1 "are_short" (spAre K) []) : FnOk P w K mg base CX0 3 f fd ["a", "b"] (spPlus K) := by
  refine F.ok scPlus (fun vs H Q E h => ?_) (fun cdv A outer s H vs Q E hr h => ?_)
  · obtain ⟨_, _, _, _, ⟨p, q, rfl, _⟩, _⟩ := h
    rfl
  · obtain ⟨n1, d1, n2, d2, ⟨p, q, rfl, h1, h2, z1, z2, b1, b2, b3, b4, g1, g2⟩, k⟩ := h
    refine ⟨_, (pss_cons (ps_if (pt_val (pc0 ar hr (by decide) (pa_cons (pv 0) (pa_cons (pv 1) pa_nil))))
        (pss_one (ps_ret (pcX fo hr (by decide) (pa_cons (pe_op op_add (pe_op op_mulW (pe_ix ix_tup (pv 0) pe_int (fun _ _ => rfl)) (pe_ix ix_tup (pv 1) pe_int (fun _ _ => rfl))) (pe_op op_mulW (pe_ix ix_tup (pv 1) pe_int (fun _ _ => rfl)) (pe_ix ix_tup (pv 0) pe_int (fun _ _ => rfl)))) (pa_cons (pe_op op_mulW (pe_ix ix_tup (pv 0) pe_int (fun _ _ => rfl)) (pe_ix ix_tup (pv 1) pe_int (fun _ _ => rfl))) pa_nil))))) pss_nil)
      (pss_cons (ps_set (i := 2) scPlus.nd rfl (.inl rfl) (pc0 cd hr (by decide) (pa_cons (pe_ix ix_tup (pv 0) pe_int (fun _ _ => rfl)) (pa_cons (pe_ix ix_tup (pv 1) pe_int (fun _ _ => rfl)) pa_nil))))
      (pss_cons (ps_set (i := 3) scPlus.nd rfl (.inl rfl) (pe_op op_add (pe_op op_mulW (pe_ix ix_tup (pv 0) pe_int (fun _ _ => rfl)) (pe_op op_fdivG (pe_ix ix_tup (pv 1) pe_int (fun _ _ => rfl)) (pv 2))) (pe_op op_mulW (pe_ix ix_tup (pv 1) pe_int (fun _ _ => rfl)) (pe_op op_fdivG (pe_ix ix_tup (pv 0) pe_int (fun _ _ => rfl)) (pv 2)))))
      (pss_cons (ps_set (i := 4) scPlus.nd rfl (.inl rfl) (pc0 cd hr (by decide) (pa_cons (pv 3) (pa_cons (pv 2) pa_nil))))
      (pss_one (ps_ret (pe_tup (pa_cons (pe_op op_fdivG (pv 3) (pv 4)) (pa_cons (pe_op op_mulW (pe_op op_fdivG (pe_ix ix_tup (pv 0) pe_int (fun _ _ => rfl)) (pv 2)) (pe_op op_fdivG (pe_ix ix_tup (pv 1) pe_int (fun _ _ => rfl)) (pv 4))) pa_nil))))))))), ?_⟩
    refine ⟨_, rfl, _, rfl, p, q, n1, d1, n2, d2, rfl, h1.1, h2.1, _, rfl, ite2 (fun _ => ?_) (fun _ => ?_)⟩
    · refine ⟨_, rfl, p, _, 0, _, rfl, rfl, h1.1, atI_nat (j := 0) rfl, _, rfl, q, _, 1, _, rfl, rfl, h2.1, atI_nat (j := 1) rfl, n1, d2, rfl, rfl, wide_mul b1 b4 (by decide) (by decide) (by decide), ?_⟩
      refine ⟨_, rfl, q, _, 0, _, rfl, rfl, h2.1, atI_nat (j := 0) rfl, _, rfl, p, _, 1, _, rfl, rfl, h1.1, atI_nat (j := 1) rfl, n2, d1, rfl, rfl, wide_mul b3 b2 (by decide) (by decide) (by decide), _, _, rfl, rfl, ?_⟩
      refine ⟨_, rfl, p, _, 1, _, rfl, rfl, h1.1, atI_nat (j := 1) rfl, _, rfl, q, _, 1, _, rfl, rfl, h2.1, atI_nat (j := 1) rfl, d1, d2, rfl, rfl, wide_mul b2 b4 (by decide) (by decide) (by decide), ?_⟩
      exact ⟨n1 * d2 + n2 * d1, d1 * d2, rfl, fun e => absurd e (pos_ne z1 z2), fun _ => ⟨sm_mono (sm_mul b2 b4) (by decide), k⟩⟩
    · have d20 : d2 ≠ 0 := Int.ne_of_gt z2
      have s0 : plD d1 d2 ≠ 0 := gcd_ne d20
      have sl : (plD d1 d2).natAbs < 2 ^ 3000 := gcd_ltK d20 b4
      have G0 : plG n1 d1 n2 d2 ≠ 0 := gcd_ne s0
      have Gl : (plG n1 d1 n2 d2).natAbs < 2 ^ 3000 := gcd_ltK s0 sl
      have sd1 : plD d1 d2 ∣ d1 := Int.gcd_dvd_left d1 d2
      have sd2 : plD d1 d2 ∣ d2 := Int.gcd_dvd_right d1 d2
      have Gd2 : plG n1 d1 n2 d2 ∣ d2 := Int.dvd_trans (Int.gcd_dvd_right (plT n1 d1 n2 d2) (plD d1 d2)) sd2
      refine ⟨_, rfl, p, _, 1, _, rfl, rfl, h1.1, atI_nat (j := 1) rfl, _, rfl, q, _, 1, _, rfl, rfl, h2.1, atI_nat (j := 1) rfl, d1, d2, rfl, ?_⟩
      refine ⟨_, rfl, p, _, 0, _, rfl, rfl, h1.1, atI_nat (j := 0) rfl, _, rfl, q, _, 1, _, rfl, rfl, h2.1, atI_nat (j := 1) rfl, _, rfl, d2, plD d1 d2, rfl, rfl, cdiv_ok s0 sl d2, n1, d2.fdiv (plD d1 d2), rfl, rfl, wide_mul b1 (dv_lt sd2 s0 b4) (by decide) (by decide) (by decide), ?_⟩
      refine ⟨_, rfl, q, _, 0, _, rfl, rfl, h2.1, atI_nat (j := 0) rfl, _, rfl, p, _, 1, _, rfl, rfl, h1.1, atI_nat (j := 1) rfl, _, rfl, d1, plD d1 d2, rfl, rfl, cdiv_ok s0 sl d1, n2, d1.fdiv (plD d1 d2), rfl, rfl, wide_mul b3 (dv_lt sd1 s0 b2) (by decide) (by decide) (by decide), _, _, rfl, rfl, ?_⟩
      refine ⟨_, rfl, _, rfl, plT n1 d1 n2 d2, plD d1 d2, rfl, ?_⟩
      refine ⟨_, rfl, _, rfl, plT n1 d1 n2 d2, plG n1 d1 n2 d2, rfl, rfl, cdiv_ok G0 Gl _, ?_⟩
      refine ⟨_, rfl, p, _, 1, _, rfl, rfl, h1.1, atI_nat (j := 1) rfl, _, rfl, d1, plD d1 d2, rfl, rfl, cdiv_ok s0 sl d1, _, rfl, q, _, 1, _, rfl, rfl, h2.1, atI_nat (j := 1) rfl, _, rfl, d2, plG n1 d1 n2 d2, rfl, rfl, cdiv_ok G0 Gl d2, d1.fdiv (plD d1 d2), d2.fdiv (plG n1 d1 n2 d2), rfl, rfl, wide_mul (dv_lt sd1 s0 b2) (dv_lt Gd2 G0 b4) (by decide) (by decide) (by decide), small2, ?_⟩
      have e := plus_long z1 z2 g1 g2
      rw [← e.1, ← e.2] at k
      exact k
def spTimes (K : PySem.W.Frag) : Sp := fun vs H Q _ => ∃ n1 d1 n2 d2 : Int, Two K H vs n1 d1 n2 d2 ∧ ∀ r, H r = none → Q (.ref r) (upd H r (.tup [.int (fr1 (n1 * n2) (d1 * d2)), .int (fr2 (n1 * n2) (d1 * d2))]))
end
end SS

namespace SS
open PySem PySem.Spec PyProof.Rows L2
section
variable {P : Program} {w : World} {K : PySem.W.Frag} {mg : Str → Option Value} {base : Heap}
theorem scTimes : FnScope ["a", "b", "one", "other"] ["a", "b"] (defScope sTimes) := ⟨rfl, rfl, rfl, by decide +kernel, rfl, by decide +kernel, by decide +kernel⟩
theorem ok_times {f C : Addr} {fd : FuncData} (F : Fun K "times" "times" sTimes f fd) (fo : Cl P w K mg base (L2.CX P w) 2 "fraction_of" (spFo C) []) (cd : Cl P w K mg base CX0 1 "common_divisor" spGcd []) (ar : Cl P w K mg base CX0 1 "are_short" (spAre K) []) : FnOk P w K mg base CX0 3 f fd ["a", "b"] (spTimes K) := by
  refine F.ok scTimes (fun vs H Q E h => ?_) (fun cdv A outer s H vs Q E hr h => ?_)
  · obtain ⟨_, _, _, _, ⟨p, q, rfl, _⟩, _⟩ := h
    rfl
  · obtain ⟨n1, d1, n2, d2, ⟨p, q, rfl, h1, h2, z1, z2, b1, b2, b3, b4, g1, g2⟩, k⟩ := h
    refine ⟨_, (pss_cons (ps_if (pt_val (pc0 ar hr (by decide) (pa_cons (pv 0) (pa_cons (pv 1) pa_nil))))
        (pss_one (ps_ret (pcX fo hr (by decide) (pa_cons (pe_op op_mulW (pe_ix ix_tup (pv 0) pe_int (fun _ _ => rfl)) (pe_ix ix_tup (pv 1) pe_int (fun _ _ => rfl))) (pa_cons (pe_op op_mulW (pe_ix ix_tup (pv 0) pe_int (fun _ _ => rfl)) (pe_ix ix_tup (pv 1) pe_int (fun _ _ => rfl))) pa_nil))))) pss_nil)
      (pss_cons (ps_par (i := 2) (j := 3) rfl scTimes.nd rfl rfl (by decide) rfl rfl (pa_cons (pc0 cd hr (by decide) (pa_cons (pe_ix ix_tup (pv 0) pe_int (fun _ _ => rfl)) (pa_cons (pe_ix ix_tup (pv 1) pe_int (fun _ _ => rfl)) pa_nil))) (pa_cons (pc0 cd hr (by decide) (pa_cons (pe_ix ix_tup (pv 1) pe_int (fun _ _ => rfl)) (pa_cons (pe_ix ix_tup (pv 0) pe_int (fun _ _ => rfl)) pa_nil))) pa_nil)) rfl)
      (pss_one (ps_ret (pe_tup (pa_cons (pe_op op_mulW (pe_op op_fdivG (pe_ix ix_tup (pv 0) pe_int (fun _ _ => rfl)) (pv 2)) (pe_op op_fdivG (pe_ix ix_tup (pv 1) pe_int (fun _ _ => rfl)) (pv 3))) (pa_cons (pe_op op_mulW (pe_op op_fdivG (pe_ix ix_tup (pv 0) pe_int (fun _ _ => rfl)) (pv 3)) (pe_op op_fdivG (pe_ix ix_tup (pv 1) pe_int (fun _ _ => rfl)) (pv 2))) pa_nil))))))), ?_⟩
    refine ⟨_, rfl, _, rfl, p, q, n1, d1, n2, d2, rfl, h1.1, h2.1, _, rfl, ite2 (fun _ => ?_) (fun _ => ?_)⟩
    · refine ⟨_, rfl, p, _, 0, _, rfl, rfl, h1.1, atI_nat (j := 0) rfl, _, rfl, q, _, 0, _, rfl, rfl, h2.1, atI_nat (j := 0) rfl, n1, n2, rfl, rfl, wide_mul b1 b3 (by decide) (by decide) (by decide), ?_⟩
      refine ⟨_, rfl, p, _, 1, _, rfl, rfl, h1.1, atI_nat (j := 1) rfl, _, rfl, q, _, 1, _, rfl, rfl, h2.1, atI_nat (j := 1) rfl, d1, d2, rfl, rfl, wide_mul b2 b4 (by decide) (by decide) (by decide), ?_⟩
      exact ⟨n1 * n2, d1 * d2, rfl, fun e => absurd e (pos_ne z1 z2), fun _ => ⟨sm_mono (sm_mul b2 b4) (by decide), k⟩⟩
    · have d10 : d1 ≠ 0 := Int.ne_of_gt z1
      have d20 : d2 ≠ 0 := Int.ne_of_gt z2
      have a0 := gcd_ne (a := n1) d20
      have al := gcd_ltK (a := n1) d20 b4
      have c0 := gcd_ne (a := n2) d10
      have cl := gcd_ltK (a := n2) d10 b2
      have e := times_long z1 z2 g1 g2
      have m1 := dv_lt (Int.gcd_dvd_left n1 d2) a0 b1
      have m2 := dv_lt (Int.gcd_dvd_right n1 d2) a0 b4
      have m3 := dv_lt (Int.gcd_dvd_left n2 d1) c0 b3
      have m4 := dv_lt (Int.gcd_dvd_right n2 d1) c0 b2
      refine ⟨_, rfl, p, _, 0, _, rfl, rfl, h1.1, atI_nat (j := 0) rfl, _, rfl, q, _, 1, _, rfl, rfl, h2.1, atI_nat (j := 1) rfl, n1, d2, rfl, _, rfl, q, _, 0, _, rfl, rfl, h2.1, atI_nat (j := 0) rfl, _, rfl, p, _, 1, _, rfl, rfl, h1.1, atI_nat (j := 1) rfl, n2, d1, rfl, _, _, rfl, ?_⟩
      generalize ((Int.gcd n1 d2 : Nat) : Int) = a at *
      generalize ((Int.gcd n2 d1 : Nat) : Int) = c at *
      refine ⟨_, rfl, p, _, 0, _, rfl, rfl, h1.1, atI_nat (j := 0) rfl, _, rfl, n1, a, rfl, rfl, cdiv_ok a0 al n1, _, rfl, q, _, 0, _, rfl, rfl, h2.1, atI_nat (j := 0) rfl, _, rfl, n2, c, rfl, rfl, cdiv_ok c0 cl n2, n1.fdiv a, n2.fdiv c, rfl, rfl, wide_mul m1 m3 (by decide) (by decide) (by decide), ?_⟩
      refine ⟨_, rfl, p, _, 1, _, rfl, rfl, h1.1, atI_nat (j := 1) rfl, _, rfl, d1, c, rfl, rfl, cdiv_ok c0 cl d1, _, rfl, q, _, 1, _, rfl, rfl, h2.1, atI_nat (j := 1) rfl, _, rfl, d2, a, rfl, rfl, cdiv_ok a0 al d2, d1.fdiv c, d2.fdiv a, rfl, rfl, wide_mul m4 m2 (by decide) (by decide) (by decide), small2, ?_⟩
      rw [← e.1, ← e.2] at k
      exact k
end
end SS

namespace SS
open PySem PySem.Spec PyProof.Rows L2
section
variable {P : Program} {w : World} {K : PySem.W.Frag} {mg : Str → Option Value} {base : Heap}
theorem scLPlus : FnScope ["_law_a", "_law_b"] ["_law_a", "_law_b"] (defScope sLPlus) := ⟨rfl, rfl, rfl, by decide +kernel, rfl, by decide +kernel, by decide +kernel⟩
theorem ok_lplus {f : Addr} {fd : FuncData} (F : Fun K "_law_plus" "_law_plus" sLPlus f fd) (fo : Cl P w K mg base CX0 2 "_law_frac" spFrac []) : FnOk P w K mg base CX0 3 f fd ["_law_a", "_law_b"] (spPlus K) := by
  refine F.ok scLPlus (fun vs H Q E h => ?_) (fun cdv A outer s H vs Q E hr h => ?_)
  · obtain ⟨_, _, _, _, ⟨p, q, rfl, _⟩, _⟩ := h
    rfl
  · obtain ⟨n1, d1, n2, d2, ⟨p, q, rfl, h1, h2, z1, z2, b1, b2, b3, b4, _, _⟩, k⟩ := h
    refine ⟨_, pss_one (ps_ret (pc0 fo hr (by decide) (pa_cons (pe_op op_add (pe_op op_mulW (pe_ix ix_tup (pv 0) pe_int (fun _ _ => rfl)) (pe_ix ix_tup (pv 1) pe_int (fun _ _ => rfl)))
      (pe_op op_mulW (pe_ix ix_tup (pv 1) pe_int (fun _ _ => rfl)) (pe_ix ix_tup (pv 0) pe_int (fun _ _ => rfl))))
      (pa_cons (pe_op op_mulW (pe_ix ix_tup (pv 0) pe_int (fun _ _ => rfl)) (pe_ix ix_tup (pv 1) pe_int (fun _ _ => rfl))) pa_nil)))), ?_⟩
    refine ⟨_, rfl, p, _, 0, _, rfl, rfl, h1.1, atI_nat (j := 0) rfl, _, rfl, q, _, 1, _, rfl, rfl, h2.1, atI_nat (j := 1) rfl, n1, d2, rfl, rfl, wide_mul b1 b4 (by decide) (by decide) (by decide), ?_⟩
    refine ⟨_, rfl, q, _, 0, _, rfl, rfl, h2.1, atI_nat (j := 0) rfl, _, rfl, p, _, 1, _, rfl, rfl, h1.1, atI_nat (j := 1) rfl, n2, d1, rfl, rfl, wide_mul b3 b2 (by decide) (by decide) (by decide), _, _, rfl, rfl, ?_⟩
    refine ⟨_, rfl, p, _, 1, _, rfl, rfl, h1.1, atI_nat (j := 1) rfl, _, rfl, q, _, 1, _, rfl, rfl, h2.1, atI_nat (j := 1) rfl, d1, d2, rfl, rfl, wide_mul b2 b4 (by decide) (by decide) (by decide), ?_⟩
    exact ⟨n1 * d2 + n2 * d1, d1 * d2, rfl, pos_ne z1 z2, sm_mono (sm_mul b2 b4) (by decide), k⟩
theorem scLTimes : FnScope ["_law_a", "_law_b"] ["_law_a", "_law_b"] (defScope sLTimes) := ⟨rfl, rfl, rfl, by decide +kernel, rfl, by decide +kernel, by decide +kernel⟩
theorem ok_ltimes {f : Addr} {fd : FuncData} (F : Fun K "_law_times" "_law_times" sLTimes f fd) (fo : Cl P w K mg base CX0 2 "_law_frac" spFrac []) : FnOk P w K mg base CX0 3 f fd ["_law_a", "_law_b"] (spTimes K) := by
  refine F.ok scLTimes (fun vs H Q E h => ?_) (fun cdv A outer s H vs Q E hr h => ?_)
  · obtain ⟨_, _, _, _, ⟨p, q, rfl, _⟩, _⟩ := h
    rfl
  · obtain ⟨n1, d1, n2, d2, ⟨p, q, rfl, h1, h2, z1, z2, b1, b2, b3, b4, _, _⟩, k⟩ := h
    refine ⟨_, pss_one (ps_ret (pc0 fo hr (by decide) (pa_cons (pe_op op_mulW (pe_ix ix_tup (pv 0) pe_int (fun _ _ => rfl)) (pe_ix ix_tup (pv 1) pe_int (fun _ _ => rfl)))
      (pa_cons (pe_op op_mulW (pe_ix ix_tup (pv 0) pe_int (fun _ _ => rfl)) (pe_ix ix_tup (pv 1) pe_int (fun _ _ => rfl))) pa_nil)))), ?_⟩
    refine ⟨_, rfl, p, _, 0, _, rfl, rfl, h1.1, atI_nat (j := 0) rfl, _, rfl, q, _, 0, _, rfl, rfl, h2.1, atI_nat (j := 0) rfl, n1, n2, rfl, rfl, wide_mul b1 b3 (by decide) (by decide) (by decide), ?_⟩
    refine ⟨_, rfl, p, _, 1, _, rfl, rfl, h1.1, atI_nat (j := 1) rfl, _, rfl, q, _, 1, _, rfl, rfl, h2.1, atI_nat (j := 1) rfl, d1, d2, rfl, rfl, wide_mul b2 b4 (by decide) (by decide) (by decide), ?_⟩
    exact ⟨n1 * n2, d1 * d2, rfl, pos_ne z1 z2, sm_mono (sm_mul b2 b4) (by decide), k⟩
end
end SS

namespace SS
open PySem PySem.Spec PyProof.Rows L2
/-! ### names: texts of one to six small letters -/
def NmOk (x : Str) : Prop := 0 < x.cps.toList.length ∧ x.cps.toList.length < 7 ∧ ∀ c ∈ x.cps.toList, 97 ≤ c ∧ c ≤ 122
instance (x : Str) : Decidable (NmOk x) := inferInstanceAs (Decidable (_ ∧ _ ∧ _))
abbrev abc : Str := "abcdefghijklmnopqrstuvwxyz"
abbrev ownL : List Str := ["is", "most", "least", "below", "above", "tell", "enter", "none", "first", "point", "mark", "x"]
theorem own_ok : ∀ x ∈ ownL, NmOk x := by decide +kernel
theorem abc_len : abc.length = 26 := by decide +kernel
theorem abc_at : ∀ i : Nat, i < 26 → abc.cps[i]? = some (97 + i) := by decide +kernel
theorem join_ones : ∀ cs : List Nat, (Txt.join "" (cs.map fun c => (⟨#[c]⟩ : Str))).cps.toList = cs := fun cs => by
  have e := eq_of_beq (PyProof.Rows.join_plain_closes "" (cs.map fun c => (⟨#[c]⟩ : Str)))
  rw [e]
  have e2 : ∀ l : List (List Nat), TL.joinL [] l = l.flatten := fun l => by
    induction l with
    | nil => rfl
    | cons p r ih =>
      cases r with
      | nil => simp [TL.joinL]
      | cons q r => simp only [TL.joinL, List.nil_append, ih, List.flatten_cons]
  have e3 := TL.tl_join "" (cs.map fun c => (⟨#[c]⟩ : Str))
  refine e3.trans ?_
  rw [show TL.tl "" = [] from rfl, e2, List.map_map]
  clear e e3 e2
  induction cs with
  | nil => rfl
  | cons c cs ih =>
    rw [List.map_cons, List.flatten_cons]
    show c :: _ = c :: cs
    exact congrArg _ ih
/-- x * n of a text, n from 1 to 3 -/
theorem op_mulS {X : Cx} : OpR X (binaryOp .Mult) (fun x y H Q => ∃ (z : Str) (n : Int), x = .str z ∧ y = .int n ∧ 1 ≤ n ∧ n ≤ 3 ∧ z.length ≤ 6 ∧ ∀ z' : Str, z'.cps.toList = (List.replicate n.toNat z.cps.toList).flatten → Q (.str z') H) := by
  intro pins s σ H x y v u Q I rx ry h
  obtain ⟨z, n, rfl, rfl, n1, n3, zl, q⟩ := h
  obtain ⟨t, rfl⟩ := rx
  obtain ⟨t', rfl⟩ := ry
  refine P.mul_str ?_ (fun _ _ => ?_) (fun _ _ => ?_) ?_
  · rw [decide_eq_false (by omega), decide_eq_false (by omega)]
    rfl
  · have : n = 1 ∨ n = 2 ∨ n = 3 := by omega
    rcases this with e | e | e <;> subst e <;> omega
  · have : n = 1 ∨ n = 2 ∨ n = 3 := by omega
    have zz : ∀ m : Nat, m ≤ 18 → Builtin.Str.tooLong m = false := fun m hm => by
      unfold Builtin.Str.tooLong
      exact decide_eq_false (by
        have : sizeLine = 16777216 := sizeLine_eq
        omega)
    rcases this with e | e | e <;> subst e <;> exact zz _ (by simp; omega)
  · rw [if_neg (by omega)]
    by_cases c : (n == 1 || z.length == 0) = true
    · rw [if_pos c]
      refine ⟨.str z, H, I, ⟨t, rfl⟩, q z ?_⟩
      rw [Bool.or_eq_true, beq_iff_eq, beq_iff_eq] at c
      rcases c with c | c
      · subst c
        simp
      · have : z.cps.toList = [] := by
          apply List.eq_nil_of_length_eq_zero
          rw [Array.length_toList]
          exact c
        rw [this]
        simp
    · rw [if_neg c]
      have : n = 1 ∨ n = 2 ∨ n = 3 := by omega
      have sl : sizeLine = 16777216 := sizeLine_eq
      have zl' : z.cps.size ≤ 6 := zl
      refine ⟨?_, ⟨.str _, H, I.tok _, ⟨_, rfl⟩, q _ ?_⟩⟩
      · show Array.size _ ≤ sizeLine
        rw [sl]
        rcases this with e | e | e <;> subst e <;> simp [List.replicate] <;> omega
      · rcases this with e | e | e <;> subst e <;> simp [List.replicate]
end SS

namespace SS
open PySem PySem.Spec PyProof.Rows L2
theorem lt8 {n : Int} (h : n.natAbs < 2 ^ 100) : n.natAbs < 2 ^ 8000 := sm_mono h (by decide)
theorem cut1S {z : Str} (h : 0 < z.cps.toList.length) : (cutS z none (some 1)).cps.toList = z.cps.toList.take 1 := by
  unfold cutS
  have hl : z.length = z.cps.toList.length := by
    rw [Array.length_toList]
    rfl
  rw [HT.sIx_none, show HT.sIx z.length z.length (some 1) = min 1 z.length from HT.sIx_nat z.length z.length 1, hl, Nat.min_eq_left h]
  rfl
theorem NmOk.cut {z : Str} (h : NmOk z) : NmOk (cutS z none (some 1)) := by
  obtain ⟨h1, h2, h3⟩ := h
  unfold NmOk
  rw [cut1S h1, List.length_take]
  exact ⟨by omega, by omega, fun c hc => h3 c (List.mem_of_mem_take hc)⟩
theorem NmOk.len {z : Str} (h : NmOk z) : z.length ≤ sizeLine := by
  have e : z.length = z.cps.toList.length := by
    rw [Array.length_toList]
    rfl
  have sl : sizeLine = 16777216 := sizeLine_eq
  have := h.2.1
  omega
theorem at_str {xs : List Str} {d : Int} (h0 : 0 ≤ d) (h : d < xs.length) : ∃ x, x ∈ xs ∧ atI (xs.map V.str) d = some (.str x) := by
  have hn : d.toNat < xs.length := by omega
  refine ⟨xs[d.toNat], List.getElem_mem hn, at_of (j := d.toNat) (by omega) ?_⟩
  rw [List.getElem?_map, List.getElem?_eq_getElem hn]
  rfl
section
variable {P : Program} {w : World} {K : PySem.W.Frag} {mg : Str → Option Value} {base : Heap}
def spSname : Sp := fun vs H Q _ => ∃ st c : Addr, vs = [.ref st] ∧ StA st c H ∧ ∀ H' x, But st H H' → StA st c H' → NmOk x → Q (.str x) H'
theorem scSname : FnScope ["_law_state", "_law_letters", "_law_own", "_law_way", "_law_word", "_law_k"] ["_law_state"] (defScope sSname) := ⟨rfl, rfl, rfl, by decide +kernel, rfl, by decide +kernel, by decide +kernel⟩
theorem ok_sname {f : Addr} {fd : FuncData} (F : Fun K "_law_some_name" "_law_some_name" sSname f fd) (mr : mg "range" = none) (tk : Cl P w K mg base CX0 3 "_law_take" spTake []) : FnOk P w K mg base CX0 4 f fd ["_law_state"] spSname := by
  refine F.ok scSname (fun vs H Q E h => ?_) (fun cdv A outer s H vs Q E hr h => ?_)
  · obtain ⟨_, _, rfl, _⟩ := h
    rfl
  · obtain ⟨st, c, rfl, sa, q⟩ := h
    refine ⟨_, pss_cons (ps_set (i := 1) scSname.nd rfl (.inr rfl) pe_str)
      (pss_cons (ps_set (i := 2) scSname.nd rfl (.inl rfl) (pe_tup (pa_cons pe_str (pa_cons pe_str (pa_cons pe_str (pa_cons pe_str (pa_cons pe_str (pa_cons pe_str (pa_cons pe_str (pa_cons pe_str (pa_cons pe_str (pa_cons pe_str (pa_cons pe_str (pa_cons pe_str pa_nil))))))))))))))
      (pss_cons (ps_set (i := 3) scSname.nd rfl (.inl rfl) (pc0 tk hr (by decide) (pa_cons (pv 0) (pa_cons pe_int pa_nil))))
      (pss_cons (ps_set (i := 4) scSname.nd rfl (.inl rfl) (pe_join pe_str
        (pe_lc (own := [("_law_k", 5)]) (g := gName 5) (tt := tYes) rfl scSname.nd (pi_range1 rfl mr (pa_cons (pe_op op_add pe_int (pc0 tk hr (by decide) (pa_cons (pv 0) (pa_cons pe_int pa_nil)))) pa_nil)) (blkOk_by (by rfl))
          (fun _ _ _ _ _ => pg_name (i := 5) scSname.nd rfl (Or.inl rfl)) (fun _ _ _ _ _ => pts_nil)
          (fun _ _ _ _ _ => pe_item_str (pv 1) (pc0 tk hr (by decide) (pa_cons (pv 0) (pa_cons pe_int pa_nil))) (fun _ _ => rfl)))))
      (pss_one (ps_ret (pe_ix ix_tup (pe_tup (pa_cons (pv 4) (pa_cons (pe_ix ix_tup (pv 2) (pc0 tk hr (by decide) (pa_cons (pv 0) (pa_cons pe_int pa_nil))) (fun _ _ => rfl)) (pa_cons (pe_slice sl_str (pv 4) po_none (po_some pe_int)) (pa_cons (pv 4) pa_nil))))) (pv 3) (fun _ _ => rfl))))))), ?_⟩
    refine ⟨by show 12 ≤ sizeLine; decide, fun U nU => ?_⟩
    have sU := same_new (o := .tup (ownL.map V.str)) nU
    refine ⟨_, rfl, st, c, 4, rfl, by decide, lt8 (by decide), sa.same sU, fun H1 wy b1 s1 l1 u1 => ?_⟩
    have hU1 : H1 U = some (.tup (ownL.map V.str)) := b1.tup (sa.same sU) upd_same
    refine ⟨⟨_, rfl⟩, _, rfl, st, c, 6, rfl, by decide, lt8 (by decide), s1, fun H2 d2 b2 s2 l2 u2 => ⟨1, d2, rfl, rfl, 1 + d2, rfl, by omega, by omega, fun D nD => ?_⟩⟩
    have hU2 : H2 U = some (.tup (ownL.map V.str)) := b2.tup s1 hU1
    have Ds := s2.fresh nD
    have Dc := s2.fresh2 nD
    refine lc_range (lo := 0) (n := (1 + d2).toNat) (fun i H' => ∃ cs : List Nat, H' D = some (.lst ((cs.map fun c => (⟨#[c]⟩ : Str)).map V.str)) ∧ cs.length = i ∧ (∀ c ∈ cs, 97 ≤ c ∧ c ≤ 122) ∧ StA st c H' ∧ ∀ b o, b ≠ st → b ≠ D → H2 b = some o → H' b = some o)
      ⟨[], upd_same, rfl, fun c hc => absurd hc List.not_mem_nil, s2.other Ds Dc, fun b o _ nb e => by rw [upd_ne nb]; exact e⟩ ?_ ?_
    · rintro i H3 hi ⟨cs, k1, k2, k3, k4, k5⟩
      refine ⟨rfl, _, rfl, _, rfl, st, c, 26, rfl, by decide, lt8 (by decide), k4, fun H4 d4 b4 s4 l4 u4 => ?_⟩
      have hD4 := b4 _ _ Ds k1
      refine ⟨abc, d4, 97 + d4.toNat, rfl, rfl, l4, by omega, by rw [abc_len]; omega, abc_at _ (by omega), _, hD4, ?_, cs ++ [97 + d4.toNat], ?_, ?_, ?_, s4.other Ds Dc, ?_⟩
      · rw [List.length_map, List.length_map, k2]
        exact small1000 (by omega)
      · rw [upd_same, List.map_append, List.map_append]
        rfl
      · rw [List.length_append, k2]
        rfl
      · intro x hx
        rcases List.mem_append.mp hx with z | z
        · exact k3 x z
        · rw [List.mem_singleton.mp z]
          omega
      · intro b o n1 n2 e
        rw [upd_ne n2]
        exact b4 b o n1 (k5 b o n1 n2 e)
    · rintro H3 ⟨cs, k1, k2, k3, k4, k5⟩
      refine ⟨_, D, cs.map fun c => (⟨#[c]⟩ : Str), rfl, rfl, .inl (SqL.of k1), ?_, ?_⟩
      · have e1 : ((cs.map fun c => (⟨#[c]⟩ : Str)).map (·.length)).sum = cs.length := by
          rw [List.map_map]
          clear k1 k2 k3
          induction cs with
          | nil => rfl
          | cons a r ih =>
            rw [List.map_cons, List.sum_cons, ih, List.length_cons]
            show 1 + r.length = r.length + 1
            omega
        rw [e1, List.length_map, k2]
        show (1 + d2).toNat + (1 + d2).toNat * 0 ≤ 16777216
        omega
      have hw : NmOk (Txt.join "" (cs.map fun c => (⟨#[c]⟩ : Str))) := by
        unfold NmOk
        rw [join_ones, k2]
        exact ⟨by omega, by omega, k3⟩
      generalize Txt.join "" (cs.map fun c => (⟨#[c]⟩ : Str)) = word at hw
      have hU3 := k5 U _ (s1.tup hU1 ) (fun e => by
        rw [e, nD] at hU2
        cases hU2) hU2
      refine ⟨_, rfl, _, rfl, _, rfl, st, c, 12, rfl, by decide, lt8 (by decide), k4, fun H5 d5 b5 s5 l5 u5 => ?_⟩
      obtain ⟨ow, ho1, ho2⟩ := at_str (xs := ownL) l5 u5
      refine ⟨U, _, d5, _, rfl, rfl, SqT.of (b5.tup k4 hU3), ho2, _, rfl, 1, rfl, word, rfl, hw.len, _, rfl, by show 4 ≤ sizeLine; decide, fun T nT => ?_⟩
      have sT := same_new (o := .tup [.str word, .str ow, .str (cutS word none (some 1)), .str word]) nT
      obtain ⟨x, hx1, hx2⟩ : ∃ x, NmOk x ∧ atI [V.str word, V.str ow, V.str (cutS word none (some 1)), V.str word] wy = some (.str x) := by
        rcases (show wy = 0 ∨ wy = 1 ∨ wy = 2 ∨ wy = 3 by omega) with e | e | e | e <;> subst e
        · exact ⟨_, hw, rfl⟩
        · exact ⟨_, own_ok _ ho1, rfl⟩
        · exact ⟨_, hw.cut, rfl⟩
        · exact ⟨_, hw, rfl⟩
      refine ⟨_, rfl, T, _, wy, _, rfl, rfl, SqT.of upd_same, hx2, q _ x ?_ (s5.same sT) hx1⟩
      intro b o nb e
      refine sT _ _ (b5 _ _ nb (k5 _ _ nb ?_ (b2 _ _ nb (b1 _ _ nb (sU _ _ e)))))
      intro z
      have e2 := b2 _ _ nb (b1 _ _ nb (sU _ _ e))
      rw [z, nD] at e2
      cases e2
end
end SS

namespace SS
open PySem PySem.Spec PyProof.Rows L2
section
variable {P : Program} {w : World} {K : PySem.W.Frag} {mg : Str → Option Value} {base : Heap}
def spNames : Sp := fun vs H Q _ => ∃ (st c : Addr) (many : Int), vs = [.ref st, .int many] ∧ 0 ≤ many ∧ many ≤ 10 ∧ StA st c H ∧
  ∀ H' l (xs : List Str), But st H H' → StA st c H' → H l = none → H' l = some (.lst (xs.map V.str)) → (xs.length : Int) = many → (∀ x ∈ xs, NmOk x) → Q (.ref l) H'
theorem scNames : FnScope ["_law_state", "_law_many", "_law_letters", "_law_names_here", "_law_k", "_law_name", "_law_turns"] ["_law_state", "_law_many"] (defScope sNames) := ⟨rfl, rfl, rfl, by decide +kernel, rfl, by decide +kernel, by decide +kernel⟩
theorem flat_strs (xs : List Str) : (xs.map V.str).all flatV = true := by
  rw [List.all_map]
  exact List.all_eq_true.mpr fun _ _ => rfl
theorem ok_names {f : Addr} {fd : FuncData} (F : Fun K "_law_names" "_law_names" sNames f fd) (mr : mg "range" = none) (sn : Cl P w K mg base CX0 4 "_law_some_name" spSname []) : FnOk P w K mg base CX0 5 f fd ["_law_state", "_law_many"] spNames := by
  refine F.ok scNames (fun vs H Q E h => ?_) (fun cdv A outer s H vs Q E hr h => ?_)
  · obtain ⟨_, _, _, rfl, _⟩ := h
    rfl
  · obtain ⟨st, c, many, rfl, m0, m1, sa, q⟩ := h
    refine ⟨_, pss_cons (ps_set (i := 2) scNames.nd rfl (.inl rfl) pe_str)
      (pss_cons (ps_set (i := 3) scNames.nd rfl (.inl rfl) (pe_lst pa_nil))
      (pss_cons (ps_for PassesOwn.never rfl (pi_range1 rfl mr (pa_cons (pv 1) pa_nil)) (pg_name (i := 4) scNames.nd rfl (.inl rfl))
        (pss_cons (ps_set (i := 5) scNames.nd rfl (.inl rfl) (pc0 sn hr (by decide) (pa_cons (pv 0) pa_nil)))
        (pss_cons (ps_set (i := 6) scNames.nd rfl (.inl rfl) pe_int)
        (pss_cons (ps_while PassesOwn.never (PW.pt (pw_and (pt_cmpR op_in_seq (pv 5) (pv 3) rfl) (pw_and1 (pt_cmpR op_lt (pv 6) pe_int (nomark _)))))
          (pss_cons (ps_set (i := 5) scNames.nd rfl (.inl rfl) (pe_op op_mulS (pe_item_str (pv 2) (pe_op op_mod (pe_op op_add (pe_op op_mul pe_int (pv 6)) (pv 4)) pe_int) (fun _ _ => rfl)) (pe_op op_add pe_int (pe_op op_fdiv (pv 6) pe_int))))
          (pss_one (ps_aug (i := 6) scNames.nd rfl (.inl rfl) pe_int ip_add))))
        (pss_one (ps_expr (pe_bm PySem.F.plainAttrs_list PySem.F.slot_list_append PySem.F.type_list_append mt_append (pv 3) (pa_cons (pv 5) pa_nil))))))))
      (pss_one (ps_ret (pv 3))))), ?_⟩
    refine ⟨Nat.zero_le _, fun l nl => ?_⟩
    have ls := sa.fresh nl
    have lc := sa.fresh2 nl
    refine ⟨_, rfl, many, rfl, by omega, by omega, for_range (n := many.toNat) (fun i σ H' => ∃ (y4 y5 y6 : Option V) (xs : List Str), σ = [some (.ref st), some (.int many), some (.str abc), some (.ref l), y4, y5, y6] ∧ But st H H' ∧ StA st c H' ∧ H' l = some (.lst (xs.map V.str)) ∧ xs.length = i ∧ ∀ x ∈ xs, NmOk x)
      ⟨none, none, none, [], rfl, Same.but (same_new nl), sa.same (same_new nl), upd_same, rfl, fun x hx => absurd hx List.not_mem_nil⟩ ?_ ?_⟩
    · rintro i σ H1 hi ⟨y4, y5, y6, xs, rfl, bt, s1, hl, hn, hx⟩
      refine ⟨_, rfl, st, c, rfl, s1, fun H2 x b2 s2 ok => ?_⟩
      have hl2 := b2 _ _ ls hl
      refine ⟨fun m σ H' => ∃ (nm : Str) (tn : Int), σ = [some (.ref st), some (.int many), some (.str abc), some (.ref l), some (.int (0 + (i : Nat))), some (.str nm), some (.int tn)] ∧ H' = H2 ∧ NmOk nm ∧ 0 ≤ tn ∧ m = (60 - tn).toNat,
        ⟨60, x, 0, rfl, rfl, ok, by decide, rfl⟩, fun m σ H3 hW => ?_⟩
      obtain ⟨nm, tn, rfl, rfl, okn, t0, rfl⟩ := hW
      refine ⟨_, rfl, _, rfl, l, _, rfl, .inl (SqL.of hl2), rfl, flat_strs xs, _, rfl, ite2 (fun e => ?n1) (fun e => iteF ?ex1)⟩
      case' n1 => refine ⟨_, rfl, tn, 60, rfl, rfl, _, rfl, ite2 (fun e2 => ?_) (fun e2 => ?ex2)⟩
      case ex1 | ex2 =>
        refine ⟨.ref l, rfl, .inl ⟨rfl, _, SqL.of hl2⟩, _, rfl, l, _, _, rfl, rfl, hl2, ?_, ?_⟩
        · rw [List.length_map, hn]
          exact small1000 (by omega)
        · refine ⟨_, _, _, xs ++ [nm], rfl, ?_, s2.other ls lc, ?_, ?_, ?_⟩
          · intro b o nb e
            rw [upd_ne fun z => ?_]
            · exact (bt.trans b2) b o nb e
            · rw [z, nl] at e
              cases e
          · rw [upd_same, List.map_append]
            rfl
          · rw [List.length_append, hn]
            rfl
          · intro y hy
            rcases List.mem_append.mp hy with z | z
            · exact hx y z
            · rw [List.mem_singleton.mp z]
              exact okn
      · have e' : tn < 60 := of_decide_eq_true e2
        refine ⟨fun σ' H' => ∃ (nm : Str) (tn' : Int), σ' = [some (.ref st), some (.int many), some (.str abc), some (.ref l), some (.int (0 + (i : Nat))), some (.str nm), some (.int tn')] ∧ H' = H3 ∧ NmOk nm ∧ 0 ≤ tn' ∧ tn' = tn + 1, fun σ' H' hN => ?_, ?_⟩
        · obtain ⟨a1, a2, r1, r2, r3, r4, r5⟩ := hN
          exact ⟨_, by omega, a1, a2, r1, r2, r3, r4, rfl⟩
        · have q1 : 0 ≤ (7 * tn + (0 + (i : Int))) % 26 := Int.emod_nonneg _ (by decide)
          have q2 : (7 * tn + (0 + (i : Int))) % 26 < 26 := Int.emod_lt_of_pos _ (by decide)
          refine ⟨_, rfl, _, rfl, 7, tn, rfl, rfl, .inl ⟨by decide, by decide⟩, _, rfl, 7 * tn, 0 + (i : Int), rfl, rfl, _, 26, rfl, rfl, (by show (0 : Int) < 26; decide), abc, (7 * tn + (0 + (i : Int))) % 26, _, rfl, rfl, q1, by omega, by rw [abc_len]; omega, abc_at _ (by omega), ?_⟩
          refine ⟨_, rfl, tn, 26, rfl, rfl, ⟨by decide, by decide⟩, 1, tn / 26, rfl, rfl, _, 1 + tn / 26, rfl, rfl, by omega, by omega, by show 1 ≤ 6; decide, fun z hz => ?_⟩
          refine ⟨_, rfl, _, _, rfl, rfl, z, tn + 1, rfl, rfl, ?_, by omega, rfl⟩
          unfold NmOk
          have ec : ((1 + tn / 26).toNat) = 1 ∨ ((1 + tn / 26).toNat) = 2 ∨ ((1 + tn / 26).toNat) = 3 := by omega
          rw [hz]
          rcases ec with e3 | e3 | e3 <;> rw [e3] <;> simp [List.replicate] <;> omega
    · rintro σ H1 ⟨y4, y5, y6, xs, rfl, bt, s1, hl, hn, hx⟩
      exact ⟨_, rfl, q H1 l xs bt s1 nl hl (by omega) hx⟩
end
end SS

namespace SS
open PySem PySem.Spec PyProof.Rows L2
/-- a fraction in lowest terms, of few bits -/
def Frg (k : Nat) (H : Hp) (p : Addr) : Prop := ∃ n d : Int, H p = some (.tup [.int n, .int d]) ∧ 0 < d ∧ n.natAbs < 2 ^ k ∧ d.natAbs < 2 ^ k ∧ Int.gcd n d = 1
theorem Frg.same {k : Nat} {p : Addr} {H H' : Hp} (s : Frg k H p) (x : Same H H') : Frg k H' p := by
  obtain ⟨n, d, h1, h2⟩ := s
  exact ⟨n, d, x _ _ h1, h2⟩
theorem Frg.but {k : Nat} {st c p : Addr} {H H' : Hp} (s : Frg k H p) (x : But st H H') (y : StA st c H) : Frg k H' p := by
  obtain ⟨n, d, h1, h2⟩ := s
  exact ⟨n, d, x.tup y h1, h2⟩
theorem Frg.mono {k j : Nat} {p : Addr} {H : Hp} (s : Frg k H p) (h : k ≤ j) : Frg j H p := by
  obtain ⟨n, d, h1, h2, h3, h4, h5⟩ := s
  exact ⟨n, d, h1, h2, sm_mono h3 h, sm_mono h4 h, h5⟩
/-- a dict changes: the tuples stand -/
theorem Frg.dict {k : Nat} {p a : Addr} {H : Hp} {kvs : List (Key × V)} {o : HO} (s : Frg k H p) (h : H a = some (.dK kvs)) : Frg k (upd H a o) p := by
  obtain ⟨n, d, h1, h2⟩ := s
  refine ⟨n, d, ?_, h2⟩
  rw [upd_ne fun e => ?_]
  · exact h1
  · rw [e, h] at h1
    cases h1
theorem frg_new {H : Hp} {r : Addr} {t b : Int} {k : Nat} (h : b ≠ 0) (ht : t.natAbs < 2 ^ k) (hb : b.natAbs < 2 ^ k) : Frg k (upd H r (.tup [.int (fr1 t b), .int (fr2 t b)])) r :=
  ⟨_, _, upd_same, fr2_pos h, Nat.lt_of_le_of_lt (fr1_le h) ht, Nat.lt_of_le_of_lt (fr2_le h) hb, fr_gcd h⟩
def fval (H : Hp) : V → Int × Int
  | .ref r => match H r with
    | some (.tup [.int n, .int d]) => (n, d)
    | _ => (0, 1)
  | _ => (0, 1)
theorem fval_at {H : Hp} {r : Addr} {n d : Int} (h : H r = some (.tup [.int n, .int d])) : fval H (.ref r) = (n, d) := by
  simp only [fval, h]
theorem Frg.val {k : Nat} {H : Hp} {r : Addr} (h : Frg k H r) : H r = some (.tup [.int (fval H (.ref r)).1, .int (fval H (.ref r)).2]) ∧ 0 < (fval H (.ref r)).2 ∧ (fval H (.ref r)).1.natAbs < 2 ^ k ∧ (fval H (.ref r)).2.natAbs < 2 ^ k ∧ Int.gcd (fval H (.ref r)).1 (fval H (.ref r)).2 = 1 := by
  obtain ⟨n, d, h1, h2⟩ := h
  rw [fval_at h1]
  exact ⟨h1, h2⟩
theorem Frg.fval {k : Nat} {H H' : Hp} {r : Addr} (h : Frg k H r) (e : ∀ xs, H r = some (.tup xs) → H' r = some (.tup xs)) : SS.fval H' (.ref r) = SS.fval H (.ref r) := by
  obtain ⟨n, d, h1, _⟩ := h
  rw [fval_at h1, fval_at (e _ h1)]
/-! ### dicts from names to fractions -/
def DF (k m : Nat) (H : Hp) (a : Addr) (kvs : List (Key × V)) : Prop := H a = some (.dK kvs) ∧ (kvs.map (·.1)).Nodup ∧ kvs.length ≤ m ∧ ∀ p ∈ kvs, ∃ x r, p.1 = .inr x ∧ NmOk x ∧ p.2 = .ref r ∧ Frg k H r
def NZ (H : Hp) (kvs : List (Key × V)) : Prop := ∀ p ∈ kvs, (fval H p.2).1 ≠ 0
theorem mem_putK {kvs : List (Key × V)} {k : Key} {v : V} {p : Key × V} (h : p ∈ putK kvs k v) : p ∈ kvs ∨ p = (k, v) := by
  unfold putK at h
  split at h
  · obtain ⟨q, hq, e⟩ := List.mem_map.mp h
    split at e
    · rename_i e1
      rw [e1] at e
      exact .inr e.symm
    · rw [← e]
      exact .inl hq
  · rcases List.mem_append.mp h with z | z
    · exact .inl z
    · exact .inr (List.mem_singleton.mp z)
theorem nd_put {kvs : List (Key × V)} (k : Key) (v : V) (h : (kvs.map (·.1)).Nodup) : ((putK kvs k v).map (·.1)).Nodup := by
  cases e : valV kvs k with
  | none => exact nd_putK v h e
  | some u =>
    unfold putK
    rw [valV_any, e]
    show ((kvs.map fun kv => if kv.1 = k then (kv.1, v) else kv).map (·.1)).Nodup
    rw [List.map_map]
    have q : ((fun x : Key × V => x.1) ∘ fun kv : Key × V => if kv.1 = k then (kv.1, v) else kv) = fun kv => kv.1 := by
      funext kv
      show (if kv.1 = k then (kv.1, v) else kv).1 = kv.1
      split <;> rfl
    rw [q]
    exact h
theorem DF.same {k m : Nat} {H H' : Hp} {a : Addr} {kvs : List (Key × V)} (h : DF k m H a kvs) (s : Same H H') : DF k m H' a kvs := by
  obtain ⟨h1, h2, h3, h4⟩ := h
  refine ⟨s _ _ h1, h2, h3, fun p hp => ?_⟩
  obtain ⟨x, r, e1, e2, e3, e4⟩ := h4 p hp
  exact ⟨x, r, e1, e2, e3, e4.same s⟩
theorem DF.ne {k m : Nat} {H : Hp} {st c a : Addr} {kvs : List (Key × V)} (h : DF k m H a kvs) (y : StA st c H) : a ≠ st := fun e => by
  obtain ⟨i, n, f, xs, h1, _⟩ := y
  have z := h.1
  rw [e, h1] at z
  cases z
theorem DF.but {k m : Nat} {H H' : Hp} {st c a : Addr} {kvs : List (Key × V)} (h : DF k m H a kvs) (s : But st H H') (y : StA st c H) : DF k m H' a kvs := by
  have na := h.ne y
  obtain ⟨h1, h2, h3, h4⟩ := h
  refine ⟨s _ _ na h1, h2, h3, fun p hp => ?_⟩
  obtain ⟨x, r, e1, e2, e3, e4⟩ := h4 p hp
  exact ⟨x, r, e1, e2, e3, e4.but s y⟩
theorem NZ.but {k m : Nat} {H H' : Hp} {st c a : Addr} {kvs : List (Key × V)} (z : NZ H kvs) (h : DF k m H a kvs) (s : But st H H') (y : StA st c H) : NZ H' kvs := fun p hp => by
  obtain ⟨x, r, e1, e2, e3, e4⟩ := h.2.2.2 p hp
  rw [e3, e4.fval fun xs e => s.tup y e, ← e3]
  exact z p hp
theorem NZ.same {k m : Nat} {H H' : Hp} {a : Addr} {kvs : List (Key × V)} (z : NZ H kvs) (h : DF k m H a kvs) (s : Same H H') : NZ H' kvs := fun p hp => by
  obtain ⟨x, r, e1, e2, e3, e4⟩ := h.2.2.2 p hp
  rw [e3, e4.fval fun xs e => s _ _ e, ← e3]
  exact z p hp
theorem DF.put {k m : Nat} {H : Hp} {a : Addr} {kvs : List (Key × V)} {x : Str} {r : Addr} (h : DF k m H a kvs) (hx : NmOk x) (hr : Frg k H r) (hl : kvs.length < m) : DF k m (upd H a (.dK (putK kvs (.inr x) (.ref r)))) a (putK kvs (.inr x) (.ref r)) := by
  obtain ⟨h1, h2, h3, h4⟩ := h
  refine ⟨upd_same, nd_put _ _ h2, Nat.le_trans (length_putK ..) hl, fun p hp => ?_⟩
  rcases mem_putK hp with z | z
  · obtain ⟨y, r', e1, e2, e3, e4⟩ := h4 p z
    exact ⟨y, r', e1, e2, e3, e4.dict h1⟩
  · subst z
    exact ⟨x, r, rfl, hx, rfl, hr.dict h1⟩
theorem NZ.put {k m : Nat} {H : Hp} {a : Addr} {kvs : List (Key × V)} {x : Str} {r : Addr} (z : NZ H kvs) (h : DF k m H a kvs) (hr : Frg k H r) (hz : (fval H (.ref r)).1 ≠ 0) : NZ (upd H a (.dK (putK kvs (.inr x) (.ref r)))) (putK kvs (.inr x) (.ref r)) := fun p hp => by
  have keep : ∀ r' xs, H r' = some (.tup xs) → (upd H a (.dK (putK kvs (.inr x) (.ref r)))) r' = some (.tup xs) := fun r' xs e => by
    rw [upd_ne fun c => ?_]
    · exact e
    · rw [c, h.1] at e
      cases e
  rcases mem_putK hp with y | y
  · obtain ⟨_, r', e1, e2, e3, e4⟩ := h.2.2.2 p y
    rw [e3, e4.fval (keep r'), ← e3]
    exact z p y
  · subst y
    rw [hr.fval (keep r)]
    exact hz
theorem strs_ne {st c u : Addr} {H : Hp} {xs : List Str} (y : StA st c H) (h : H u = some (.lst (xs.map V.str))) : u ≠ st := fun e => by
  obtain ⟨i, n, f, ys, h1, _⟩ := y
  rw [e, h1] at h
  have z := HO.lst.inj (Option.some.inj h)
  cases xs with
  | nil => cases z
  | cons a r => cases (List.cons.inj z).1
section
variable {P : Program} {w : World} {K : PySem.W.Frag} {mg : Str → Option Value} {base : Heap}
def spNumber : Sp := fun vs H Q _ => ∃ st c : Addr, vs = [.ref st] ∧ StA st c H ∧ ∀ H' p, But st H H' → StA st c H' → Frg 20 H' p → Q (.ref p) H'
theorem scNumber : FnScope ["_law_state", "_law_way", "_law_small", "_law_great", "_law_under"] ["_law_state"] (defScope sNumber) := ⟨rfl, rfl, rfl, by decide +kernel, rfl, by decide +kernel, by decide +kernel⟩
theorem ok_number {f : Addr} {fd : FuncData} (F : Fun K "_law_number" "_law_number" sNumber f fd) (tk : Cl P w K mg base CX0 3 "_law_take" spTake []) (fc : Cl P w K mg base CX0 2 "_law_frac" spFrac []) : FnOk P w K mg base CX0 4 f fd ["_law_state"] spNumber := by
  refine F.ok scNumber (fun vs H Q E h => ?_) (fun cdv A outer s H vs Q E hr h => ?_)
  · obtain ⟨_, _, rfl, _⟩ := h
    rfl
  · obtain ⟨st, c, rfl, sa, q⟩ := h
    refine ⟨_, pss_cons (ps_set (i := 1) scNumber.nd rfl (.inl rfl) (pc0 tk hr (by decide) (pa_cons (pv 0) (pa_cons pe_int pa_nil))))
      (pss_cons (ps_set (i := 2) scNumber.nd rfl (.inl rfl) (pe_op op_sub (pc0 tk hr (by decide) (pa_cons (pv 0) (pa_cons pe_int pa_nil))) pe_int))
      (pss_cons (ps_set (i := 3) scNumber.nd rfl (.inl rfl) (pe_op op_sub (pc0 tk hr (by decide) (pa_cons (pv 0) (pa_cons pe_int pa_nil))) pe_int))
      (pss_cons (ps_set (i := 4) scNumber.nd rfl (.inl rfl) (pe_op op_add pe_int (pc0 tk hr (by decide) (pa_cons (pv 0) (pa_cons pe_int pa_nil)))))
      (pss_cons (ps_if (pt_cmpR op_eq (pv 1) pe_int (nomark _)) (pss_one (ps_ret (pe_tup (pa_cons pe_int (pa_cons pe_int pa_nil))))) pss_nil)
      (pss_cons (ps_if (pt_cmpR op_eq (pv 1) pe_int (nomark _)) (pss_one (ps_ret (pc0 fc hr (by decide) (pa_cons (pv 3) (pa_cons (pv 4) pa_nil))))) pss_nil)
      (pss_cons (ps_if (pt_cmpR op_eq (pv 1) pe_int (nomark _)) (pss_one (ps_ret (pc0 fc hr (by decide) (pa_cons (pv 2) (pa_cons (pe_op op_add pe_int (pe_op op_mod (pv 4) pe_int)) pa_nil))))) pss_nil)
      (pss_one (ps_ret (pe_tup (pa_cons (pv 2) (pa_cons pe_int pa_nil))))))))))), ?_⟩
    refine ⟨_, rfl, st, c, 6, rfl, by decide, lt8 (by decide), sa, fun H1 d1 b1 s1 l1 u1 => ?_⟩
    refine ⟨_, rfl, st, c, 13, rfl, by decide, lt8 (by decide), s1, fun H2 d2 b2 s2 l2 u2 => ⟨_, _, rfl, rfl, ?_⟩⟩
    refine ⟨_, rfl, st, c, 1999, rfl, by decide, lt8 (by decide), s2, fun H3 d3 b3 s3 l3 u3 => ⟨_, _, rfl, rfl, ?_⟩⟩
    refine ⟨_, rfl, st, c, 99, rfl, by decide, lt8 (by decide), s3, fun H4 d4 b4 s4 l4 u4 => ⟨_, _, rfl, rfl, ?_⟩⟩
    have bb := ((b1.trans b2).trans b3).trans b4
    refine ⟨_, rfl, rfl, _, rfl, ite2 (fun _ => ?_) (fun _ => ?_)⟩
    · refine ⟨small2, fun p np => q _ p (bb.trans (Same.but (same_new np))) (s4.same (same_new np)) ⟨0, 1, upd_same, by decide, by decide, by decide, by decide⟩⟩
    · refine ⟨_, rfl, rfl, _, rfl, ite2 (fun _ => ?_) (fun _ => ?_)⟩
      · have n1 : 1 + d4 ≠ 0 := by omega
        have n2 : (1 + d4).natAbs < 2 ^ 20 := by omega
        refine ⟨_, rfl, _, rfl, d3 - 999, 1 + d4, rfl, n1, sm_mono n2 (by decide), fun p np => q _ p (bb.trans (Same.but (same_new np))) (s4.same (same_new np)) (frg_new n1 (by omega) n2)⟩
      · refine ⟨_, rfl, rfl, _, rfl, ite2 (fun _ => ?_) (fun _ => ?_)⟩
        · have n1 : 1 + (1 + d4) % 4 ≠ 0 := by omega
          have n2 : (1 + (1 + d4) % 4).natAbs < 2 ^ 20 := by omega
          refine ⟨_, rfl, _, rfl, 1 + d4, 4, rfl, rfl, (by show (0 : Int) < 4; decide), 1, (1 + d4) % 4, rfl, rfl, d2 - 6, 1 + (1 + d4) % 4, rfl, n1, sm_mono n2 (by decide), fun p np => q _ p (bb.trans (Same.but (same_new np))) (s4.same (same_new np)) (frg_new n1 (by omega) n2)⟩
        · refine ⟨_, rfl, small2, fun p np => q _ p (bb.trans (Same.but (same_new np))) (s4.same (same_new np)) ⟨d2 - 6, 1, upd_same, by decide, by omega, by decide, Int.gcd_one_right _⟩⟩
end
end SS

namespace SS
open PySem PySem.Spec PyProof.Rows L2
section
variable {P : Program} {w : World} {K : PySem.W.Frag} {mg : Str → Option Value} {base : Heap}
/-! ### a drawn sum -/
def spSsum : Sp := fun vs H Q _ => ∃ (st c u : Addr) (xs : List Str), vs = [.ref st, .ref u] ∧ StA st c H ∧ H u = some (.lst (xs.map V.str)) ∧ xs.length ≤ 9 ∧ (∀ x ∈ xs, NmOk x) ∧
  ∀ H' a kvs, But st H H' → StA st c H' → H a = none → DF 20 (xs.length + 1) H' a kvs → NZ H' kvs → Q (.ref a) H'
theorem scSsum : FnScope ["_law_state", "_law_unknowns", "_law_way", "_law_found", "_law_key", "_law_number_here"] ["_law_state", "_law_unknowns"] (defScope sSsum) := ⟨rfl, rfl, rfl, by decide +kernel, rfl, by decide +kernel, by decide +kernel⟩
theorem ok_ssum {f : Addr} {fd : FuncData} (F : Fun K "_law_some_sum" "_law_some_sum" sSsum f fd) (ml : mg "len" = none) (tk : Cl P w K mg base CX0 3 "_law_take" spTake []) (nm : Cl P w K mg base CX0 4 "_law_number" spNumber []) : FnOk P w K mg base CX0 5 f fd ["_law_state", "_law_unknowns"] spSsum := by
  refine F.ok scSsum (fun vs H Q E h => ?_) (fun cdv A outer s H vs Q E hr h => ?_)
  · obtain ⟨_, _, _, _, rfl, _⟩ := h
    rfl
  · obtain ⟨st, c, u, xs, rfl, sa, hu0, hl, hx, q⟩ := h
    have hu := hu_of hr
    refine ⟨_, pss_cons (ps_set (i := 2) scSsum.nd rfl (.inl rfl) (pc0 tk hr (by decide) (pa_cons (pv 0) (pa_cons pe_int pa_nil))))
      (pss_cons (ps_set (i := 3) scSsum.nd rfl (.inl rfl) pe_dnewK)
      (pss_cons (ps_for PassesOwn.never rfl (pi_list (pv 1)) (pg_name (i := 4) scSsum.nd rfl (.inl rfl))
        (pss_cons (ps_set (i := 5) scSsum.nd rfl (.inl rfl) (pc0 nm hr (by decide) (pa_cons (pv 0) pa_nil)))
        (pss_one (ps_if (PW.pt (pw_and (pt_cmpR op_ne (pe_ix ix_tup (pv 5) pe_int (fun _ _ => rfl)) pe_int (nomark _))
          (pw_and1 (PW.pt (pw_or (pt_cmpR op_gt (pv 2) pe_int (nomark _)) (pw_or1 (pt_cmpR op_eq (pc0 tk hr (by decide) (pa_cons (pv 0) (pa_cons pe_int pa_nil))) pe_int (nomark _))))))))
          (pss_one (ps_dput hu (pv 3) (pv 4) (pv 5) rfl)) pss_nil))))
      (pss_cons (ps_if (pt_cmpR op_eq (pv 2) pe_int (nomark _)) (pss_one (ps_ret pe_dnewK)) pss_nil)
      (pss_cons (ps_if (PW.pt (pw_and (pt_cmpR (op_eq0 hr.units) (pv 3) pe_dnewK (nomark _)) (pw_and (pt_cmpR op_gt (pv 2) pe_int (nomark _))
          (pw_and1 (pt_cmpR op_gt (pe_callB call_len_seq (by rfl) ml PySem.boot_len (pa_cons (pv 1) pa_nil)) pe_int (nomark _))))))
        (pss_one (ps_dput hu (pv 3) (pe_ix ix_list (pv 1) (pc0 tk hr (by decide) (pa_cons (pv 0) (pa_cons (pe_callB call_len_seq (by rfl) ml PySem.boot_len (pa_cons (pv 1) pa_nil)) pa_nil))) (fun _ _ => rfl))
          (pe_tup (pa_cons (pe_op op_sub pe_int (pe_op op_mul pe_int (pc0 tk hr (by decide) (pa_cons (pv 0) (pa_cons pe_int pa_nil))))) (pa_cons pe_int pa_nil))) rfl)) pss_nil)
      (pss_one (ps_ret (pv 3))))))), ?_⟩
    have nu := strs_ne sa hu0
    refine ⟨_, rfl, st, c, 8, rfl, by decide, lt8 (by decide), sa, fun H1 wy b1 s1 l1 u1 => ?_⟩
    intro a na1
    have as1 := s1.fresh na1
    have ac1 := s1.fresh2 na1
    have na : H a = none := by
      cases e : H a with
      | none => rfl
      | some o =>
        have z := b1 a o (fun z => as1 z) e
        rw [na1] at z
        cases z
    have sn := same_new (o := .dK []) na1
    have hu1 : (upd H1 a (.dK [])) u = some (.lst (xs.map V.str)) := sn _ _ (b1 _ _ nu hu0)
    refine ⟨_, rfl, u, rfl, ⟨_, SqL.of hu1⟩, for_list (K := K) (a := u) (xs := xs.map V.str) (fun i σ H' => ∃ (y4 y5 : Option V) (kvs : List (Key × V)), σ = [some (.ref st), some (.ref u), some (.int wy), some (.ref a), y4, y5] ∧ But st H H' ∧ StA st c H' ∧ DF 20 i H' a kvs ∧ NZ H' kvs)
      ⟨none, none, [], rfl, b1.trans (Same.but sn), s1.same sn, ⟨upd_same, List.nodup_nil, Nat.le_refl _, fun p hp => absurd hp List.not_mem_nil⟩, fun p hp => absurd hp List.not_mem_nil⟩ ?_ ?_ ?_⟩
    · rintro i σ H' _ ⟨_, _, _, _, bt, _⟩
      exact SqL.of (bt _ _ nu hu0)
    · rintro i y σ H2 hy ⟨y4, y5, kvs, rfl, bt, s2, df, nz⟩
      obtain ⟨x, hxi, rfl⟩ : ∃ x, x ∈ xs ∧ y = .str x := by
        rw [List.getElem?_map] at hy
        cases e : xs[i]? with
        | none =>
          rw [e] at hy
          cases hy
        | some x =>
          rw [e] at hy
          exact ⟨x, List.mem_of_getElem? e, (Option.some.inj hy).symm⟩
      have hi : i < xs.length := by
        have z := (List.getElem?_eq_some_iff.mp hy).1
        rw [List.length_map] at z
        exact z
      have dm : ∀ {H'}, DF 20 i H' a kvs → DF 20 (i + 1) H' a kvs := fun h => ⟨h.1, h.2.1, Nat.le_succ_of_le h.2.2.1, h.2.2.2⟩
      refine ⟨_, rfl, st, c, rfl, s2, fun H3 p b3 s3 fp => ?_⟩
      have df3 := df.but b3 s2
      have nz3 := nz.but df b3 s2
      obtain ⟨v1, v2, v3, v4, v5⟩ := fp.val
      refine ⟨_, rfl, p, _, 0, _, rfl, rfl, SqT.of v1, atI_nat (j := 0) rfl, rfl, _, rfl, ite2 (fun e => ?_) (fun e => iteF ?_)⟩
      · have n0 : (fval H3 (.ref p)).1 ≠ 0 := fun z => by
          rw [z] at e
          exact absurd e (by decide)
        have fin : ∀ H4, But st H3 H4 → StA st c H4 → ∃ (y4 y5 : Option V) (kvs' : List (Key × V)), [some (V.ref st), some (.ref u), some (.int wy), some (.ref a), some (.str x), some (.ref p)] = [some (.ref st), some (.ref u), some (.int wy), some (.ref a), y4, y5] ∧ But st H (upd H4 a (.dK (putK kvs (.inr x) (.ref p)))) ∧ StA st c (upd H4 a (.dK (putK kvs (.inr x) (.ref p)))) ∧ DF 20 (i + 1) (upd H4 a (.dK (putK kvs (.inr x) (.ref p)))) a kvs' ∧ NZ (upd H4 a (.dK (putK kvs (.inr x) (.ref p)))) kvs' := fun H4 b4 s4 => by
          have df4 := df3.but b4 s3
          refine ⟨_, _, _, rfl, ?_, s4.other as1 ac1, (dm df4).put (hx x hxi) (fp.but b4 s3) (Nat.lt_succ_of_le df.2.2.1), (nz3.but df3 b4 s3).put df4 (fp.but b4 s3) ?_⟩
          · intro b o nb e4
            rw [upd_ne fun z => ?_]
            · exact ((bt.trans b3).trans b4) b o nb e4
            · rw [z, na] at e4
              cases e4
          · rw [fp.fval fun ys e5 => b4.tup s3 e5]
            exact n0
        refine ⟨_, rfl, wy, 4, rfl, rfl, _, rfl, ite2 (fun e2 => iteT ?_) (fun e2 => ?_)⟩
        · refine ⟨_, rfl, _, rfl, _, rfl, a, _, rfl, DPut.k (k := .inr x) df3.1 (small1000 (Nat.le_trans df3.2.2.1 (by omega))), ?_⟩
          exact fin H3 (But.refl _ _) s3
        · refine ⟨_, rfl, st, c, 2, rfl, by decide, lt8 (by decide), s3, fun H4 d4 b4 s4 l4 u4 => ⟨rfl, _, rfl, ite2 (fun e3 => ?_) (fun e3 => ?_)⟩⟩
          · have df4 := df3.but b4 s3
            refine ⟨_, rfl, _, rfl, _, rfl, a, _, rfl, DPut.k (k := .inr x) df4.1 (small1000 (Nat.le_trans df4.2.2.1 (by omega))), ?_⟩
            exact fin H4 b4 s4
          · exact ⟨_, _, kvs, rfl, (bt.trans b3).trans b4, s4, dm (df3.but b4 s3), nz3.but df3 b4 s3⟩
      · exact ⟨_, _, kvs, rfl, bt.trans b3, s3, dm df3, nz3⟩
    · rintro σ H2 ⟨y4, y5, kvs, rfl, bt, s2, df, nz⟩
      rw [List.length_map] at df
      have dm : DF 20 (xs.length + 1) H2 a kvs := ⟨df.1, df.2.1, Nat.le_succ_of_le df.2.2.1, df.2.2.2⟩
      have hu2 := bt _ _ nu hu0
      refine ⟨_, rfl, rfl, _, rfl, ite2 (fun e => ?_) (fun e => ?_)⟩
      · intro a2 na2
        have s3 := same_new (o := .dK []) na2
        have a2n : H a2 = none := by
          cases e : H a2 with
          | none => rfl
          | some o =>
            have z := bt a2 o (s2.fresh na2) e
            rw [na2] at z
            cases z
        exact q _ a2 [] (bt.trans (Same.but s3)) (s2.same s3) a2n ⟨upd_same, List.nodup_nil, Nat.zero_le _, fun p hp => absurd hp List.not_mem_nil⟩ fun p hp => absurd hp List.not_mem_nil
      · refine ⟨_, rfl, fun a3 na3 => ?_⟩
        have s3 := same_new (o := .dK []) na3
        have df3 := dm.same s3
        have nz3 := nz.same df s3
        have b3 : But st H (upd H2 a3 (.dK [])) := bt.trans (Same.but s3)
        have sa3 := s2.same s3
        have hu3 := s3 _ _ hu2
        have ha3 : (upd H2 a3 (.dK [])) a3 = some (.dK []) := upd_same
        generalize upd H2 a3 (.dK []) = H3 at s3 df3 nz3 b3 sa3 hu3 ha3 ⊢
        have el : ((xs.map V.str).length : Int) = (xs.length : Int) := by rw [List.length_map]
        refine ⟨a, a3, kvs, rfl, rfl, df3.1, ha3, _, rfl, ite2 (fun e2 => ?n1) (fun e2 => iteF ?r1)⟩
        case' n1 => refine ⟨_, rfl, wy, 1, rfl, rfl, _, rfl, ite2 (fun e3 => ?n2) (fun e3 => iteF ?r2)⟩
        case' n2 => refine ⟨_, rfl, u, _, rfl, .inl (SqL.of hu3), (xs.length : Int), 0, congrArg V.int el, rfl, _, rfl, ite2 (fun e4 => ?_) (fun e4 => ?r3)⟩
        case r1 | r2 | r3 => exact ⟨_, rfl, q _ a kvs b3 sa3 na df3 nz3⟩
        have lp : 0 < (xs.length : Int) := of_decide_eq_true e4
        refine ⟨_, rfl, st, c, 2, rfl, by decide, lt8 (by decide), sa3, fun H4 d4 b4 s4 l4 u4 => ⟨2, d4, rfl, rfl, .inl ⟨by decide, by decide⟩, 1, 2 * d4, rfl, rfl, small2, fun T nT => ?_⟩⟩
        have sT := same_new (o := .tup [.int (1 - 2 * d4), .int 1]) nT
        have hT : (upd H4 T (.tup [.int (1 - 2 * d4), .int 1])) T = some (.tup [.int (1 - 2 * d4), .int 1]) := upd_same
        have fT : Frg 20 (upd H4 T (.tup [.int (1 - 2 * d4), .int 1])) T := ⟨_, _, hT, by decide, by omega, by decide, Int.gcd_one_right _⟩
        have df5 := (df3.but b4 sa3).same sT
        have nz5 := (nz3.but df3 b4 sa3).same (df3.but b4 sa3) sT
        have b5 := (b3.trans b4).trans (Same.but (st := st) sT)
        have s5 := s4.same sT
        have hu5 := sT _ _ (b4 _ _ nu hu3)
        have vT := fval_at hT
        generalize upd H4 T (.tup [.int (1 - 2 * d4), .int 1]) = H5 at fT df5 nz5 b5 s5 hu5 vT ⊢
        refine ⟨_, rfl, _, rfl, _, rfl, _, rfl, u, _, rfl, .inl (SqL.of hu5), st, c, (xs.length : Int), congrArg (fun z => [V.ref st, V.int z]) el, lp, lt8 (by omega), s5, fun H6 d6 b6 s6 l6 u6 => ?_⟩
        obtain ⟨x, hxi, hat⟩ := at_str (xs := xs) l6 u6
        have df6 := df5.but b6 s5
        have f6 := fT.but b6 s5
        have k0 : kvs.length < xs.length + 1 := by
          have z := df.2.2.1
          omega
        refine ⟨u, _, d6, _, rfl, rfl, SqL.of (b6 _ _ nu hu5), hat, a, _, rfl, DPut.k (k := .inr x) df6.1 (small1000 (by omega)), _, rfl, ?_⟩
        refine q _ a _ ?_ (s6.other as1 ac1) na (df6.put (hx x hxi) f6 k0) ((nz5.but df5 b6 s5).put df6 f6 ?_)
        · intro b o nb e9
          rw [upd_ne fun z => ?_]
          · exact (b5.trans b6) b o nb e9
          · rw [z, na] at e9
            cases e9
        · rw [fT.fval fun ys e5 => b6.tup s5 e5, vT]
          show 1 - 2 * d4 ≠ 0
          omega
end
end SS

namespace SS
open PySem PySem.Spec PyProof.Rows L2
/-! ### the worth, by plain numbers -/
def fplus (a b : Int × Int) : Int × Int := (fr1 (a.1 * b.2 + b.1 * a.2) (a.2 * b.2), fr2 (a.1 * b.2 + b.1 * a.2) (a.2 * b.2))
def ftimes (a b : Int × Int) : Int × Int := (fr1 (a.1 * b.1) (a.2 * b.2), fr2 (a.1 * b.1) (a.2 * b.2))
def pval (H : Hp) (ls : List (Key × V)) (k : Key) : Int × Int := match valV ls k with
  | some v => fval H v
  | none => (0, 1)
def wstep (H : Hp) (ls : List (Key × V)) (acc : Int × Int) (p : Key × V) : Int × Int := fplus acc (ftimes (fval H p.2) (pval H ls p.1))
def wfold (H : Hp) (kvs ls : List (Key × V)) : Int × Int := kvs.foldl (wstep H ls) (0, 1)
def Okb (k : Nat) (a : Int × Int) : Prop := 0 < a.2 ∧ a.1.natAbs < 2 ^ k ∧ a.2.natAbs < 2 ^ k ∧ Int.gcd a.1 a.2 = 1
theorem Okb.mono {k j : Nat} {a : Int × Int} (h : Okb k a) (l : k ≤ j) : Okb j a := ⟨h.1, sm_mono h.2.1 l, sm_mono h.2.2.1 l, h.2.2.2⟩
theorem okb_times {a b : Int × Int} {k j : Nat} (ha : Okb k a) (hb : Okb j b) : Okb (k + j) (ftimes a b) := by
  have nz : a.2 * b.2 ≠ 0 := pos_ne ha.1 hb.1
  exact ⟨fr2_pos nz, Nat.lt_of_le_of_lt (fr1_le nz) (sm_mul ha.2.1 hb.2.1), Nat.lt_of_le_of_lt (fr2_le nz) (sm_mul ha.2.2.1 hb.2.2.1), fr_gcd nz⟩
theorem okb_plus {a b : Int × Int} {k j : Nat} (ha : Okb k a) (hb : Okb j b) : Okb (k + j + 1) (fplus a b) := by
  have nz : a.2 * b.2 ≠ 0 := pos_ne ha.1 hb.1
  have t1 : (a.1 * b.2).natAbs < 2 ^ (k + j) := sm_mul ha.2.1 hb.2.2.1
  have t2 : (b.1 * a.2).natAbs < 2 ^ (k + j) := by
    rw [Int.mul_comm]
    exact sm_mul ha.2.2.1 hb.2.1
  exact ⟨fr2_pos nz, Nat.lt_of_le_of_lt (fr1_le nz) (sm_add t1 t2), Nat.lt_of_le_of_lt (fr2_le nz) (sm_mono (sm_mul ha.2.2.1 hb.2.2.1) (Nat.le_succ _)), fr_gcd nz⟩
theorem okb_zero (k : Nat) : Okb (k + 1) (0, 1) := ⟨by decide, by show 0 < 2 ^ (k + 1); exact Nat.pow_pos (by decide), by show 1 < 2 ^ (k + 1); exact Nat.one_lt_pow (by omega) (by decide), by decide⟩
theorem Frg.okb {k : Nat} {H : Hp} {r : Addr} (h : Frg k H r) : Okb k (SS.fval H (.ref r)) := h.val.2
theorem mem_valV {ls : List (Key × V)} {k : Key} {v : V} (h : valV ls k = some v) : ∃ p ∈ ls, p.1 = k ∧ p.2 = v := by
  unfold valV at h
  cases e : ls.find? fun kv => decide (kv.1 = k) with
  | none =>
    rw [e] at h
    cases h
  | some p =>
    rw [e] at h
    exact ⟨p, List.mem_of_find?_eq_some e, of_decide_eq_true (List.find?_some (p := fun kv : Key × V => decide (kv.1 = k)) e), Option.some.inj h⟩
theorem DF.get {k m : Nat} {H : Hp} {b : Addr} {ls : List (Key × V)} {y : Key} {v : V} (h : DF k m H b ls) (e : valV ls y = some v) : ∃ r, v = .ref r ∧ Frg k H r := by
  obtain ⟨p, hp, _, e2⟩ := mem_valV e
  obtain ⟨x, r, _, _, e3, e4⟩ := h.2.2.2 p hp
  exact ⟨r, e2.symm.trans e3, e4⟩
theorem DF.okp {k m : Nat} {H : Hp} {b : Addr} {ls : List (Key × V)} (h : DF (k + 1) m H b ls) (y : Key) : Okb (k + 1) (pval H ls y) := by
  unfold pval
  cases e : valV ls y with
  | none => exact okb_zero k
  | some v =>
    obtain ⟨r, rfl, f⟩ := h.get e
    exact f.okb
/-- all but the dict a, which is locked, is as it was -/
def Lk (a : Addr) (H H' : Hp) : Prop := ∀ b o, b ≠ a → H b = some o → H' b = some o
theorem Frg.lk {k : Nat} {H H' : Hp} {a r : Addr} {kvs : List (Key × V)} (h : Frg k H r) (ha : H a = some (.dK kvs)) (l : Lk a H H') : H' r = some (.tup [.int (SS.fval H (.ref r)).1, .int (SS.fval H (.ref r)).2]) := by
  refine l _ _ (fun e => ?_) h.val.1
  have z := h.val.1
  rw [e, ha] at z
  cases z
theorem FrT.unlock {K : PySem.W.Frag} {H : Hp} {a p : Addr} {n d : Int} {od : Obj} {kvs : List (Key × V)} {o : HO} (h : FrT K H p n d) (ha : H a = some (.frz od (.dK kvs))) : FrT K (upd H a o) p n d := by
  obtain ⟨h1, h2⟩ := h
  rcases h1 with (h1 | ⟨o1, h1⟩) | ⟨o1, its, m, k1, k2, k3⟩
  · have e : (upd H a o) p = some (.tup [.int n, .int d]) := by
      rw [upd_ne fun z => ?_]
      · exact h1
      · rw [z, ha] at h1
        cases h1
    exact FrT.of e
  · have e : (upd H a o) p = some (.frz o1 (.tup [.int n, .int d])) := by
      rw [upd_ne fun z => ?_]
      · exact h1
      · rw [z, ha] at h1
        cases h1
    exact ⟨.inl (.inr ⟨o1, e⟩), .fTuple e⟩
  · exact ⟨.inr ⟨o1, its, m, k1, k2, k3⟩, .kTuple k1 k2⟩
section
variable {P : Program} {w : World} {K : PySem.W.Frag} {mg : Str → Option Value} {base : Heap}
def spWorth (K : PySem.W.Frag) : Sp := fun vs H Q _ => ∃ (a b : Addr) (kvs ls : List (Key × V)), vs = [.ref a, .ref b] ∧ DF 100 6 H a kvs ∧ DF 100 10 H b ls ∧ a ≠ b ∧
  ∀ H' r, Same H H' → FrT K H' r (wfold H kvs ls).1 (wfold H kvs ls).2 → Okb 2000 (wfold H kvs ls) → Q (.ref r) H'
theorem scWorth : FnScope ["one", "point", "worth", "unknown", "number"] ["one", "point"] (defScope sWorth) := ⟨rfl, rfl, rfl, by decide +kernel, rfl, by decide +kernel, by decide +kernel⟩
theorem pow250 {i : Nat} (h : i ≤ 6) : 250 * (i + 1) ≤ 2000 := by omega
theorem ok_worth {f aN : Addr} {fd : FuncData} (F : Fun K "worth_at" "worth_at" sWorth f fd) (gN : mg "NOUGHT" = some (.ref aN)) (hN : ∀ H, FrT K H aN 0 1) (pl : Cl P w K mg base CX0 3 "plus" (spPlus K) []) (tm : Cl P w K mg base CX0 3 "times" (spTimes K) []) :
    FnOk P w K mg base CX0 4 f fd ["one", "point"] (spWorth K) := by
  refine F.ok scWorth (fun vs H Q E h => ?_) (fun cdv A outer s H vs Q E hr h => ?_)
  · obtain ⟨_, _, _, _, rfl, _⟩ := h
    rfl
  · obtain ⟨a, b, kvs, ls, rfl, da, db, nab, q⟩ := h
    have hu := hu_of hr
    refine ⟨_, pss_cons (ps_set (i := 2) scWorth.nd rfl (.inl rfl) (pe_glob (v := .ref aN) (by rfl) gN rfl))
      (pss_cons (ps_lock (ps_for PassesOwn.never rfl (pi_items (pv 0)) (pg_tup rfl (pgs_cons (pg_name (i := 3) scWorth.nd rfl (.inl rfl)) (pgs_cons (pg_name (i := 4) scWorth.nd rfl (.inl rfl)) pgs_nil)))
        (pss_one (ps_set (i := 2) scWorth.nd rfl (.inl rfl) (pc0 pl hr (by decide) (pa_cons (pv 2) (pa_cons (pc0 tm hr (by decide) (pa_cons (pv 4) (pa_cons (pe_dget2 hu (pv 1) (pv 3) (pe_glob (v := .ref aN) (by rfl) gN rfl) ⟨rfl, rfl, rfl, rfl⟩) pa_nil))) pa_nil)))))))
      (pss_one (ps_ret (pv 2)))), ?_⟩
    refine ⟨a, .dK kvs, da.1, trivial, fun od => ?_⟩
    have l0 : Lk a H (upd H a (.frz od (.dK kvs))) := fun b' o nb e => by
      rw [upd_ne nb]
      exact e
    refine ⟨_, rfl, a, od, kvs, rfl, upd_same, ?_⟩
    refine ⟨fun i m σ H' => ∃ (y3 y4 : Option V) (r : Addr), σ = [some (.ref a), some (.ref b), some (.ref r), y3, y4] ∧ i + m = kvs.length ∧ Lk a H H' ∧ H' a = some (.frz od (.dK kvs)) ∧
        FrT K H' r ((kvs.take i).foldl (wstep H ls) (0, 1)).1 ((kvs.take i).foldl (wstep H ls) (0, 1)).2 ∧ Okb (250 * (i + 1)) ((kvs.take i).foldl (wstep H ls) (0, 1)),
      ⟨kvs.length, none, none, aN, rfl, by omega, l0, upd_same, hN _, okb_zero 249⟩, fun i m σ H3 hW => ?_⟩
    obtain ⟨y3, y4, r, rfl, em, lk, ha3, fr, ok⟩ := hW
    have h6 : kvs.length ≤ 6 := da.2.2.1
    by_cases hi : i < kvs.length
    · refine .inr ⟨⟨ha3, hi⟩, fun σ' H' => ∃ (y3 y4 : Option V) (r : Addr), σ' = [some (.ref a), some (.ref b), some (.ref r), y3, y4] ∧ Lk a H H' ∧ H' a = some (.frz od (.dK kvs)) ∧
          FrT K H' r ((kvs.take (i + 1)).foldl (wstep H ls) (0, 1)).1 ((kvs.take (i + 1)).foldl (wstep H ls) (0, 1)).2 ∧ Okb (250 * (i + 1 + 1)) ((kvs.take (i + 1)).foldl (wstep H ls) (0, 1)), fun σ' H' hN' => ?_, fun x H' hy => ?_⟩
      · obtain ⟨a1, a2, a3, r1, r2, r3, r4, r5⟩ := hN'
        exact ⟨m - 1, by omega, a1, a2, a3, r1, by omega, r2, r3, r4, r5⟩
      · obtain ⟨T, k, v, hkv, rfl, nT, rfl⟩ := hy
        obtain ⟨nmx, rv, e1, e2, e3, e4⟩ := da.2.2.2 (k, v) (List.mem_of_getElem? hkv)
        have e3' : v = .ref rv := e3
        subst e3'
        have sT := same_new (o := .tup [kV k, .ref rv]) nT
        have lk4 : Lk a H (upd H3 T (.tup [kV k, .ref rv])) := fun b' o nb e => sT _ _ (lk b' o nb e)
        have ha4 := sT _ _ ha3
        have fr4 := fr.new sT
        have gT : (upd H3 T (.tup [kV k, .ref rv])) T = some (.tup [kV k, .ref rv]) := upd_same
        generalize upd H3 T (.tup [kV k, .ref rv]) = H4 at lk4 ha4 fr4 gT ⊢
        refine ⟨T, _, rfl, SqT.of gT, rfl, _, _, rfl, _, _, rfl, rfl, ?_⟩
        have hb4 := lk4 _ _ nab.symm db.1
        have okv : Okb 100 (fval H (.ref rv)) := e4.okb
        have okp : Okb 100 (pval H ls k) := db.okp (k := 99) k
        have fv4 : FrT K H4 rv (fval H (.ref rv)).1 (fval H (.ref rv)).2 := FrT.of (e4.lk da.1 lk4)
        obtain ⟨rp, ep, fp⟩ : ∃ rp, (valV ls k).getD (.ref aN) = .ref rp ∧ FrT K H4 rp (pval H ls k).1 (pval H ls k).2 := by
          unfold pval
          cases e : valV ls k with
          | none => exact ⟨aN, rfl, hN _⟩
          | some v' =>
            obtain ⟨r', rfl, f'⟩ := db.get e
            exact ⟨r', rfl, FrT.of (f'.lk da.1 lk4)⟩
        refine ⟨_, rfl, _, rfl, _, rfl, b, rfl, .inl ⟨ls, .inl hb4⟩, _, rfl, valV ls k, DGet.k (k := k) hb4, ?_⟩
        refine ⟨(fval H (.ref rv)).1, (fval H (.ref rv)).2, (pval H ls k).1, (pval H ls k).2, ⟨rv, rp, by rw [ep]; rfl, fv4, fp, okv.1, okp.1, sm_mono okv.2.1 (by decide), sm_mono okv.2.2.1 (by decide), sm_mono okp.2.1 (by decide), sm_mono okp.2.2.1 (by decide), okv.2.2.2, okp.2.2.2⟩, fun r1 nr1 => ?_⟩
        have okt : Okb 200 (ftimes (fval H (.ref rv)) (pval H ls k)) := okb_times okv okp
        have s5 := same_new (o := .tup [.int (ftimes (fval H (.ref rv)) (pval H ls k)).1, .int (ftimes (fval H (.ref rv)) (pval H ls k)).2]) nr1
        have ok2 : Okb 2000 ((kvs.take i).foldl (wstep H ls) (0, 1)) := ok.mono (pow250 (by omega))
        refine ⟨_, _, (ftimes (fval H (.ref rv)) (pval H ls k)).1, (ftimes (fval H (.ref rv)) (pval H ls k)).2, ⟨r, r1, rfl, fr4.new s5, FrT.of upd_same, ok.1, okt.1, sm_mono ok2.2.1 (by decide), sm_mono ok2.2.2.1 (by decide), sm_mono okt.2.1 (by decide), sm_mono okt.2.2.1 (by decide), ok2.2.2.2, okt.2.2.2⟩, fun r2 nr2 => ?_⟩
        have es : (kvs.take (i + 1)).foldl (wstep H ls) (0, 1) = fplus ((kvs.take i).foldl (wstep H ls) (0, 1)) (ftimes (fval H (.ref rv)) (pval H ls k)) := by
          rw [List.take_add_one, hkv]
          show (kvs.take i ++ [(k, V.ref rv)]).foldl (wstep H ls) (0, 1) = _
          rw [List.foldl_append]
          rfl
        have s6 := same_new (o := .tup [.int (fplus ((kvs.take i).foldl (wstep H ls) (0, 1)) (ftimes (fval H (.ref rv)) (pval H ls k))).1, .int (fplus ((kvs.take i).foldl (wstep H ls) (0, 1)) (ftimes (fval H (.ref rv)) (pval H ls k))).2]) nr2
        refine ⟨_, _, r2, rfl, fun b' o nb e => s6 _ _ (s5 _ _ (lk4 b' o nb e)), s6 _ _ (s5 _ _ ha4), ?_, ?_⟩
        · rw [es]
          exact FrT.of upd_same
        · rw [es]
          exact (okb_plus ok okt).mono (by omega)
    · have ei : kvs.take i = kvs := List.take_of_length_le (by omega)
      rw [ei] at fr ok
      refine .inl ⟨⟨ha3, by omega⟩, ha3, _, rfl, q _ r ?_ ?_ (ok.mono (pow250 (by omega)))⟩
      · intro b' o e
        by_cases eb : b' = a
        · subst eb
          rw [upd_same, ← da.1]
          exact e
        · rw [upd_ne eb]
          exact lk b' o eb e
      · exact fr.unlock ha3
end
end SS

namespace SS
open PySem PySem.Spec PyProof.Rows L2
section
variable {P : Program} {w : World} {K : PySem.W.Frag} {mg : Str → Option Value} {base : Heap}
theorem scLWorth : FnScope ["_law_one", "_law_point", "_law_worth_here", "_law_key"] ["_law_one", "_law_point"] (defScope sLWorth) := ⟨rfl, rfl, rfl, by decide +kernel, rfl, by decide +kernel, by decide +kernel⟩
theorem ok_lworth {f : Addr} {fd : FuncData} (F : Fun K "_law_worth" "_law_worth" sLWorth f fd) (pl : Cl P w K mg base CX0 3 "_law_plus" (spPlus K) []) (tm : Cl P w K mg base CX0 3 "_law_times" (spTimes K) []) :
    FnOk P w K mg base CX0 4 f fd ["_law_one", "_law_point"] (spWorth K) := by
  refine F.ok scLWorth (fun vs H Q E h => ?_) (fun cdv A outer s H vs Q E hr h => ?_)
  · obtain ⟨_, _, _, _, rfl, _⟩ := h
    rfl
  · obtain ⟨a, b, kvs, ls, rfl, da, db, nab, q⟩ := h
    have hu := hu_of hr
    refine ⟨_, pss_cons (ps_set (i := 2) scLWorth.nd rfl (.inl rfl) (pe_tup (pa_cons pe_int (pa_cons pe_int pa_nil))))
      (pss_cons (ps_lock (ps_for PassesOwn.never rfl (pi_keys (pv 0)) (pg_name (i := 3) scLWorth.nd rfl (.inl rfl))
        (pss_one (ps_set (i := 2) scLWorth.nd rfl (.inl rfl) (pc0 pl hr (by decide) (pa_cons (pv 2) (pa_cons (pc0 tm hr (by decide) (pa_cons (pe_dget hu (pv 0) (pv 3) (fun _ _ => rfl)) (pa_cons (pe_dget2 hu (pv 1) (pv 3) (pe_tup (pa_cons pe_int (pa_cons pe_int pa_nil))) ⟨rfl, rfl, rfl, rfl⟩) pa_nil))) pa_nil)))))))
      (pss_one (ps_ret (pv 2)))), ?_⟩
    refine ⟨small2, fun N0 nN0 => ?_⟩
    have s0 := same_new (o := .tup [.int 0, .int 1]) nN0
    have f0 : FrT K (upd H N0 (.tup [.int 0, .int 1])) N0 0 1 := FrT.of upd_same
    have aN0 : a ≠ N0 := ne_of_none da.1 nN0
    have ha0 := s0 _ _ da.1
    refine ⟨a, .dK kvs, ha0, trivial, fun od => ?_⟩
    have l0 : Lk a H (upd (upd H N0 (.tup [.int 0, .int 1])) a (.frz od (.dK kvs))) := fun b' o nb e => by
      rw [upd_ne nb]
      exact s0 _ _ e
    have f1 : FrT K (upd (upd H N0 (.tup [.int 0, .int 1])) a (.frz od (.dK kvs))) N0 0 1 := FrT.of (by rw [upd_ne aN0.symm]; exact upd_same)
    refine ⟨_, rfl, a, od, rfl, .inl ⟨kvs, upd_same, ?_⟩⟩
    refine ⟨fun i m σ H' => ∃ (y3 : Option V) (r : Addr), σ = [some (.ref a), some (.ref b), some (.ref r), y3] ∧ i + m = kvs.length ∧ Lk a H H' ∧ H' a = some (.frz od (.dK kvs)) ∧
        FrT K H' r ((kvs.take i).foldl (wstep H ls) (0, 1)).1 ((kvs.take i).foldl (wstep H ls) (0, 1)).2 ∧ Okb (250 * (i + 1)) ((kvs.take i).foldl (wstep H ls) (0, 1)),
      ⟨kvs.length, none, N0, rfl, by omega, l0, upd_same, f1, okb_zero 249⟩, fun i m σ H3 hW => ?_⟩
    obtain ⟨y3, r, rfl, em, lk, ha3, fr, ok⟩ := hW
    have h6 : kvs.length ≤ 6 := da.2.2.1
    by_cases hi : i < kvs.length
    · refine .inr ⟨⟨ha3, hi⟩, fun σ' H' => ∃ (y3 : Option V) (r : Addr), σ' = [some (.ref a), some (.ref b), some (.ref r), y3] ∧ Lk a H H' ∧ H' a = some (.frz od (.dK kvs)) ∧
          FrT K H' r ((kvs.take (i + 1)).foldl (wstep H ls) (0, 1)).1 ((kvs.take (i + 1)).foldl (wstep H ls) (0, 1)).2 ∧ Okb (250 * (i + 1 + 1)) ((kvs.take (i + 1)).foldl (wstep H ls) (0, 1)), fun σ' H' hN' => ?_, fun x H' hy => ?_⟩
      · obtain ⟨a1, a3, r1, r2, r3, r4, r5⟩ := hN'
        exact ⟨m - 1, by omega, a1, a3, r1, by omega, r2, r3, r4, r5⟩
      · obtain ⟨rfl, k, v, hkv, rfl⟩ := hy
        obtain ⟨nmx, rv, e1, e2, e3, e4⟩ := da.2.2.2 (k, v) (List.mem_of_getElem? hkv)
        have e3' : v = .ref rv := e3
        subst e3'
        have ev : valV kvs k = some (.ref rv) := val_nodup da.2.1 (k, .ref rv) (List.mem_of_getElem? hkv)
        have hb3 := lk _ _ nab.symm db.1
        have okv : Okb 100 (fval H (.ref rv)) := e4.okb
        have okp : Okb 100 (pval H ls k) := db.okp (k := 99) k
        refine ⟨_, rfl, _, rfl, _, rfl, a, _, rfl, .inl ⟨kvs, k, .inr ⟨od, ha3⟩, rfl, ev.symm⟩, _, rfl, b, rfl, .inl ⟨ls, .inl hb3⟩, _, rfl, small2, fun N1 nN1 => ?_⟩
        have s4 := same_new (o := .tup [.int 0, .int 1]) nN1
        have fN1 : FrT K (upd H' N1 (.tup [.int 0, .int 1])) N1 0 1 := FrT.of upd_same
        have lk4 : Lk a H (upd H' N1 (.tup [.int 0, .int 1])) := fun b' o nb e => s4 _ _ (lk b' o nb e)
        have ha4 := s4 _ _ ha3
        have fr4 := fr.new s4
        have hb4 := s4 _ _ hb3
        generalize upd H' N1 (.tup [.int 0, .int 1]) = H4 at lk4 ha4 fr4 hb4 fN1 ⊢
        have fv4 : FrT K H4 rv (fval H (.ref rv)).1 (fval H (.ref rv)).2 := FrT.of (e4.lk da.1 lk4)
        obtain ⟨rp, ep, fp⟩ : ∃ rp, (valV ls k).getD (.ref N1) = .ref rp ∧ FrT K H4 rp (pval H ls k).1 (pval H ls k).2 := by
          unfold pval
          cases e : valV ls k with
          | none => exact ⟨N1, rfl, fN1⟩
          | some v' =>
            obtain ⟨r', rfl, f'⟩ := db.get e
            exact ⟨r', rfl, FrT.of (f'.lk da.1 lk4)⟩
        refine ⟨valV ls k, DGet.k (k := k) hb4, ?_⟩
        refine ⟨(fval H (.ref rv)).1, (fval H (.ref rv)).2, (pval H ls k).1, (pval H ls k).2, ⟨rv, rp, by rw [ep]; rfl, fv4, fp, okv.1, okp.1, sm_mono okv.2.1 (by decide), sm_mono okv.2.2.1 (by decide), sm_mono okp.2.1 (by decide), sm_mono okp.2.2.1 (by decide), okv.2.2.2, okp.2.2.2⟩, fun r1 nr1 => ?_⟩
        have okt : Okb 200 (ftimes (fval H (.ref rv)) (pval H ls k)) := okb_times okv okp
        have s5 := same_new (o := .tup [.int (ftimes (fval H (.ref rv)) (pval H ls k)).1, .int (ftimes (fval H (.ref rv)) (pval H ls k)).2]) nr1
        have ok2 : Okb 2000 ((kvs.take i).foldl (wstep H ls) (0, 1)) := ok.mono (pow250 (by omega))
        refine ⟨_, _, (ftimes (fval H (.ref rv)) (pval H ls k)).1, (ftimes (fval H (.ref rv)) (pval H ls k)).2, ⟨r, r1, rfl, fr4.new s5, FrT.of upd_same, ok.1, okt.1, sm_mono ok2.2.1 (by decide), sm_mono ok2.2.2.1 (by decide), sm_mono okt.2.1 (by decide), sm_mono okt.2.2.1 (by decide), ok2.2.2.2, okt.2.2.2⟩, fun r2 nr2 => ?_⟩
        have es : (kvs.take (i + 1)).foldl (wstep H ls) (0, 1) = fplus ((kvs.take i).foldl (wstep H ls) (0, 1)) (ftimes (fval H (.ref rv)) (pval H ls k)) := by
          rw [List.take_add_one, hkv]
          show (kvs.take i ++ [(k, V.ref rv)]).foldl (wstep H ls) (0, 1) = _
          rw [List.foldl_append]
          rfl
        have s6 := same_new (o := .tup [.int (fplus ((kvs.take i).foldl (wstep H ls) (0, 1)) (ftimes (fval H (.ref rv)) (pval H ls k))).1, .int (fplus ((kvs.take i).foldl (wstep H ls) (0, 1)) (ftimes (fval H (.ref rv)) (pval H ls k))).2]) nr2
        refine ⟨_, r2, rfl, fun b' o nb e => s6 _ _ (s5 _ _ (lk4 b' o nb e)), s6 _ _ (s5 _ _ ha4), ?_, ?_⟩
        · rw [es]
          exact FrT.of upd_same
        · rw [es]
          exact (okb_plus ok okt).mono (by omega)
    · have ei : kvs.take i = kvs := List.take_of_length_le (by omega)
      rw [ei] at fr ok
      refine .inl ⟨⟨ha3, by omega⟩, ha3, _, rfl, q _ r ?_ ?_ (ok.mono (pow250 (by omega)))⟩
      · intro b' o e
        by_cases eb : b' = a
        · subst eb
          rw [upd_same, ← da.1]
          exact e
        · rw [upd_ne eb]
          exact lk b' o eb e
      · exact fr.unlock ha3
end
end SS


namespace SS
open PySem PySem.Spec PyProof.Rows L2
theorem cutTake {α : Type} {xs : List V} {d : Int} (h : 0 ≤ d) : cutV xs none (some d) = xs.take d.toNat := by
  obtain ⟨n, rfl⟩ := Int.eq_ofNat_of_zero_le h
  unfold cutV
  rw [HT.sIx_none, show HT.sIx xs.length xs.length (some (n : Int)) = min n xs.length from HT.sIx_nat xs.length xs.length n]
  show List.take (min n xs.length - 0) (xs.drop 0) = xs.take (n : Int).toNat
  rw [List.drop_zero, Nat.sub_zero, Int.toNat_natCast]
  by_cases c : n ≤ xs.length
  · rw [Nat.min_eq_left c]
  · rw [Nat.min_eq_right (by omega), List.take_length, List.take_of_length_le (by omega)]
theorem DF.other {k m : Nat} {H : Hp} {a a2 : Addr} {kvs ls : List (Key × V)} {o : HO} (h : DF k m H a kvs) (h2 : H a2 = some (.dK ls)) (n : a ≠ a2) : DF k m (upd H a2 o) a kvs := by
  obtain ⟨h1, hn, hl, h4⟩ := h
  refine ⟨by rw [upd_ne n]; exact h1, hn, hl, fun p hp => ?_⟩
  obtain ⟨x, r, e1, e2, e3, e4⟩ := h4 p hp
  exact ⟨x, r, e1, e2, e3, e4.dict h2⟩
theorem DF.wide {k m j l : Nat} {H : Hp} {a : Addr} {kvs : List (Key × V)} (h : DF k m H a kvs) (hk : k ≤ j) (hm : m ≤ l) : DF j l H a kvs := by
  obtain ⟨h1, hn, hl, h4⟩ := h
  refine ⟨h1, hn, Nat.le_trans hl hm, fun p hp => ?_⟩
  obtain ⟨x, r, e1, e2, e3, e4⟩ := h4 p hp
  exact ⟨x, r, e1, e2, e3, e4.mono hk⟩
theorem DF.copy {k m : Nat} {H : Hp} {a c : Addr} {kvs : List (Key × V)} (h : DF k m H a kvs) (n : H c = none) : DF k m (upd H c (.dK kvs)) c kvs := by
  have z := h.same (same_new (o := .dK kvs) n)
  exact ⟨upd_same, z.2.1, z.2.2.1, z.2.2.2⟩
theorem pval_same {k m : Nat} {H H' : Hp} {b : Addr} {ls : List (Key × V)} (h : DF k m H b ls) (s : Same H H') (y : Key) : pval H' ls y = pval H ls y := by
  unfold pval
  cases e : valV ls y with
  | none => rfl
  | some v =>
    obtain ⟨r, rfl, f⟩ := h.get e
    exact f.fval fun xs e => s _ _ e
theorem wfold_same {k m j l : Nat} {H H' : Hp} {a b : Addr} {kvs ls : List (Key × V)} (h : DF k m H a kvs) (h2 : DF j l H b ls) (s : Same H H') : wfold H' kvs ls = wfold H kvs ls := by
  have key : ∀ (l : List (Key × V)) (acc : Int × Int), (∀ p ∈ l, p ∈ kvs) → l.foldl (wstep H' ls) acc = l.foldl (wstep H ls) acc := fun l => by
    induction l with
    | nil =>
      intro acc _
      rfl
    | cons p r ih =>
      intro acc hp
      rw [List.foldl_cons, List.foldl_cons]
      have e : wstep H' ls acc p = wstep H ls acc p := by
        unfold wstep
        obtain ⟨x, q, e1, e2, e3, e4⟩ := h.2.2.2 p (hp p List.mem_cons_self)
        rw [pval_same h2 s, e3, e4.fval fun xs e => s _ _ e]
      rw [e]
      exact ih _ fun q hq => hp q (List.mem_cons_of_mem _ hq)
  exact key kvs (0, 1) fun p hp => hp
theorem deq_self {k m : Nat} {H : Hp} {a c : Addr} {kvs : List (Key × V)} (h : DF k m H a kvs) (hc : H c = some (.dK kvs)) : DEq H (.ref c) (.ref a) := by
  refine ⟨c, a, kvs, kvs, rfl, rfl, hc, h.1, rfl, fun p hp => ⟨p.2, val_nodup h.2.1 p hp, ?_⟩⟩
  obtain ⟨x, r, e1, e2, e3, e4⟩ := h.2.2.2 p hp
  rw [e3]
  exact ⟨r, r, _, _, rfl, rfl, e4.val.1, e4.val.1⟩
section
variable {P : Program} {w : World} {K : PySem.W.Frag} {mg : Str → Option Value} {base : Heap}
def spLaw (K : PySem.W.Frag) : Sp := fun vs H Q _ => ∃ (a : Addr) (ns : List Int), vs = [.ref a] ∧ SqL K H a (ns.map V.int) ∧ ∀ H', Q (.bl true) H'
theorem scLaw : FnScope ["_law_script", "_law_state", "_law_unknowns", "_law_k", "_law_one", "_law_point", "_law_key", "_law_number_here", "_law_far", "_law_handed", "_law_found"] ["_law_script"] (defScope sLaw) := ⟨rfl, rfl, rfl, by decide +kernel, rfl, by decide +kernel, by decide +kernel⟩
theorem ok_law {f : Addr} {fd : FuncData} (F : Fun K "law" "law" sLaw f fd) (mr : mg "range" = none) (md : mg "dict" = none)
    (fs : Cl P w K mg base CX0 1 "_law_fresh" (spFresh K) []) (ns' : Cl P w K mg base CX0 5 "_law_names" spNames []) (ss : Cl P w K mg base CX0 5 "_law_some_sum" spSsum []) (tk : Cl P w K mg base CX0 3 "_law_take" spTake [])
    (nm : Cl P w K mg base CX0 4 "_law_number" spNumber []) (fc : Cl P w K mg base CX0 2 "_law_frac" spFrac []) (wo : Cl P w K mg base CX0 4 "worth_at" (spWorth K) []) (isf : Cl P w K mg base CX0 2 "_law_is_fraction" (spIsf K) [])
    (lw : Cl P w K mg base CX0 4 "_law_worth" (spWorth K) []) : FnOk P w K mg base CX0 6 f fd ["_law_script"] (spLaw K) := by
  refine F.ok scLaw (fun vs H Q E h => ?_) (fun cdv A outer s H vs Q E hr h => ?_)
  · obtain ⟨_, _, rfl, _⟩ := h
    rfl
  · obtain ⟨a, ns, rfl, hS, q⟩ := h
    have hu := hu_of hr
    refine ⟨_, pss_cons (ps_set (i := 1) scLaw.nd rfl (.inl rfl) (pc0 fs hr (by decide) (pa_cons (pv 0) pa_nil)))
      (pss_cons (ps_set (i := 2) scLaw.nd rfl (.inl rfl) (pc0 ns' hr (by decide) (pa_cons (pv 1) (pa_cons pe_int pa_nil))))
      (pss_cons (ps_for PassesOwn.never rfl (pi_range1 rfl mr (pa_cons pe_int pa_nil)) (pg_name (i := 3) scLaw.nd rfl (.inl rfl))
        (pss_cons (ps_set (i := 4) scLaw.nd rfl (.inl rfl) (pc0 ss hr (by decide) (pa_cons (pv 1) (pa_cons (pe_slice sl_list (pv 2) po_none (po_some (pc0 tk hr (by decide) (pa_cons (pv 1) (pa_cons pe_int pa_nil))))) pa_nil))))
        (pss_cons (ps_set (i := 5) scLaw.nd rfl (.inl rfl) pe_dnewK)
        (pss_cons (ps_for PassesOwn.never rfl (pi_list (pv 2)) (pg_name (i := 6) scLaw.nd rfl (.inl rfl))
          (pss_cons (ps_set (i := 7) scLaw.nd rfl (.inl rfl) (pc0 nm hr (by decide) (pa_cons (pv 1) pa_nil)))
          (pss_cons (ps_set (i := 8) scLaw.nd rfl (.inl rfl) (pc0 fc hr (by decide) (pa_cons (pe_op op_sub (pc0 tk hr (by decide) (pa_cons (pv 1) (pa_cons (pe_op op_pow pe_int pe_int) pa_nil))) (pe_op op_pow pe_int pe_int))
            (pa_cons (pe_op op_add pe_int (pc0 tk hr (by decide) (pa_cons (pv 1) (pa_cons (pe_op op_sub (pe_op op_pow pe_int pe_int) pe_int) pa_nil)))) pa_nil))))
          (pss_cons (ps_if (pt_cmpR op_eq (pc0 tk hr (by decide) (pa_cons (pv 1) (pa_cons pe_int pa_nil))) pe_int (nomark _)) (pss_one (ps_set (i := 7) scLaw.nd rfl (.inl rfl) (pv 8))) pss_nil)
          (pss_one (ps_if (pt_cmpR op_gt (pc0 tk hr (by decide) (pa_cons (pv 1) (pa_cons pe_int pa_nil))) pe_int (nomark _)) (pss_one (ps_dput hu (pv 5) (pv 6) (pv 7) rfl)) pss_nil))))))
        (pss_cons (ps_set (i := 9) scLaw.nd rfl (.inl rfl) (pe_tup (pa_cons (pe_callTy call_dictD (by rfl) md (by decide +kernel) (pa_cons (pv 4) pa_nil)) (pa_cons (pe_callTy call_dictD (by rfl) md (by decide +kernel) (pa_cons (pv 5) pa_nil)) pa_nil))))
        (pss_cons (ps_set (i := 10) scLaw.nd rfl (.inl rfl) (pc0 wo hr (by decide) (pa_cons (pe_ix ix_tup (pv 9) pe_int (fun _ _ => rfl)) (pa_cons (pe_ix ix_tup (pv 9) pe_int (fun _ _ => rfl)) pa_nil))))
        (pss_one (ps_if (PW.pt (pw_or (pt_not (pt_val (pc0 isf hr (by decide) (pa_cons (pv 10) pa_nil))))
          (pw_or (pt_cmpR (op_neD hr.units) (pv 10) (pc0 lw hr (by decide) (pa_cons (pv 4) (pa_cons (pv 5) pa_nil))) (nomark _))
          (pw_or1 (pt_cmpR (op_neT hr.units) (pv 9) (pe_tup (pa_cons (pv 4) (pa_cons (pv 5) pa_nil))) (nomark _)))))) (pss_one (ps_ret pe_bl)) pss_nil))))))))
      (pss_one (ps_ret (pe_cmpR (op_eqD hr.units) (pc0 wo hr (by decide) (pa_cons pe_dnewK (pa_cons pe_dnewK pa_nil))) (pe_tup (pa_cons pe_int (pa_cons pe_int pa_nil))) (nomark _)))))), ?_⟩
    refine ⟨_, rfl, a, ns, rfl, hS, fun H1 st c s1 ns1 nc1 sa1 => ?_⟩
    refine ⟨_, rfl, st, c, 6, rfl, by decide, by decide, sa1, fun H2 u xs b2 s2 nu hu2 hlen hx => ?_⟩
    have xl : xs.length = 6 := by omega
    refine ⟨4, rfl, by decide, by decide, for_range (n := 4) (fun i σ H' => ∃ (y3 y4 y5 y6 y7 y8 y9 y10 : Option V), σ = [some (.ref a), some (.ref st), some (.ref u), y3, y4, y5, y6, y7, y8, y9, y10] ∧ StA st c H' ∧ H' u = some (.lst (xs.map V.str)))
      ⟨none, none, none, none, none, none, none, none, rfl, s2, hu2⟩ ?_ ?_⟩
    · rintro i σ H3 hi ⟨y3, y4, y5, y6, y7, y8, y9, y10, rfl, s3, hu3⟩
      have us3 := strs_ne s3 hu3
      refine ⟨_, rfl, _, rfl, _, rfl, st, c, 5, rfl, by decide, lt8 (by decide), s3, fun H4 d4 b4 s4 l4 u4 => ⟨d4, rfl, u, _, rfl, SqL.of (b4 _ _ us3 hu3), fun L nL => ?_⟩⟩
      have hu4 := b4 _ _ us3 hu3
      have sL := same_new (o := .lst (cutV (xs.map V.str) none (some d4))) nL
      have hL : (upd H4 L (.lst (cutV (xs.map V.str) none (some d4)))) L = some (.lst ((xs.take d4.toNat).map V.str)) := by
        rw [upd_same, cutTake (α := Nat) l4, List.map_take]
      have tl : (xs.take d4.toNat).length ≤ 4 := by
        rw [List.length_take]
        omega
      refine ⟨st, c, L, xs.take d4.toNat, rfl, s4.same sL, hL, by omega, fun x hxx => hx x (List.mem_of_mem_take hxx), fun H5 a1 kvs b5 s5 na1 d1 _ => ?_⟩
      have hu5 := b5 _ _ us3 (sL _ _ hu4)
      have d1' : DF 20 6 H5 a1 kvs := d1.wide (Nat.le_refl _) (by omega)
      intro a2 na2
      have s6 := same_new (o := .dK []) na2
      have ua2 : u ≠ a2 := ne_of_none hu5 na2
      have a12 : a1 ≠ a2 := ne_of_none d1.1 na2
      have as2 := s5.fresh na2
      have ac2 := s5.fresh2 na2
      have hu6 := s6 _ _ hu5
      refine ⟨_, rfl, u, rfl, ⟨_, SqL.of hu6⟩, for_list (K := K) (a := u) (xs := xs.map V.str) (fun j σ H' => ∃ (y6 y7 y8 y9 y10 : Option V) (ls : List (Key × V)), σ = [some (.ref a), some (.ref st), some (.ref u), some (.int (0 + (i : Nat))), some (.ref a1), some (.ref a2), y6, y7, y8, y9, y10] ∧ StA st c H' ∧ H' u = some (.lst (xs.map V.str)) ∧ DF 20 6 H' a1 kvs ∧ DF 100 j H' a2 ls)
        ⟨_, _, _, _, _, [], rfl, s5.same s6, hu6, d1'.same s6, ⟨upd_same, List.nodup_nil, Nat.le_refl _, fun p hp => absurd hp List.not_mem_nil⟩⟩ ?_ ?_ ?_⟩
      · rintro j σ H' _ ⟨_, _, _, _, _, _, _, _, hh, _⟩
        exact SqL.of hh
      · rintro j y σ H6 hy ⟨y6, y7, y8, y9, y10, ls, rfl, s6, hu6, d6, p6⟩
        obtain ⟨x, hxi, rfl⟩ : ∃ x, x ∈ xs ∧ y = .str x := by
          rw [List.getElem?_map] at hy
          cases e : xs[j]? with
          | none =>
            rw [e] at hy
            cases hy
          | some x =>
            rw [e] at hy
            exact ⟨x, List.mem_of_getElem? e, (Option.some.inj hy).symm⟩
        have hj : j < 6 := by
          have z := (List.getElem?_eq_some_iff.mp hy).1
          rw [List.length_map, xl] at z
          exact z
        refine ⟨_, rfl, st, c, rfl, s6, fun H7 p b7 s7 fp => ?_⟩
        refine ⟨_, rfl, 10, 30, rfl, rfl, ⟨by decide, by decide, by decide⟩, st, c, 10 ^ 30, rfl, by decide, lt8 (by decide), s7, fun H8 d8 b8 s8 l8 u8 => ?_⟩
        refine ⟨10, 29, rfl, rfl, ⟨by decide, by decide, by decide⟩, d8, 10 ^ 29, rfl, rfl, ?_⟩
        refine ⟨_, rfl, 10, 30, rfl, rfl, ⟨by decide, by decide, by decide⟩, 10 ^ 30, 1, rfl, rfl, st, c, 10 ^ 30 - 1, rfl, by decide, lt8 (by decide), s8, fun H9 d9 b9 s9 l9 u9 => ⟨1, d9, rfl, rfl, ?_⟩⟩
        have n1 : 1 + d9 ≠ 0 := by omega
        have n2 : (1 + d9).natAbs < 2 ^ 100 := by omega
        refine ⟨d8 - 10 ^ 29, 1 + d9, rfl, n1, lt8 n2, fun r nr => ?_⟩
        have sr := same_new (o := .tup [.int (fr1 (d8 - 10 ^ 29) (1 + d9)), .int (fr2 (d8 - 10 ^ 29) (1 + d9))]) nr
        have fr : Frg 100 (upd H9 r (.tup [.int (fr1 (d8 - 10 ^ 29) (1 + d9)), .int (fr2 (d8 - 10 ^ 29) (1 + d9))])) r := frg_new n1 (by omega) n2
        have b69 : But st H6 (upd H9 r (.tup [.int (fr1 (d8 - 10 ^ 29) (1 + d9)), .int (fr2 (d8 - 10 ^ 29) (1 + d9))])) := ((b7.trans b8).trans b9).trans (Same.but sr)
        have s10 := s9.same sr
        have fp10 : Frg 100 (upd H9 r (.tup [.int (fr1 (d8 - 10 ^ 29) (1 + d9)), .int (fr2 (d8 - 10 ^ 29) (1 + d9))])) p := (((fp.but b8 s7).but b9 s8).same sr).mono (by decide)
        generalize upd H9 r (.tup [.int (fr1 (d8 - 10 ^ 29) (1 + d9)), .int (fr2 (d8 - 10 ^ 29) (1 + d9))]) = H10 at b69 s10 fp10 fr ⊢
        have fin : ∀ (H11 : Hp) (rr : Addr), But st H10 H11 → StA st c H11 → Frg 100 H10 rr → ∀ (b' : Bool), ∃ (z6 z7 z8 z9 z10 : Option V) (ls' : List (Key × V)), [some (V.ref a), some (.ref st), some (.ref u), some (.int (0 + (i : Nat))), some (.ref a1), some (.ref a2), some (.str x), some (.ref rr), some (.ref r), y9, y10] = [some (.ref a), some (.ref st), some (.ref u), some (.int (0 + (i : Nat))), some (.ref a1), some (.ref a2), z6, z7, z8, z9, z10] ∧
            StA st c (if b' = true then upd H11 a2 (.dK (putK ls (.inr x) (.ref rr))) else H11) ∧ (if b' = true then upd H11 a2 (.dK (putK ls (.inr x) (.ref rr))) else H11) u = some (.lst (xs.map V.str)) ∧ DF 20 6 (if b' = true then upd H11 a2 (.dK (putK ls (.inr x) (.ref rr))) else H11) a1 kvs ∧ DF 100 (j + 1) (if b' = true then upd H11 a2 (.dK (putK ls (.inr x) (.ref rr))) else H11) a2 ls' := fun H11 rr b11 s11 frr b' => by
          have bb := b69.trans b11
          have d11 := d6.but bb s6
          have p11 := p6.but bb s6
          have hu11 := bb _ _ us3 hu6
          cases b' with
          | true =>
            refine ⟨_, _, _, _, _, putK ls (.inr x) (.ref rr), rfl, s11.other as2 ac2, ?_, d11.other p11.1 a12, (p11.wide (Nat.le_refl _) (Nat.le_succ _)).put (hx x hxi) (frr.but b11 s10) (Nat.lt_succ_of_le p11.2.2.1)⟩
            show (upd H11 a2 _) u = _
            rw [upd_ne ua2]
            exact hu11
          | false => exact ⟨_, _, _, _, _, ls, rfl, s11, hu11, d11, p11.wide (Nat.le_refl _) (Nat.le_succ _)⟩
        refine ⟨_, rfl, st, c, 4, rfl, by decide, lt8 (by decide), s10, fun H11 d11 b11 s11 l11 u11 => ⟨rfl, _, rfl, ite2 (fun e => ?_) (fun e => ?_)⟩⟩
        · refine ⟨_, rfl, _, rfl, st, c, 3, rfl, by decide, lt8 (by decide), s11, fun H12 d12 b12 s12 l12 u12 => ⟨d12, 0, rfl, rfl, _, rfl, ite2 (fun e2 => ?_) (fun e2 => ?_)⟩⟩
          · have p12 := p6.but ((b69.trans b11).trans b12) s6
            refine ⟨_, rfl, _, rfl, _, rfl, a2, _, rfl, DPut.k (k := .inr x) p12.1 (small1000 (Nat.le_trans p12.2.2.1 (by omega))), ?_⟩
            exact fin H12 r (b11.trans b12) s12 fr true
          · exact fin H12 r (b11.trans b12) s12 fr false
        · refine ⟨_, rfl, st, c, 3, rfl, by decide, lt8 (by decide), s11, fun H12 d12 b12 s12 l12 u12 => ⟨d12, 0, rfl, rfl, _, rfl, ite2 (fun e2 => ?_) (fun e2 => ?_)⟩⟩
          · have p12 := p6.but ((b69.trans b11).trans b12) s6
            refine ⟨_, rfl, _, rfl, _, rfl, a2, _, rfl, DPut.k (k := .inr x) p12.1 (small1000 (Nat.le_trans p12.2.2.1 (by omega))), ?_⟩
            exact fin H12 p (b11.trans b12) s12 fp10 true
          · exact fin H12 p (b11.trans b12) s12 fp10 false
      · rintro σ H6 ⟨y6, y7, y8, y9, y10, ls, rfl, s6, hu6, d6, p6⟩
        rw [List.length_map, xl] at p6
        refine ⟨_, rfl, a1, kvs, rfl, .inl d6.1, fun c1 nc1 => ?_⟩
        have t1 := same_new (o := .dK kvs) nc1
        have c1a := d6.copy nc1
        refine ⟨_, rfl, a2, ls, rfl, .inl (t1 _ _ p6.1), fun c2 nc2 => ?_⟩
        have t2 := same_new (o := .dK ls) nc2
        have c2a := (p6.same t1).copy nc2
        have c12 : c1 ≠ c2 := ne_of_none c1a.1 nc2
        refine ⟨small2, fun T nT => ?_⟩
        have t3 := same_new (o := .tup [.ref c1, .ref c2]) nT
        have S7 := (t1.trans t2).trans t3
        have C1 := (c1a.same t2).same t3
        have C2 := c2a.same t3
        have hT : (upd (upd (upd H6 c1 (.dK kvs)) c2 (.dK ls)) T (.tup [.ref c1, .ref c2])) T = some (.tup [.ref c1, .ref c2]) := upd_same
        generalize upd (upd (upd H6 c1 (.dK kvs)) c2 (.dK ls)) T (.tup [.ref c1, .ref c2]) = H7 at S7 C1 C2 hT ⊢
        refine ⟨_, rfl, T, _, 0, _, rfl, rfl, SqT.of hT, atI_nat (j := 0) rfl, _, rfl, T, _, 1, _, rfl, rfl, SqT.of hT, atI_nat (j := 1) rfl, c1, c2, kvs, ls, rfl, C1.wide (by decide) (by decide), C2.wide (by decide) (by decide), c12, fun H8 r s8 fr ok => ?_⟩
        refine ⟨_, rfl, r, _, _, rfl, fr, ok.1, ok.2.2.2, fun H9 s9 => ⟨_, rfl, iteF ?_⟩⟩
        have S9 : Same H7 H9 := s8.trans s9
        have S69 : Same H6 H9 := S7.trans S9
        have A1 := d6.same S69
        have A2 := p6.same S69
        refine ⟨_, rfl, _, rfl, _, rfl, a1, a2, kvs, ls, rfl, A1.wide (by decide) (by decide), A2.wide (by decide) (by decide), a12, fun H10 r2 s10 fr2 ok2 => ?_⟩
        have ew : wfold H9 kvs ls = wfold H7 kvs ls := wfold_same C1 C2 S9
        rw [ew] at fr2
        refine ⟨.tuple [.int (wfold H7 kvs ls).1, .int (wfold H7 kvs ls).2], .tuple [.int (wfold H7 kvs ls).1, .int (wfold H7 kvs ls).2], .tup ((fr.new s9).new s10).1 (.cons (.int _) (.cons (.int _) .nil)), .tup fr2.1 (.cons (.int _) (.cons (.int _) .nil)), rfl, rfl, false, ?_, iteF ?_⟩
        · rw [SeqAt.eqv_refl _ rfl]
          rfl
        · refine ⟨_, rfl, _, rfl, _, rfl, small2, fun T2 nT2 => ?_⟩
          have t4 := same_new (o := .tup [.ref a1, .ref a2]) nT2
          have S11 := (S9.trans s10).trans t4
          have B1 := (A1.same s10).same t4
          have B2 := (A2.same s10).same t4
          refine ⟨T, T2, _, _, rfl, rfl, SqT.of (S11 _ _ hT), SqT.of upd_same, .cons (deq_self B1 (S11 _ _ C1.1)) (.cons (deq_self B2 (S11 _ _ C2.1)) .nil), false, rfl, iteF ?_⟩
          exact ⟨_, _, _, _, _, _, _, _, rfl, (s6.same (S69.trans s10)).same t4, t4 _ _ (s10 _ _ (S69 _ _ hu6))⟩
    · rintro σ H3 ⟨y3, y4, y5, y6, y7, y8, y9, y10, rfl, s3, hu3⟩
      intro e1 ne1
      intro e2 ne2
      have t1 := same_new (o := .dK []) ne1
      have t2 := same_new (o := .dK []) ne2
      have em : ∀ (k m : Nat) (H : Hp) (x : Addr), H x = some (.dK []) → DF k m H x [] := fun k m H x hh => ⟨hh, List.nodup_nil, Nat.zero_le _, fun p hp => absurd hp List.not_mem_nil⟩
      have n12 : e1 ≠ e2 := ne_of_none (upd_same (H := H3) (a := e1) (o := .dK [])) ne2
      refine ⟨e1, e2, [], [], rfl, em _ _ _ _ (t2 _ _ upd_same), em _ _ _ _ upd_same, n12, fun H4 r s4 fr _ => ?_⟩
      refine ⟨small2, fun T nT => ?_⟩
      have t3 := same_new (o := .tup [.int 0, .int 1]) nT
      refine ⟨.tuple [.int 0, .int 1], .tuple [.int 0, .int 1], .tup (fr.new t3).1 (.cons (.int _) (.cons (.int _) .nil)), .tup (SqT.of upd_same) (.cons (.int _) (.cons (.int _) .nil)), rfl, rfl, ?_⟩
      exact q _
end
end SS
namespace SS
open PySem PySem.Spec PyProof.Rows L2
/-! ### what the top leaves -/
theorem all_mk {l : PySem.W.OpenLaw} {w : World} {K : PySem.W.Frag} {h : Heap} {mg : Str → Option Value} {fa : Addr} (X : K.In h) (G : h.Ns mainGlobals mg) (hfa : mg "law" = some (.ref fa))
    {f0 : Addr} {od0 an0 : Option Addr} {sl0 : Array (Option Value)} {oc0 kV0 dc0 pm0 cd0 ct0 : Value}
    {f1 : Addr} {od1 an1 : Option Addr} {sl1 : Array (Option Value)} {oc1 kV1 dc1 pm1 cd1 ct1 : Value}
    {T1 : Addr} {odT1 : Option Addr} {slT1 : Array (Option Value)} {ocT1 : Value} {nT1 : Nat} {tT1 : Tok}
    {f2 : Addr} {od2 an2 : Option Addr} {sl2 : Array (Option Value)} {oc2 kV2 dc2 pm2 cd2 ct2 : Value}
    {f3 : Addr} {od3 an3 : Option Addr} {sl3 : Array (Option Value)} {oc3 kV3 dc3 pm3 cd3 ct3 : Value}
    {f4 : Addr} {od4 an4 : Option Addr} {sl4 : Array (Option Value)} {oc4 kV4 dc4 pm4 cd4 ct4 : Value}
    {f5 : Addr} {od5 an5 : Option Addr} {sl5 : Array (Option Value)} {oc5 kV5 dc5 pm5 cd5 ct5 : Value}
    {f6 : Addr} {od6 an6 : Option Addr} {sl6 : Array (Option Value)} {oc6 kV6 dc6 pm6 cd6 ct6 : Value}
    {f7 : Addr} {od7 an7 : Option Addr} {sl7 : Array (Option Value)} {oc7 kV7 dc7 pm7 cd7 ct7 : Value}
    {f8 : Addr} {od8 an8 : Option Addr} {sl8 : Array (Option Value)} {oc8 kV8 dc8 pm8 cd8 ct8 : Value}
    {f9 : Addr} {od9 an9 : Option Addr} {sl9 : Array (Option Value)} {oc9 kV9 dc9 pm9 cd9 ct9 : Value}
    {f10 : Addr} {od10 an10 : Option Addr} {sl10 : Array (Option Value)} {oc10 kV10 dc10 pm10 cd10 ct10 : Value}
    {f11 : Addr} {od11 an11 : Option Addr} {sl11 : Array (Option Value)} {oc11 kV11 dc11 pm11 cd11 ct11 : Value}
    {f12 : Addr} {od12 an12 : Option Addr} {sl12 : Array (Option Value)} {oc12 kV12 dc12 pm12 cd12 ct12 : Value}
    {f13 : Addr} {od13 an13 : Option Addr} {sl13 : Array (Option Value)} {oc13 kV13 dc13 pm13 cd13 ct13 : Value}
    {f14 : Addr} {od14 an14 : Option Addr} {sl14 : Array (Option Value)} {oc14 kV14 dc14 pm14 cd14 ct14 : Value}
    {f15 : Addr} {od15 an15 : Option Addr} {sl15 : Array (Option Value)} {oc15 kV15 dc15 pm15 cd15 ct15 : Value}
    {f16 : Addr} {od16 an16 : Option Addr} {sl16 : Array (Option Value)} {oc16 kV16 dc16 pm16 cd16 ct16 : Value}
    {f17 : Addr} {od17 an17 : Option Addr} {sl17 : Array (Option Value)} {oc17 kV17 dc17 pm17 cd17 ct17 : Value}
    {f18 : Addr} {od18 an18 : Option Addr} {sl18 : Array (Option Value)} {oc18 kV18 dc18 pm18 cd18 ct18 : Value}
    {f19 : Addr} {od19 an19 : Option Addr} {sl19 : Array (Option Value)} {oc19 kV19 dc19 pm19 cd19 ct19 : Value}
    {f20 : Addr} {od20 an20 : Option Addr} {sl20 : Array (Option Value)} {oc20 kV20 dc20 pm20 cd20 ct20 : Value}
    {f21 : Addr} {od21 an21 : Option Addr} {sl21 : Array (Option Value)} {oc21 kV21 dc21 pm21 cd21 ct21 : Value}
    {C : Addr} {tSb : Tok} {aN : Addr} {odN : Option Addr} {tN0 tN1 : Tok} {nN : Nat} {slN : Array (Option Value)}
    (a0 : PySem.W.nsIn K mainGlobals "common_divisor" = some (some (.ref f0)))
    (l0 : K.lookup f0 = some ⟨oc0, od0, .func (PySem.W.fnOf "common_divisor" "common_divisor" (defArgs sCd) (defBody sCd) (defScope sCd) .none kV0 dc0 pm0 an0 cd0 ct0), sl0⟩)
    (c0 : PySem.W.codeIn K cd0 "common_divisor" = true)
    (k0 : PySem.W.keepIn K (.ref f0) = true)
    (a1 : PySem.W.nsIn K mainGlobals "fraction_of" = some (some (.ref f1)))
    (l1 : K.lookup f1 = some ⟨oc1, od1, .func (PySem.W.fnOf "fraction_of" "fraction_of" (defArgs sFo) (defBody sFo) (defScope sFo) (.ref T1) kV1 dc1 pm1 an1 cd1 ct1), sl1⟩)
    (t1 : K.lookup T1 = some ⟨ocT1, odT1, .seq #[.int 1 tT1] nT1, slT1⟩)
    (c1 : PySem.W.codeIn K cd1 "fraction_of" = true)
    (k1 : PySem.W.keepIn K (.ref f1) = true)
    (a2 : PySem.W.nsIn K mainGlobals "are_short" = some (some (.ref f2)))
    (l2 : K.lookup f2 = some ⟨oc2, od2, .func (PySem.W.fnOf "are_short" "are_short" (defArgs sAre) (defBody sAre) (defScope sAre) .none kV2 dc2 pm2 an2 cd2 ct2), sl2⟩)
    (c2 : PySem.W.codeIn K cd2 "are_short" = true)
    (k2 : PySem.W.keepIn K (.ref f2) = true)
    (a3 : PySem.W.nsIn K mainGlobals "plus" = some (some (.ref f3)))
    (l3 : K.lookup f3 = some ⟨oc3, od3, .func (PySem.W.fnOf "plus" "plus" (defArgs sPlus) (defBody sPlus) (defScope sPlus) .none kV3 dc3 pm3 an3 cd3 ct3), sl3⟩)
    (c3 : PySem.W.codeIn K cd3 "plus" = true)
    (k3 : PySem.W.keepIn K (.ref f3) = true)
    (a4 : PySem.W.nsIn K mainGlobals "times" = some (some (.ref f4)))
    (l4 : K.lookup f4 = some ⟨oc4, od4, .func (PySem.W.fnOf "times" "times" (defArgs sTimes) (defBody sTimes) (defScope sTimes) .none kV4 dc4 pm4 an4 cd4 ct4), sl4⟩)
    (c4 : PySem.W.codeIn K cd4 "times" = true)
    (k4 : PySem.W.keepIn K (.ref f4) = true)
    (a5 : PySem.W.nsIn K mainGlobals "worth_at" = some (some (.ref f5)))
    (l5 : K.lookup f5 = some ⟨oc5, od5, .func (PySem.W.fnOf "worth_at" "worth_at" (defArgs sWorth) (defBody sWorth) (defScope sWorth) .none kV5 dc5 pm5 an5 cd5 ct5), sl5⟩)
    (c5 : PySem.W.codeIn K cd5 "worth_at" = true)
    (k5 : PySem.W.keepIn K (.ref f5) = true)
    (a6 : PySem.W.nsIn K mainGlobals "_law_fresh" = some (some (.ref f6)))
    (l6 : K.lookup f6 = some ⟨oc6, od6, .func (PySem.W.fnOf "_law_fresh" "_law_fresh" (defArgs sFresh) (defBody sFresh) (defScope sFresh) .none kV6 dc6 pm6 an6 cd6 ct6), sl6⟩)
    (c6 : PySem.W.codeIn K cd6 "_law_fresh" = true)
    (k6 : PySem.W.keepIn K (.ref f6) = true)
    (a7 : PySem.W.nsIn K mainGlobals "_law_mixed" = some (some (.ref f7)))
    (l7 : K.lookup f7 = some ⟨oc7, od7, .func (PySem.W.fnOf "_law_mixed" "_law_mixed" (defArgs sMixed) (defBody sMixed) (defScope sMixed) .none kV7 dc7 pm7 an7 cd7 ct7), sl7⟩)
    (c7 : PySem.W.codeIn K cd7 "_law_mixed" = true)
    (k7 : PySem.W.keepIn K (.ref f7) = true)
    (a8 : PySem.W.nsIn K mainGlobals "_law_fill" = some (some (.ref f8)))
    (l8 : K.lookup f8 = some ⟨oc8, od8, .func (PySem.W.fnOf "_law_fill" "_law_fill" (defArgs sFill) (defBody sFill) (defScope sFill) .none kV8 dc8 pm8 an8 cd8 ct8), sl8⟩)
    (c8 : PySem.W.codeIn K cd8 "_law_fill" = true)
    (k8 : PySem.W.keepIn K (.ref f8) = true)
    (a9 : PySem.W.nsIn K mainGlobals "_law_take" = some (some (.ref f9)))
    (l9 : K.lookup f9 = some ⟨oc9, od9, .func (PySem.W.fnOf "_law_take" "_law_take" (defArgs sTake) (defBody sTake) (defScope sTake) .none kV9 dc9 pm9 an9 cd9 ct9), sl9⟩)
    (c9 : PySem.W.codeIn K cd9 "_law_take" = true)
    (k9 : PySem.W.keepIn K (.ref f9) = true)
    (a10 : PySem.W.nsIn K mainGlobals "_law_whole" = some (some (.ref f10)))
    (l10 : K.lookup f10 = some ⟨oc10, od10, .func (PySem.W.fnOf "_law_whole" "_law_whole" (defArgs sWhole) (defBody sWhole) (defScope sWhole) .none kV10 dc10 pm10 an10 cd10 ct10), sl10⟩)
    (c10 : PySem.W.codeIn K cd10 "_law_whole" = true)
    (k10 : PySem.W.keepIn K (.ref f10) = true)
    (a11 : PySem.W.nsIn K mainGlobals "_law_shared" = some (some (.ref f11)))
    (l11 : K.lookup f11 = some ⟨oc11, od11, .func (PySem.W.fnOf "_law_shared" "_law_shared" (defArgs sSh) (defBody sSh) (defScope sSh) .none kV11 dc11 pm11 an11 cd11 ct11), sl11⟩)
    (c11 : PySem.W.codeIn K cd11 "_law_shared" = true)
    (k11 : PySem.W.keepIn K (.ref f11) = true)
    (a12 : PySem.W.nsIn K mainGlobals "_law_frac" = some (some (.ref f12)))
    (l12 : K.lookup f12 = some ⟨oc12, od12, .func (PySem.W.fnOf "_law_frac" "_law_frac" (defArgs sFrac) (defBody sFrac) (defScope sFrac) .none kV12 dc12 pm12 an12 cd12 ct12), sl12⟩)
    (c12 : PySem.W.codeIn K cd12 "_law_frac" = true)
    (k12 : PySem.W.keepIn K (.ref f12) = true)
    (a13 : PySem.W.nsIn K mainGlobals "_law_plus" = some (some (.ref f13)))
    (l13 : K.lookup f13 = some ⟨oc13, od13, .func (PySem.W.fnOf "_law_plus" "_law_plus" (defArgs sLPlus) (defBody sLPlus) (defScope sLPlus) .none kV13 dc13 pm13 an13 cd13 ct13), sl13⟩)
    (c13 : PySem.W.codeIn K cd13 "_law_plus" = true)
    (k13 : PySem.W.keepIn K (.ref f13) = true)
    (a14 : PySem.W.nsIn K mainGlobals "_law_times" = some (some (.ref f14)))
    (l14 : K.lookup f14 = some ⟨oc14, od14, .func (PySem.W.fnOf "_law_times" "_law_times" (defArgs sLTimes) (defBody sLTimes) (defScope sLTimes) .none kV14 dc14 pm14 an14 cd14 ct14), sl14⟩)
    (c14 : PySem.W.codeIn K cd14 "_law_times" = true)
    (k14 : PySem.W.keepIn K (.ref f14) = true)
    (a15 : PySem.W.nsIn K mainGlobals "_law_is_fraction" = some (some (.ref f15)))
    (l15 : K.lookup f15 = some ⟨oc15, od15, .func (PySem.W.fnOf "_law_is_fraction" "_law_is_fraction" (defArgs sIsf) (defBody sIsf) (defScope sIsf) .none kV15 dc15 pm15 an15 cd15 ct15), sl15⟩)
    (c15 : PySem.W.codeIn K cd15 "_law_is_fraction" = true)
    (k15 : PySem.W.keepIn K (.ref f15) = true)
    (a16 : PySem.W.nsIn K mainGlobals "_law_worth" = some (some (.ref f16)))
    (l16 : K.lookup f16 = some ⟨oc16, od16, .func (PySem.W.fnOf "_law_worth" "_law_worth" (defArgs sLWorth) (defBody sLWorth) (defScope sLWorth) .none kV16 dc16 pm16 an16 cd16 ct16), sl16⟩)
    (c16 : PySem.W.codeIn K cd16 "_law_worth" = true)
    (k16 : PySem.W.keepIn K (.ref f16) = true)
    (a17 : PySem.W.nsIn K mainGlobals "_law_some_name" = some (some (.ref f17)))
    (l17 : K.lookup f17 = some ⟨oc17, od17, .func (PySem.W.fnOf "_law_some_name" "_law_some_name" (defArgs sSname) (defBody sSname) (defScope sSname) .none kV17 dc17 pm17 an17 cd17 ct17), sl17⟩)
    (c17 : PySem.W.codeIn K cd17 "_law_some_name" = true)
    (k17 : PySem.W.keepIn K (.ref f17) = true)
    (a18 : PySem.W.nsIn K mainGlobals "_law_names" = some (some (.ref f18)))
    (l18 : K.lookup f18 = some ⟨oc18, od18, .func (PySem.W.fnOf "_law_names" "_law_names" (defArgs sNames) (defBody sNames) (defScope sNames) .none kV18 dc18 pm18 an18 cd18 ct18), sl18⟩)
    (c18 : PySem.W.codeIn K cd18 "_law_names" = true)
    (k18 : PySem.W.keepIn K (.ref f18) = true)
    (a19 : PySem.W.nsIn K mainGlobals "_law_number" = some (some (.ref f19)))
    (l19 : K.lookup f19 = some ⟨oc19, od19, .func (PySem.W.fnOf "_law_number" "_law_number" (defArgs sNumber) (defBody sNumber) (defScope sNumber) .none kV19 dc19 pm19 an19 cd19 ct19), sl19⟩)
    (c19 : PySem.W.codeIn K cd19 "_law_number" = true)
    (k19 : PySem.W.keepIn K (.ref f19) = true)
    (a20 : PySem.W.nsIn K mainGlobals "_law_some_sum" = some (some (.ref f20)))
    (l20 : K.lookup f20 = some ⟨oc20, od20, .func (PySem.W.fnOf "_law_some_sum" "_law_some_sum" (defArgs sSsum) (defBody sSsum) (defScope sSsum) .none kV20 dc20 pm20 an20 cd20 ct20), sl20⟩)
    (c20 : PySem.W.codeIn K cd20 "_law_some_sum" = true)
    (k20 : PySem.W.keepIn K (.ref f20) = true)
    (a21 : PySem.W.nsIn K mainGlobals "law" = some (some (.ref f21)))
    (l21 : K.lookup f21 = some ⟨oc21, od21, .func (PySem.W.fnOf "law" "law" (defArgs sLaw) (defBody sLaw) (defScope sLaw) .none kV21 dc21 pm21 an21 cd21 ct21), sl21⟩)
    (c21 : PySem.W.codeIn K cd21 "law" = true)
    (k21 : PySem.W.keepIn K (.ref f21) = true)
    (z_abs : PySem.W.nsIn K mainGlobals "abs" = some none)
    (z_enumerate : PySem.W.nsIn K mainGlobals "enumerate" = some none)
    (z_len : PySem.W.nsIn K mainGlobals "len" = some none)
    (z_isinstance : PySem.W.nsIn K mainGlobals "isinstance" = some none)
    (z_int : PySem.W.nsIn K mainGlobals "int" = some none)
    (z_bool : PySem.W.nsIn K mainGlobals "bool" = some none)
    (z_tuple : PySem.W.nsIn K mainGlobals "tuple" = some none)
    (z_all : PySem.W.nsIn K mainGlobals "all" = some none)
    (z_range : PySem.W.nsIn K mainGlobals "range" = some none)
    (z_dict : PySem.W.nsIn K mainGlobals "dict" = some none)
    (g_C : PySem.W.nsIn K mainGlobals "NoFraction" = some (some (.ref C)))
    (x_C : PySem.W.excIn K C [.type "ValueError", .type "Exception", .type "BaseException", .type "object"] "ValueError.__new__" = true)
    (k_C : PySem.W.keepIn K (.ref C) = true)
    (b_C : PySem.W.subIn K (.ref C) (.type "BaseException") = some true)
    (t_C : PySem.W.typeIn K (.ref C) = some (.type "type"))
    (aSb : PySem.W.nsIn K mainGlobals "SHORT_BITS" = some (some (.int 256 tSb)))
    (aNn : PySem.W.nsIn K mainGlobals "NOUGHT" = some (some (.ref aN)))
    (lN : K.lookup aN = some ⟨.type "tuple", odN, .seq #[.int 0 tN0, .int 1 tN1] nN, slN⟩)
    :
    ∃ fd : FuncData, (∀ (s : Shared) (v : Value), BindsTo s fd ⟨[v], []⟩ [("_law_script", v)]) ∧ ∀ base : Heap, K.In base → base.Ns mainGlobals mg → FnOk l.prog w K mg base CX0 6 fa fd ["_law_script"] (spLaw K) := by
  have e := hfa.symm.trans (PySem.W.mg_of X G a21)
  cases e
  have F0 := fun_mk (st := sCd) l0 c0 k0
  have b0 := F0.binds (ps := ["a", "b"]) fun _ _ _ _ _ _ us hl => match us, hl with | [_, _], _ => rfl
  have m0 := PySem.W.mg_of X G a0
  have F1 : FunD K "fraction_of" "fraction_of" (defArgs sFo) (defBody sFo) (defScope sFo) [.int 1] [] f1 _ := ⟨⟨oc1, od1, .ref T1, kV1, dc1, pm1, an1, cd1, ct1, sl1, rfl, l1, c1, .inr ⟨by decide, T1, _, [.int 1 tT1], nT1, rfl, t1, rfl, .cons ⟨_, rfl⟩ .nil⟩, .inl rfl⟩, k1⟩
  obtain ⟨ds1, vd1, b1⟩ := F1.binds1 (ps := ["top", "bottom"]) 2 1 (by decide) rfl fun T kV doc pm an cdv ct us its hl hi => match us, its, hl, hi with | [_, _], [_], _, _ => ⟨_, rfl, rfl⟩
  obtain ⟨es1, ve1, d1⟩ := F1.binds1 (ps := ["top", "bottom"]) 1 0 (by decide) rfl fun T kV doc pm an cdv ct us its hl hi => match us, its, hl, hi with | [_], [_], _, _ => ⟨_, rfl, rfl⟩
  have m1 := PySem.W.mg_of X G a1
  have F2 := fun_mk (st := sAre) l2 c2 k2
  have b2 := F2.binds (ps := ["a", "b"]) fun _ _ _ _ _ _ us hl => match us, hl with | [_, _], _ => rfl
  have m2 := PySem.W.mg_of X G a2
  have F3 := fun_mk (st := sPlus) l3 c3 k3
  have b3 := F3.binds (ps := ["a", "b"]) fun _ _ _ _ _ _ us hl => match us, hl with | [_, _], _ => rfl
  have m3 := PySem.W.mg_of X G a3
  have F4 := fun_mk (st := sTimes) l4 c4 k4
  have b4 := F4.binds (ps := ["a", "b"]) fun _ _ _ _ _ _ us hl => match us, hl with | [_, _], _ => rfl
  have m4 := PySem.W.mg_of X G a4
  have F5 := fun_mk (st := sWorth) l5 c5 k5
  have b5 := F5.binds (ps := ["one", "point"]) fun _ _ _ _ _ _ us hl => match us, hl with | [_, _], _ => rfl
  have m5 := PySem.W.mg_of X G a5
  have F6 := fun_mk (st := sFresh) l6 c6 k6
  have b6 := F6.binds (ps := ["_law_script"]) fun _ _ _ _ _ _ us hl => match us, hl with | [_], _ => rfl
  have m6 := PySem.W.mg_of X G a6
  have F7 := fun_mk (st := sMixed) l7 c7 k7
  have b7 := F7.binds (ps := ["_law_seed"]) fun _ _ _ _ _ _ us hl => match us, hl with | [_], _ => rfl
  have m7 := PySem.W.mg_of X G a7
  have F8 := fun_mk (st := sFill) l8 c8 k8
  have b8 := F8.binds (ps := ["_law_state"]) fun _ _ _ _ _ _ us hl => match us, hl with | [_], _ => rfl
  have m8 := PySem.W.mg_of X G a8
  have F9 := fun_mk (st := sTake) l9 c9 k9
  have b9 := F9.binds (ps := ["_law_state", "_law_many"]) fun _ _ _ _ _ _ us hl => match us, hl with | [_, _], _ => rfl
  have m9 := PySem.W.mg_of X G a9
  have F10 := fun_mk (st := sWhole) l10 c10 k10
  have b10 := F10.binds (ps := ["_law_thing"]) fun _ _ _ _ _ _ us hl => match us, hl with | [_], _ => rfl
  have m10 := PySem.W.mg_of X G a10
  have F11 := fun_mk (st := sSh) l11 c11 k11
  have b11 := F11.binds (ps := ["_law_one", "_law_other"]) fun _ _ _ _ _ _ us hl => match us, hl with | [_, _], _ => rfl
  have m11 := PySem.W.mg_of X G a11
  have F12 := fun_mk (st := sFrac) l12 c12 k12
  have b12 := F12.binds (ps := ["_law_top", "_law_bottom"]) fun _ _ _ _ _ _ us hl => match us, hl with | [_, _], _ => rfl
  have m12 := PySem.W.mg_of X G a12
  have F13 := fun_mk (st := sLPlus) l13 c13 k13
  have b13 := F13.binds (ps := ["_law_a", "_law_b"]) fun _ _ _ _ _ _ us hl => match us, hl with | [_, _], _ => rfl
  have m13 := PySem.W.mg_of X G a13
  have F14 := fun_mk (st := sLTimes) l14 c14 k14
  have b14 := F14.binds (ps := ["_law_a", "_law_b"]) fun _ _ _ _ _ _ us hl => match us, hl with | [_, _], _ => rfl
  have m14 := PySem.W.mg_of X G a14
  have F15 := fun_mk (st := sIsf) l15 c15 k15
  have b15 := F15.binds (ps := ["_law_thing"]) fun _ _ _ _ _ _ us hl => match us, hl with | [_], _ => rfl
  have m15 := PySem.W.mg_of X G a15
  have F16 := fun_mk (st := sLWorth) l16 c16 k16
  have b16 := F16.binds (ps := ["_law_one", "_law_point"]) fun _ _ _ _ _ _ us hl => match us, hl with | [_, _], _ => rfl
  have m16 := PySem.W.mg_of X G a16
  have F17 := fun_mk (st := sSname) l17 c17 k17
  have b17 := F17.binds (ps := ["_law_state"]) fun _ _ _ _ _ _ us hl => match us, hl with | [_], _ => rfl
  have m17 := PySem.W.mg_of X G a17
  have F18 := fun_mk (st := sNames) l18 c18 k18
  have b18 := F18.binds (ps := ["_law_state", "_law_many"]) fun _ _ _ _ _ _ us hl => match us, hl with | [_, _], _ => rfl
  have m18 := PySem.W.mg_of X G a18
  have F19 := fun_mk (st := sNumber) l19 c19 k19
  have b19 := F19.binds (ps := ["_law_state"]) fun _ _ _ _ _ _ us hl => match us, hl with | [_], _ => rfl
  have m19 := PySem.W.mg_of X G a19
  have F20 := fun_mk (st := sSsum) l20 c20 k20
  have b20 := F20.binds (ps := ["_law_state", "_law_unknowns"]) fun _ _ _ _ _ _ us hl => match us, hl with | [_, _], _ => rfl
  have m20 := PySem.W.mg_of X G a20
  have F21 := fun_mk (st := sLaw) l21 c21 k21
  have n_abs := PySem.W.mg_none_of X G z_abs
  have n_enumerate := PySem.W.mg_none_of X G z_enumerate
  have n_len := PySem.W.mg_none_of X G z_len
  have n_isinstance := PySem.W.mg_none_of X G z_isinstance
  have n_int := PySem.W.mg_none_of X G z_int
  have n_bool := PySem.W.mg_none_of X G z_bool
  have n_tuple := PySem.W.mg_none_of X G z_tuple
  have n_all := PySem.W.mg_none_of X G z_all
  have n_range := PySem.W.mg_none_of X G z_range
  have n_dict := PySem.W.mg_none_of X G z_dict
  have mg_C := PySem.W.mg_of X G g_C
  have T_C : ExT K mg "NoFraction" C := ⟨mg_C, x_C, k_C, b_C, t_C⟩
  refine ⟨PySem.W.fnOf "law" "law" (defArgs sLaw) (defBody sLaw) (defScope sLaw) .none kV21 dc21 pm21 an21 cd21 ct21, fun s v => .of_eq rfl, fun base _ _ => ?_⟩
  have hN : ∀ H, FrT K H aN 0 1 := fun H => ⟨.inr ⟨_, _, _, lN, rfl, rfl, (by show 2 ≤ sizeLine; decide), .cons ⟨_, rfl⟩ (.cons ⟨_, rfl⟩ .nil)⟩, .kTuple lN rfl⟩
  have gN := PySem.W.mg_of X G aNn
  have cd := Cl.mk0 (P := l.prog) (w := w) (base := base) (ok_cd (k := 0) F0 n_abs) m0 k0 b0
  cases vd1
  have fo := Cl.mk0 (P := l.prog) (w := w) (base := base) (ok_fo F1 T_C cd) m1 k1 b1
  have gSb := PySem.W.mg_of X G aSb
  have ar := Cl.mk0 (P := l.prog) (w := w) (base := base) (ok_are (k := 0) F2 gSb) m2 k2 b2
  have pl := Cl.mk0 (P := l.prog) (w := w) (base := base) (ok_plus F3 fo cd ar) m3 k3 b3
  have tm := Cl.mk0 (P := l.prog) (w := w) (base := base) (ok_times F4 fo cd ar) m4 k4 b4
  have wo := Cl.mk0 (P := l.prog) (w := w) (base := base) (ok_worth F5 gN hN pl tm) m5 k5 b5
  have fs := Cl.mk0 (P := l.prog) (w := w) (base := base) (ok_fresh (k := 0) F6) m6 k6 b6
  have mx := Cl.mk0 (P := l.prog) (w := w) (base := base) (ok_mixed (k := 0) F7 n_enumerate) m7 k7 b7
  have fl := Cl.mk0 (P := l.prog) (w := w) (base := base) (ok_fill F8 n_len mx) m8 k8 b8
  have tk := Cl.mk0 (P := l.prog) (w := w) (base := base) (ok_take F9 fl) m9 k9 b9
  have wh := Cl.mk0 (P := l.prog) (w := w) (base := base) (ok_whole (k := 0) F10 n_isinstance n_int n_bool) m10 k10 b10
  have sh := Cl.mk0 (P := l.prog) (w := w) (base := base) (ok_sh (k := 0) F11 n_abs) m11 k11 b11
  have fc := Cl.mk0 (P := l.prog) (w := w) (base := base) (ok_frac F12 sh) m12 k12 b12
  have lpl := Cl.mk0 (P := l.prog) (w := w) (base := base) (ok_lplus F13 fc) m13 k13 b13
  have ltm := Cl.mk0 (P := l.prog) (w := w) (base := base) (ok_ltimes F14 fc) m14 k14 b14
  have isf := Cl.mk0 (P := l.prog) (w := w) (base := base) (ok_isf F15 n_isinstance n_tuple n_len n_all wh sh) m15 k15 b15
  have lw := Cl.mk0 (P := l.prog) (w := w) (base := base) (ok_lworth F16 lpl ltm) m16 k16 b16
  have sn := Cl.mk0 (P := l.prog) (w := w) (base := base) (ok_sname F17 n_range tk) m17 k17 b17
  have nn := Cl.mk0 (P := l.prog) (w := w) (base := base) (ok_names F18 n_range sn) m18 k18 b18
  have nm := Cl.mk0 (P := l.prog) (w := w) (base := base) (ok_number F19 tk fc) m19 k19 b19
  have ss := Cl.mk0 (P := l.prog) (w := w) (base := base) (ok_ssum F20 n_len tk nm) m20 k20 b20
  exact ok_law F21 n_range n_dict fs nn ss tk nm fc wo isf lw
end SS
open PySem PySem.W PyProof.Rows
set_option maxRecDepth 100000 in
set_option maxHeartbeats 0 in
theorem PySem.Challenge.cw_scopestore_k05_worths_at_points_holds : PySem.Challenge.rw_scopestore_k05_worths_at_points.Holds := by
  w_on; o_law; k_head; (case hw => w_witness2)
  k_fill
  refine L2.walk_of (l := PySem.Challenge.rw_scopestore_k05_worths_at_points) (n := 63) (k := 6) (x := "_law_script") (CX := fun _ => L2.CX0) (sp := fun w => SS.spLaw _) rfl (by decide) rfl ⟨rfl, by decide, by decide⟩ (fun w h Y => PySem.W.kIn_of Y) ?F (fun _ _ a ns hl _ hS => ⟨a, ns, rfl, hS, fun _ => rfl⟩) (fun _ _ _ _ _ h => h)
  case F =>
    intro w mg fa h KX G hmg
    refine' SS.all_mk KX G hmg ?a0 ?l0 ?c0 ?k0 ?a1 ?l1 ?t1 ?c1 ?k1 ?a2 ?l2 ?c2 ?k2 ?a3 ?l3 ?c3 ?k3 ?a4 ?l4 ?c4 ?k4 ?a5 ?l5 ?c5 ?k5 ?a6 ?l6 ?c6 ?k6 ?a7 ?l7 ?c7 ?k7 ?a8 ?l8 ?c8 ?k8 ?a9 ?l9 ?c9 ?k9 ?a10 ?l10 ?c10 ?k10 ?a11 ?l11 ?c11 ?k11 ?a12 ?l12 ?c12 ?k12 ?a13 ?l13 ?c13 ?k13 ?a14 ?l14 ?c14 ?k14 ?a15 ?l15 ?c15 ?k15 ?a16 ?l16 ?c16 ?k16 ?a17 ?l17 ?c17 ?k17 ?a18 ?l18 ?c18 ?k18 ?a19 ?l19 ?c19 ?k19 ?a20 ?l20 ?c20 ?k20 ?a21 ?l21 ?c21 ?k21 ?z_abs ?z_enumerate ?z_len ?z_isinstance ?z_int ?z_bool ?z_tuple ?z_all ?z_range ?z_dict ?g_C ?x_C ?k_C ?b_C ?t_C ?aSb ?aNn ?lN
    (case a0 => k_is)
    (case l0 => k_is)
    (case c0 => k_is)
    (case k0 => k_is)
    (case a1 => k_is)
    (case l1 => k_is)
    (case t1 => k_is)
    (case c1 => k_is)
    (case k1 => k_is)
    (case a2 => k_is)
    (case l2 => k_is)
    (case c2 => k_is)
    (case k2 => k_is)
    (case a3 => k_is)
    (case l3 => k_is)
    (case c3 => k_is)
    (case k3 => k_is)
    (case a4 => k_is)
    (case l4 => k_is)
    (case c4 => k_is)
    (case k4 => k_is)
    (case a5 => k_is)
    (case l5 => k_is)
    (case c5 => k_is)
    (case k5 => k_is)
    (case a6 => k_is)
    (case l6 => k_is)
    (case c6 => k_is)
    (case k6 => k_is)
    (case a7 => k_is)
    (case l7 => k_is)
    (case c7 => k_is)
    (case k7 => k_is)
    (case a8 => k_is)
    (case l8 => k_is)
    (case c8 => k_is)
    (case k8 => k_is)
    (case a9 => k_is)
    (case l9 => k_is)
    (case c9 => k_is)
    (case k9 => k_is)
    (case a10 => k_is)
    (case l10 => k_is)
    (case c10 => k_is)
    (case k10 => k_is)
    (case a11 => k_is)
    (case l11 => k_is)
    (case c11 => k_is)
    (case k11 => k_is)
    (case a12 => k_is)
    (case l12 => k_is)
    (case c12 => k_is)
    (case k12 => k_is)
    (case a13 => k_is)
    (case l13 => k_is)
    (case c13 => k_is)
    (case k13 => k_is)
    (case a14 => k_is)
    (case l14 => k_is)
    (case c14 => k_is)
    (case k14 => k_is)
    (case a15 => k_is)
    (case l15 => k_is)
    (case c15 => k_is)
    (case k15 => k_is)
    (case a16 => k_is)
    (case l16 => k_is)
    (case c16 => k_is)
    (case k16 => k_is)
    (case a17 => k_is)
    (case l17 => k_is)
    (case c17 => k_is)
    (case k17 => k_is)
    (case a18 => k_is)
    (case l18 => k_is)
    (case c18 => k_is)
    (case k18 => k_is)
    (case a19 => k_is)
    (case l19 => k_is)
    (case c19 => k_is)
    (case k19 => k_is)
    (case a20 => k_is)
    (case l20 => k_is)
    (case c20 => k_is)
    (case k20 => k_is)
    (case a21 => k_is)
    (case l21 => k_is)
    (case c21 => k_is)
    (case k21 => k_is)
    (case z_abs => k_is)
    (case z_enumerate => k_is)
    (case z_len => k_is)
    (case z_isinstance => k_is)
    (case z_int => k_is)
    (case z_bool => k_is)
    (case z_tuple => k_is)
    (case z_all => k_is)
    (case z_range => k_is)
    (case z_dict => k_is)
    (case g_C => k_is)
    (case x_C => first | k_is | k_exc | rfl | decide +kernel)
    (case k_C => k_is)
    (case b_C => k_is)
    (case t_C => k_is)
    (case aSb => k_is)
    (case aNn => k_is)
    (case lN => k_is)
